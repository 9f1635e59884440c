/- The walk of the law MacRows. -/
import Derived.Test.YtaalpmlmogfooaaDoorMacSt
namespace Go.Proofs.YtaalpmlmogfooaaDoor
open Go Go.RowKit

set_option maxHeartbeats 6000000 in
set_option maxRecDepth 100000 in
theorem macRows_walk (ks info : List Int) (v : Value) (n : Int) (hn : 0 ≤ n ∧ n ≤ 255) (hkl : ks.length = 32) (hkb : Bytes ks) (hib : Bytes info) (w : World) (ht : Tab w) (hv : SlOld w v info) :
    Calls Tryd.prog 7 #[.agg (u8s ks).toArray, v, .int .u8 n] w fun e w' => e = .returned (.bool true) ∧ Below w.heap.size w w' := by
  obtain ⟨pi, ci, rfl, _⟩ := hv.len
  obtain ⟨hn0, hn1⟩ := hn
  have hm := Mem.start w
  have HT : Hid _ := ht
  have HKL : Hid _ := hkl
  have HKB : Hid _ := hkb
  have HIB : Hid _ := hib
  have HV : Hid (SlOld w (.slice pi info.length ci) info) := hv
  have HU : Hid ((u8s ks).length = 32) := by show _ = _; rw [u8s_length]; exact hkl
  clear ht hkl hkb hib hv
  by_cases h50 : 50 < info.length
  · have h5i : (50 : Int) < (info.length : Int) := by omega
    go_enter Tryd.func7, Tryd.ntmps7
    go_wp2_with (first
      | ((with_reducible refine at_op (some 3) (.box 24 (.tmp 0)) ?_); refine wpl_box (u8s ks) rfl hm ?_; clear hm; intro w1 g3 hm)
      | (go_at_call 9; refine (known_any _ (Tab.mem HT.out hm (by simp))).mono ?_; rintro e w3 ⟨rfl, hb⟩; replace hm := hm.call hb; clear hb))
    go_ret
    exact ⟨rfl, hm.below⟩
  have h5i : ¬ (50 : Int) < (info.length : Int) := by omega
  obtain ⟨M, hM⟩ : ∃ M : Nat, n % 5 + 1 = (M : Int) := ⟨(n % 5 + 1).toNat, by omega⟩
  have hM5 : M ≤ 5 := by omega
  have hM1 : 1 ≤ M := by omega
  have HEX : Hid (expandOf ks info (32 * M) = rowsOf ks info M) := expandOf_rows ks info M
  have HXL : Hid ((expandOf ks info (32 * M)).length = 32 * M) := expandOf_length _ _ _
  have HTY : Hid (∀ g l, ∀ r ∈ [((g, l, 23) : Nat × List Value × TypeId)], r.2.2 ≠ 5) := by
    intro g l r hr
    have : r = (g, l, 23) := by simpa using hr
    rw [this]
    show (23 : Nat) ≠ 5
    decide
  have hMi : (M : Int) ≤ 5 := by omega
  have hMi1 : (1 : Int) ≤ (M : Int) := by omega
  go_enter Tryd.func7, Tryd.ntmps7
  go_wp2_with (first
    | ((with_reducible refine at_op (some 3) (.box 24 (.tmp 0)) ?_); refine wpl_box (u8s ks) rfl hm ?_; clear hm; intro w1 g3 hm)
    | (go_at_call 9; refine (known_any _ (Tab.mem HT.out hm (by simp))).mono ?_; rintro e w3 ⟨rfl, hb⟩; replace hm := hm.call hb; clear hb)
    | ((with_reducible refine at_op (some 21) (.load 24 (.tmp 3)) ?_); refine wpl_ldw 0 hm rfl rfl _ un_key rfl 32 sz_key (HU.out) ?_)
    | (go_at_call 13; refine (expand_at ks info _ _ (32 * M) (by omega) HKL.out HKB.out HIB.out (by omega) (by omega) _ (Tab.mem HT.out hm (by simp)) (SlOld.mem HV.out hm)).mono ?_; rintro e w4 ⟨g8, rfl, hge, hr, hb⟩; replace hm := hm.callNew hb hr hge; clear hb hr hge))

  rw [show decide ((50 : Int) < (info.length : Int)) = false from decide_eq_false (by omega)]
  have HG8 : Hid (Row w4 g8 (u8s (expandOf ks info (32 * M))) 5) := hm.get 0 rfl
  have HG3 : Hid (Row w4 g3 (u8s ks) 24) := hm.get 1 rfl
  have HMM : Hid (Mem w [] w4 []) := hm.tail.tail
  have HT4 : Hid (Tab w4) := Tab.mem HT.out hm (by simp)
  have HV4 : Hid (SlOld w4 (.slice pi info.length ci) info) := SlOld.mem HV.out hm
  have hm := Mem.start w4
  go_loopw [9, 10] (fun vt vi wr => ∃ i : Nat, i ≤ M ∧ vi = .int .i64 i ∧ SlOld wr vt (pieceOf ks info i) ∧ Mem w4 [] wr []) (fun _ vi _ => M - (intOf vi).toNat)
  case atStart => exact ⟨0, by omega, rfl, ⟨none, 0, rfl, Nat.le_refl _, fun h => absurd h (by simp [pieceOf])⟩, hm⟩
  case round =>
    clear hm
    obtain ⟨i, hi, rfl, hlast, hm⟩ := hrel
    obtain ⟨pl, cl, rfl, hcl⟩ := hlast.len
    have HLA : Hid (SlOld wr (.slice pl (pieceOf ks info i).length cl) (pieceOf ks info i)) := hlast
    clear hlast hcl
    by_cases hlt : i < M
    · have hii : (i : Int) < (M : Int) := by omega
      have hPL := pieceOf_le ks info i
      have HPB : Hid _ := pieceOf_bytes ks info i
      have HIN : Hid (Bytes (pieceOf ks info i ++ info ++ [(i : Int) + 1])) := by
        refine (Bytes.append HPB.out HIB.out).append ?_
        intro x hx
        simp only [List.mem_cons, List.not_mem_nil, or_false] at hx
        omega
      have HIL : Hid ((pieceOf ks info i ++ info ++ [(i : Int) + 1]).length ≤ 500000) := by show _ ≤ _; simp; omega
      have HPE : Hid (macOf ks (pieceOf ks info i ++ info ++ [(i : Int) + 1]) = pieceOf ks info (i + 1)) := rfl
      have HPN : Hid ((pieceOf ks info (i + 1)).length = 32) := pieceOf_length ks info i
      go_wp2_with fail
      refine wp_ends (fun a W => ∃ v33 v35 v39 v40 g11, a = { tmps := #[Value.agg (u8s ks).toArray, Value.slice pi info.length ci, Value.int IntKind.u8 n, Value.pointer (some ⟨g3, 0, none⟩), undef, undef, u6, Value.int IntKind.i64 ↑M, Value.slice (some ⟨g8, 0, none⟩) (32 * M) (32 * M), Value.slice pl (pieceOf ks info i).length cl, Value.int IntKind.i64 ↑i, .pointer (some ⟨g11, 0, none⟩), Value.bool true, Value.bool false, Value.slice pi info.length ci, Value.int IntKind.i64 ↑info.length, Value.bool false, Value.int IntKind.u8 n, Value.int IntKind.u8 (n % 5), Value.int IntKind.i64 (n % 5), Value.int IntKind.i64 ↑M, Value.agg (u8s ks).toArray, Value.slice pi info.length ci, Value.int IntKind.i64 ↑M, Value.int IntKind.i64 (32 * ↑M), Value.slice (some ⟨g8, 0, none⟩) (32 * M) (32 * M), Value.int IntKind.i64 ↑i, Value.int IntKind.i64 ↑M, Value.bool true, u29, u30, .slice (some ⟨g3, 0, none⟩) 32 32, Value.slice pl (pieceOf ks info i).length cl, v33, .slice pi info.length ci, v35, .int .i64 ↑i, .int .i64 (↑i + 1), .int .u8 (↑i + 1), v39, v40, .agg (u8s (pieceOf ks info (i + 1))).toArray, u42, u43, u44, u45, u46, u47, u48, u49, u50, u51, u52, u53, u54, undef, undef, undef, undef, undef], defers := [] } ∧ Mem w4 [] W [(g11, u8s (pieceOf ks info (i + 1)), 23)]) ?_ ?_
      · refine anyH_start1 (T := fun W => Mem w4 [] W []) (by kernel_rfl) hm HLA.out ?_
        clear hm HLA
        intro w5 hm hla5
        have HLA : Hid (SlOld w5 (.slice pl (pieceOf ks info i).length cl) (pieceOf ks info i)) := hla5
        clear hla5
        have HM5 : Hid (Mem w4 [] w5 []) := hm
        have HV5 : Hid (SlOld w5 (.slice pi info.length ci) info) := SlOld.mem HV4.out hm
        have HK5 : Hid (SlOld w5 (.slice (some ⟨g3, 0, none⟩) 32 32) ks) := old_all (HG3.out.below' hm.below) HKL.out (Nat.le_refl _)
        have HT5 : Hid (Tab w5) := Tab.mem HT4.out hm (by simp)
        refine anyH_take 0 (v := .slice (some ⟨g3, 0, none⟩) 32 32) rfl (by kernel_rfl) (by kernel_rfl) (by kernel_rfl) rfl (fun W _ => by go_simp) hm ?_
        go_simp
        refine anyH_take 1 (v := .slice pl (pieceOf ks info i).length cl) rfl (by kernel_rfl) (by kernel_rfl) (by kernel_rfl) rfl (fun W _ => by go_simp) hm ?_
        go_simp
        refine anyH_take 3 (v := .slice pi info.length ci) rfl (by kernel_rfl) (by kernel_rfl) (by kernel_rfl) rfl (fun W _ => by go_simp) hm ?_
        go_simp
        refine anyH_take 5 (v := .int .i64 (i : Int)) rfl (by kernel_rfl) (by kernel_rfl) (by kernel_rfl) rfl (fun W _ => by go_simp) hm ?_
        go_simp
        refine anyH_take 6 (v := .int .i64 ((i : Int) + 1)) rfl (by kernel_rfl) (by kernel_rfl) (by kernel_rfl) rfl (fun W _ => by go_simp; first | exact wrapi _ (by omega) (by omega) | exact wrapb _ (by omega) (by omega)) hm ?_
        go_simp
        refine anyH_take 7 (v := .int .u8 ((i : Int) + 1)) rfl (by kernel_rfl) (by kernel_rfl) (by kernel_rfl) rfl (fun W _ => by go_simp; first | exact wrapi _ (by omega) (by omega) | exact wrapb _ (by omega) (by omega)) hm ?_
        go_simp
        have st := St.start w5
        clear hm
        refine wpAnyH_all (rs := [2, 8, 11]) (by kernel_rfl) (by simp) ?_
        intro i hi
        simp only [List.mem_cons, List.not_mem_nil, or_false] at hi
        rcases hi with rfl | rfl | rfl
        · refine anyH_op 2 rfl rfl ?_
          intro K hK
          refine wpl_stApp (pieceOf ks info i) st rfl rfl (SlOld.mem HLA.out st.mem) (by simp; omega) ?_
          clear st
          intro va wa st
          replace st := (show St _ _ _ (pieceOf ks info i) _ _ from st)
          refine wpList_nil ?_
          refine hK _ _ (HM5.out.trans st.mem) ?_
          clear hK K
          refine wpAnyH_all (rs := [4, 8, 11]) (by kernel_rfl) (by simp) ?_
          intro i hi
          simp only [List.mem_cons, List.not_mem_nil, or_false] at hi
          rcases hi with rfl | rfl | rfl
          · refine anyH_op 4 rfl rfl ?_
            intro K hK
            refine wpl_stApp info st rfl rfl (SlOld.mem HV5.out st.mem) (by omega) ?_
            clear st
            intro vb wb st
            refine wpList_nil ?_
            refine hK _ _ (HM5.out.trans st.mem) ?_
            clear hK K
            refine wpAnyH_all (rs := [8, 11]) (by kernel_rfl) (by simp) ?_
            intro i hi
            simp only [List.mem_cons, List.not_mem_nil, or_false] at hi
            rcases hi with rfl | rfl
            · refine anyH_op 8 rfl rfl ?_
              intro K hK
              refine wpl_stOne ((i : Int) + 1) st rfl ?_
              clear st
              intro wc gc st
              refine wpList_nil ?_
              refine hK _ _ (HM5.out.trans st.mem) ?_
              clear hK K
              refine wpAnyH_all (rs := [9, 11]) (by kernel_rfl) (by simp) ?_
              intro i hi
              simp only [List.mem_cons, List.not_mem_nil, or_false] at hi
              rcases hi with rfl | rfl
              · refine anyH_op 9 rfl rfl ?_
                intro K hK
                refine wpl_stApp [(i : Int) + 1] st rfl rfl (old_all (st.bld _ rfl).1 rfl (Nat.le_refl _)) (by simp; omega) ?_
                clear st
                intro vd wd st
                refine wpList_nil ?_
                refine hK _ _ (HM5.out.trans st.mem) ?_
                clear hK K
                refine wpAnyH_all (rs := [10, 11]) (by kernel_rfl) (by simp) ?_
                intro i hi
                simp only [List.mem_cons, List.not_mem_nil, or_false] at hi
                rcases hi with rfl | rfl
                · refine anyH_op 10 rfl rfl ?_
                  intro K hK
                  go_wp2_with (go_at_call 11; refine (mac_any ks (pieceOf ks info i ++ info ++ [(i : Int) + 1]) _ _ HKB.out HIN.out (by rw [HKL.out]; omega) HIL.out _ (Tab.mem HT5.out st.mem (by simp)) (SlOld.mem HK5.out st.mem) st.own.old).mono ?_; rintro e we ⟨he, hb⟩; rw [HPE.out] at he; subst he; replace st := st.below hb; clear hb)
                  refine hK _ _ (HM5.out.trans st.mem) ?_
                  clear hK K
                  refine wpAnyH_all (rs := [11]) (by kernel_rfl) (by simp) ?_
                  intro i hi
                  simp only [List.mem_cons, List.not_mem_nil, or_false] at hi
                  rcases hi with rfl
                  · refine anyH_op 11 rfl rfl ?_
                    intro K hK
                    refine wpl_stVar st ?_
                    clear st
                    intro wf gf st
                    refine wpList_nil ?_
                    refine hK _ _ (HM5.out.trans st.mem) ?_
                    clear hK K
                    refine wpAnyH_all (rs := [12]) (by kernel_rfl) (by simp) ?_
                    intro i hi
                    simp only [List.mem_cons, List.not_mem_nil, or_false] at hi
                    rcases hi with rfl
                    · refine anyH_op 12 rfl rfl ?_
                      intro K hK
                      refine wpl_stStore (pieceOf ks info (i + 1)) HPN.out st rfl rfl ?_
                      clear st
                      intro wg hm
                      refine wpList_nil ?_
                      refine hK _ _ (HM5.out.trans hm.tail) ?_
                      clear hK K
                      refine wpAnyH_done (by kernel_rfl) ⟨_, _, _, _, _, rfl, HM5.out.trans hm⟩ _
                · refine anyH_op 11 rfl rfl ?_
                  intro K hK
                  refine wpl_stVar st ?_
                  clear st
                  intro wf gf st
                  refine wpList_nil ?_
                  refine hK _ _ (HM5.out.trans st.mem) ?_
                  clear hK K
                  refine wpAnyH_all (rs := [10]) (by kernel_rfl) (by simp) ?_
                  intro i hi
                  simp only [List.mem_cons, List.not_mem_nil, or_false] at hi
                  rcases hi with rfl
                  · refine anyH_op 10 rfl rfl ?_
                    intro K hK
                    go_wp2_with (go_at_call 11; refine (mac_any ks (pieceOf ks info i ++ info ++ [(i : Int) + 1]) _ _ HKB.out HIN.out (by rw [HKL.out]; omega) HIL.out _ (Tab.mem HT5.out st.mem (by simp)) (SlOld.mem HK5.out st.mem) st.own.old).mono ?_; rintro e we ⟨he, hb⟩; rw [HPE.out] at he; subst he; replace st := st.below hb; clear hb)
                    refine hK _ _ (HM5.out.trans st.mem) ?_
                    clear hK K
                    refine wpAnyH_all (rs := [12]) (by kernel_rfl) (by simp) ?_
                    intro i hi
                    simp only [List.mem_cons, List.not_mem_nil, or_false] at hi
                    rcases hi with rfl
                    · refine anyH_op 12 rfl rfl ?_
                      intro K hK
                      refine wpl_stStore (pieceOf ks info (i + 1)) HPN.out st rfl rfl ?_
                      clear st
                      intro wg hm
                      refine wpList_nil ?_
                      refine hK _ _ (HM5.out.trans hm.tail) ?_
                      clear hK K
                      refine wpAnyH_done (by kernel_rfl) ⟨_, _, _, _, _, rfl, HM5.out.trans hm⟩ _
              · refine anyH_op 11 rfl rfl ?_
                intro K hK
                refine wpl_stVar st ?_
                clear st
                intro wf gf st
                refine wpList_nil ?_
                refine hK _ _ (HM5.out.trans st.mem) ?_
                clear hK K
                refine wpAnyH_all (rs := [9]) (by kernel_rfl) (by simp) ?_
                intro i hi
                simp only [List.mem_cons, List.not_mem_nil, or_false] at hi
                rcases hi with rfl
                · refine anyH_op 9 rfl rfl ?_
                  intro K hK
                  refine wpl_stApp [(i : Int) + 1] st rfl rfl (old_all (st.bld _ rfl).1 rfl (Nat.le_refl _)) (by simp; omega) ?_
                  clear st
                  intro vd wd st
                  refine wpList_nil ?_
                  refine hK _ _ (HM5.out.trans st.mem) ?_
                  clear hK K
                  refine wpAnyH_all (rs := [10]) (by kernel_rfl) (by simp) ?_
                  intro i hi
                  simp only [List.mem_cons, List.not_mem_nil, or_false] at hi
                  rcases hi with rfl
                  · refine anyH_op 10 rfl rfl ?_
                    intro K hK
                    go_wp2_with (go_at_call 11; refine (mac_any ks (pieceOf ks info i ++ info ++ [(i : Int) + 1]) _ _ HKB.out HIN.out (by rw [HKL.out]; omega) HIL.out _ (Tab.mem HT5.out st.mem (by simp)) (SlOld.mem HK5.out st.mem) st.own.old).mono ?_; rintro e we ⟨he, hb⟩; rw [HPE.out] at he; subst he; replace st := st.below hb; clear hb)
                    refine hK _ _ (HM5.out.trans st.mem) ?_
                    clear hK K
                    refine wpAnyH_all (rs := [12]) (by kernel_rfl) (by simp) ?_
                    intro i hi
                    simp only [List.mem_cons, List.not_mem_nil, or_false] at hi
                    rcases hi with rfl
                    · refine anyH_op 12 rfl rfl ?_
                      intro K hK
                      refine wpl_stStore (pieceOf ks info (i + 1)) HPN.out st rfl rfl ?_
                      clear st
                      intro wg hm
                      refine wpList_nil ?_
                      refine hK _ _ (HM5.out.trans hm.tail) ?_
                      clear hK K
                      refine wpAnyH_done (by kernel_rfl) ⟨_, _, _, _, _, rfl, HM5.out.trans hm⟩ _
            · refine anyH_op 11 rfl rfl ?_
              intro K hK
              refine wpl_stVar st ?_
              clear st
              intro wf gf st
              refine wpList_nil ?_
              refine hK _ _ (HM5.out.trans st.mem) ?_
              clear hK K
              refine wpAnyH_all (rs := [8]) (by kernel_rfl) (by simp) ?_
              intro i hi
              simp only [List.mem_cons, List.not_mem_nil, or_false] at hi
              rcases hi with rfl
              · refine anyH_op 8 rfl rfl ?_
                intro K hK
                refine wpl_stOne ((i : Int) + 1) st rfl ?_
                clear st
                intro wc gc st
                refine wpList_nil ?_
                refine hK _ _ (HM5.out.trans st.mem) ?_
                clear hK K
                refine wpAnyH_all (rs := [9]) (by kernel_rfl) (by simp) ?_
                intro i hi
                simp only [List.mem_cons, List.not_mem_nil, or_false] at hi
                rcases hi with rfl
                · refine anyH_op 9 rfl rfl ?_
                  intro K hK
                  refine wpl_stApp [(i : Int) + 1] st rfl rfl (old_all (st.bld _ rfl).1 rfl (Nat.le_refl _)) (by simp; omega) ?_
                  clear st
                  intro vd wd st
                  refine wpList_nil ?_
                  refine hK _ _ (HM5.out.trans st.mem) ?_
                  clear hK K
                  refine wpAnyH_all (rs := [10]) (by kernel_rfl) (by simp) ?_
                  intro i hi
                  simp only [List.mem_cons, List.not_mem_nil, or_false] at hi
                  rcases hi with rfl
                  · refine anyH_op 10 rfl rfl ?_
                    intro K hK
                    go_wp2_with (go_at_call 11; refine (mac_any ks (pieceOf ks info i ++ info ++ [(i : Int) + 1]) _ _ HKB.out HIN.out (by rw [HKL.out]; omega) HIL.out _ (Tab.mem HT5.out st.mem (by simp)) (SlOld.mem HK5.out st.mem) st.own.old).mono ?_; rintro e we ⟨he, hb⟩; rw [HPE.out] at he; subst he; replace st := st.below hb; clear hb)
                    refine hK _ _ (HM5.out.trans st.mem) ?_
                    clear hK K
                    refine wpAnyH_all (rs := [12]) (by kernel_rfl) (by simp) ?_
                    intro i hi
                    simp only [List.mem_cons, List.not_mem_nil, or_false] at hi
                    rcases hi with rfl
                    · refine anyH_op 12 rfl rfl ?_
                      intro K hK
                      refine wpl_stStore (pieceOf ks info (i + 1)) HPN.out st rfl rfl ?_
                      clear st
                      intro wg hm
                      refine wpList_nil ?_
                      refine hK _ _ (HM5.out.trans hm.tail) ?_
                      clear hK K
                      refine wpAnyH_done (by kernel_rfl) ⟨_, _, _, _, _, rfl, HM5.out.trans hm⟩ _
          · refine anyH_op 8 rfl rfl ?_
            intro K hK
            refine wpl_stOne ((i : Int) + 1) st rfl ?_
            clear st
            intro wc gc st
            refine wpList_nil ?_
            refine hK _ _ (HM5.out.trans st.mem) ?_
            clear hK K
            refine wpAnyH_all (rs := [4, 11]) (by kernel_rfl) (by simp) ?_
            intro i hi
            simp only [List.mem_cons, List.not_mem_nil, or_false] at hi
            rcases hi with rfl | rfl
            · refine anyH_op 4 rfl rfl ?_
              intro K hK
              refine wpl_stApp info st rfl rfl (SlOld.mem HV5.out st.mem) (by omega) ?_
              clear st
              intro vb wb st
              refine wpList_nil ?_
              refine hK _ _ (HM5.out.trans st.mem) ?_
              clear hK K
              refine wpAnyH_all (rs := [9, 11]) (by kernel_rfl) (by simp) ?_
              intro i hi
              simp only [List.mem_cons, List.not_mem_nil, or_false] at hi
              rcases hi with rfl | rfl
              · refine anyH_op 9 rfl rfl ?_
                intro K hK
                refine wpl_stApp [(i : Int) + 1] st rfl rfl (old_all (st.bld _ rfl).1 rfl (Nat.le_refl _)) (by simp; omega) ?_
                clear st
                intro vd wd st
                refine wpList_nil ?_
                refine hK _ _ (HM5.out.trans st.mem) ?_
                clear hK K
                refine wpAnyH_all (rs := [10, 11]) (by kernel_rfl) (by simp) ?_
                intro i hi
                simp only [List.mem_cons, List.not_mem_nil, or_false] at hi
                rcases hi with rfl | rfl
                · refine anyH_op 10 rfl rfl ?_
                  intro K hK
                  go_wp2_with (go_at_call 11; refine (mac_any ks (pieceOf ks info i ++ info ++ [(i : Int) + 1]) _ _ HKB.out HIN.out (by rw [HKL.out]; omega) HIL.out _ (Tab.mem HT5.out st.mem (by simp)) (SlOld.mem HK5.out st.mem) st.own.old).mono ?_; rintro e we ⟨he, hb⟩; rw [HPE.out] at he; subst he; replace st := st.below hb; clear hb)
                  refine hK _ _ (HM5.out.trans st.mem) ?_
                  clear hK K
                  refine wpAnyH_all (rs := [11]) (by kernel_rfl) (by simp) ?_
                  intro i hi
                  simp only [List.mem_cons, List.not_mem_nil, or_false] at hi
                  rcases hi with rfl
                  · refine anyH_op 11 rfl rfl ?_
                    intro K hK
                    refine wpl_stVar st ?_
                    clear st
                    intro wf gf st
                    refine wpList_nil ?_
                    refine hK _ _ (HM5.out.trans st.mem) ?_
                    clear hK K
                    refine wpAnyH_all (rs := [12]) (by kernel_rfl) (by simp) ?_
                    intro i hi
                    simp only [List.mem_cons, List.not_mem_nil, or_false] at hi
                    rcases hi with rfl
                    · refine anyH_op 12 rfl rfl ?_
                      intro K hK
                      refine wpl_stStore (pieceOf ks info (i + 1)) HPN.out st rfl rfl ?_
                      clear st
                      intro wg hm
                      refine wpList_nil ?_
                      refine hK _ _ (HM5.out.trans hm.tail) ?_
                      clear hK K
                      refine wpAnyH_done (by kernel_rfl) ⟨_, _, _, _, _, rfl, HM5.out.trans hm⟩ _
                · refine anyH_op 11 rfl rfl ?_
                  intro K hK
                  refine wpl_stVar st ?_
                  clear st
                  intro wf gf st
                  refine wpList_nil ?_
                  refine hK _ _ (HM5.out.trans st.mem) ?_
                  clear hK K
                  refine wpAnyH_all (rs := [10]) (by kernel_rfl) (by simp) ?_
                  intro i hi
                  simp only [List.mem_cons, List.not_mem_nil, or_false] at hi
                  rcases hi with rfl
                  · refine anyH_op 10 rfl rfl ?_
                    intro K hK
                    go_wp2_with (go_at_call 11; refine (mac_any ks (pieceOf ks info i ++ info ++ [(i : Int) + 1]) _ _ HKB.out HIN.out (by rw [HKL.out]; omega) HIL.out _ (Tab.mem HT5.out st.mem (by simp)) (SlOld.mem HK5.out st.mem) st.own.old).mono ?_; rintro e we ⟨he, hb⟩; rw [HPE.out] at he; subst he; replace st := st.below hb; clear hb)
                    refine hK _ _ (HM5.out.trans st.mem) ?_
                    clear hK K
                    refine wpAnyH_all (rs := [12]) (by kernel_rfl) (by simp) ?_
                    intro i hi
                    simp only [List.mem_cons, List.not_mem_nil, or_false] at hi
                    rcases hi with rfl
                    · refine anyH_op 12 rfl rfl ?_
                      intro K hK
                      refine wpl_stStore (pieceOf ks info (i + 1)) HPN.out st rfl rfl ?_
                      clear st
                      intro wg hm
                      refine wpList_nil ?_
                      refine hK _ _ (HM5.out.trans hm.tail) ?_
                      clear hK K
                      refine wpAnyH_done (by kernel_rfl) ⟨_, _, _, _, _, rfl, HM5.out.trans hm⟩ _
              · refine anyH_op 11 rfl rfl ?_
                intro K hK
                refine wpl_stVar st ?_
                clear st
                intro wf gf st
                refine wpList_nil ?_
                refine hK _ _ (HM5.out.trans st.mem) ?_
                clear hK K
                refine wpAnyH_all (rs := [9]) (by kernel_rfl) (by simp) ?_
                intro i hi
                simp only [List.mem_cons, List.not_mem_nil, or_false] at hi
                rcases hi with rfl
                · refine anyH_op 9 rfl rfl ?_
                  intro K hK
                  refine wpl_stApp [(i : Int) + 1] st rfl rfl (old_all (st.bld _ rfl).1 rfl (Nat.le_refl _)) (by simp; omega) ?_
                  clear st
                  intro vd wd st
                  refine wpList_nil ?_
                  refine hK _ _ (HM5.out.trans st.mem) ?_
                  clear hK K
                  refine wpAnyH_all (rs := [10]) (by kernel_rfl) (by simp) ?_
                  intro i hi
                  simp only [List.mem_cons, List.not_mem_nil, or_false] at hi
                  rcases hi with rfl
                  · refine anyH_op 10 rfl rfl ?_
                    intro K hK
                    go_wp2_with (go_at_call 11; refine (mac_any ks (pieceOf ks info i ++ info ++ [(i : Int) + 1]) _ _ HKB.out HIN.out (by rw [HKL.out]; omega) HIL.out _ (Tab.mem HT5.out st.mem (by simp)) (SlOld.mem HK5.out st.mem) st.own.old).mono ?_; rintro e we ⟨he, hb⟩; rw [HPE.out] at he; subst he; replace st := st.below hb; clear hb)
                    refine hK _ _ (HM5.out.trans st.mem) ?_
                    clear hK K
                    refine wpAnyH_all (rs := [12]) (by kernel_rfl) (by simp) ?_
                    intro i hi
                    simp only [List.mem_cons, List.not_mem_nil, or_false] at hi
                    rcases hi with rfl
                    · refine anyH_op 12 rfl rfl ?_
                      intro K hK
                      refine wpl_stStore (pieceOf ks info (i + 1)) HPN.out st rfl rfl ?_
                      clear st
                      intro wg hm
                      refine wpList_nil ?_
                      refine hK _ _ (HM5.out.trans hm.tail) ?_
                      clear hK K
                      refine wpAnyH_done (by kernel_rfl) ⟨_, _, _, _, _, rfl, HM5.out.trans hm⟩ _
            · refine anyH_op 11 rfl rfl ?_
              intro K hK
              refine wpl_stVar st ?_
              clear st
              intro wf gf st
              refine wpList_nil ?_
              refine hK _ _ (HM5.out.trans st.mem) ?_
              clear hK K
              refine wpAnyH_all (rs := [4]) (by kernel_rfl) (by simp) ?_
              intro i hi
              simp only [List.mem_cons, List.not_mem_nil, or_false] at hi
              rcases hi with rfl
              · refine anyH_op 4 rfl rfl ?_
                intro K hK
                refine wpl_stApp info st rfl rfl (SlOld.mem HV5.out st.mem) (by omega) ?_
                clear st
                intro vb wb st
                refine wpList_nil ?_
                refine hK _ _ (HM5.out.trans st.mem) ?_
                clear hK K
                refine wpAnyH_all (rs := [9]) (by kernel_rfl) (by simp) ?_
                intro i hi
                simp only [List.mem_cons, List.not_mem_nil, or_false] at hi
                rcases hi with rfl
                · refine anyH_op 9 rfl rfl ?_
                  intro K hK
                  refine wpl_stApp [(i : Int) + 1] st rfl rfl (old_all (st.bld _ rfl).1 rfl (Nat.le_refl _)) (by simp; omega) ?_
                  clear st
                  intro vd wd st
                  refine wpList_nil ?_
                  refine hK _ _ (HM5.out.trans st.mem) ?_
                  clear hK K
                  refine wpAnyH_all (rs := [10]) (by kernel_rfl) (by simp) ?_
                  intro i hi
                  simp only [List.mem_cons, List.not_mem_nil, or_false] at hi
                  rcases hi with rfl
                  · refine anyH_op 10 rfl rfl ?_
                    intro K hK
                    go_wp2_with (go_at_call 11; refine (mac_any ks (pieceOf ks info i ++ info ++ [(i : Int) + 1]) _ _ HKB.out HIN.out (by rw [HKL.out]; omega) HIL.out _ (Tab.mem HT5.out st.mem (by simp)) (SlOld.mem HK5.out st.mem) st.own.old).mono ?_; rintro e we ⟨he, hb⟩; rw [HPE.out] at he; subst he; replace st := st.below hb; clear hb)
                    refine hK _ _ (HM5.out.trans st.mem) ?_
                    clear hK K
                    refine wpAnyH_all (rs := [12]) (by kernel_rfl) (by simp) ?_
                    intro i hi
                    simp only [List.mem_cons, List.not_mem_nil, or_false] at hi
                    rcases hi with rfl
                    · refine anyH_op 12 rfl rfl ?_
                      intro K hK
                      refine wpl_stStore (pieceOf ks info (i + 1)) HPN.out st rfl rfl ?_
                      clear st
                      intro wg hm
                      refine wpList_nil ?_
                      refine hK _ _ (HM5.out.trans hm.tail) ?_
                      clear hK K
                      refine wpAnyH_done (by kernel_rfl) ⟨_, _, _, _, _, rfl, HM5.out.trans hm⟩ _
          · refine anyH_op 11 rfl rfl ?_
            intro K hK
            refine wpl_stVar st ?_
            clear st
            intro wf gf st
            refine wpList_nil ?_
            refine hK _ _ (HM5.out.trans st.mem) ?_
            clear hK K
            refine wpAnyH_all (rs := [4, 8]) (by kernel_rfl) (by simp) ?_
            intro i hi
            simp only [List.mem_cons, List.not_mem_nil, or_false] at hi
            rcases hi with rfl | rfl
            · refine anyH_op 4 rfl rfl ?_
              intro K hK
              refine wpl_stApp info st rfl rfl (SlOld.mem HV5.out st.mem) (by omega) ?_
              clear st
              intro vb wb st
              refine wpList_nil ?_
              refine hK _ _ (HM5.out.trans st.mem) ?_
              clear hK K
              refine wpAnyH_all (rs := [8]) (by kernel_rfl) (by simp) ?_
              intro i hi
              simp only [List.mem_cons, List.not_mem_nil, or_false] at hi
              rcases hi with rfl
              · refine anyH_op 8 rfl rfl ?_
                intro K hK
                refine wpl_stOne ((i : Int) + 1) st rfl ?_
                clear st
                intro wc gc st
                refine wpList_nil ?_
                refine hK _ _ (HM5.out.trans st.mem) ?_
                clear hK K
                refine wpAnyH_all (rs := [9]) (by kernel_rfl) (by simp) ?_
                intro i hi
                simp only [List.mem_cons, List.not_mem_nil, or_false] at hi
                rcases hi with rfl
                · refine anyH_op 9 rfl rfl ?_
                  intro K hK
                  refine wpl_stApp [(i : Int) + 1] st rfl rfl (old_all (st.bld _ rfl).1 rfl (Nat.le_refl _)) (by simp; omega) ?_
                  clear st
                  intro vd wd st
                  refine wpList_nil ?_
                  refine hK _ _ (HM5.out.trans st.mem) ?_
                  clear hK K
                  refine wpAnyH_all (rs := [10]) (by kernel_rfl) (by simp) ?_
                  intro i hi
                  simp only [List.mem_cons, List.not_mem_nil, or_false] at hi
                  rcases hi with rfl
                  · refine anyH_op 10 rfl rfl ?_
                    intro K hK
                    go_wp2_with (go_at_call 11; refine (mac_any ks (pieceOf ks info i ++ info ++ [(i : Int) + 1]) _ _ HKB.out HIN.out (by rw [HKL.out]; omega) HIL.out _ (Tab.mem HT5.out st.mem (by simp)) (SlOld.mem HK5.out st.mem) st.own.old).mono ?_; rintro e we ⟨he, hb⟩; rw [HPE.out] at he; subst he; replace st := st.below hb; clear hb)
                    refine hK _ _ (HM5.out.trans st.mem) ?_
                    clear hK K
                    refine wpAnyH_all (rs := [12]) (by kernel_rfl) (by simp) ?_
                    intro i hi
                    simp only [List.mem_cons, List.not_mem_nil, or_false] at hi
                    rcases hi with rfl
                    · refine anyH_op 12 rfl rfl ?_
                      intro K hK
                      refine wpl_stStore (pieceOf ks info (i + 1)) HPN.out st rfl rfl ?_
                      clear st
                      intro wg hm
                      refine wpList_nil ?_
                      refine hK _ _ (HM5.out.trans hm.tail) ?_
                      clear hK K
                      refine wpAnyH_done (by kernel_rfl) ⟨_, _, _, _, _, rfl, HM5.out.trans hm⟩ _
            · refine anyH_op 8 rfl rfl ?_
              intro K hK
              refine wpl_stOne ((i : Int) + 1) st rfl ?_
              clear st
              intro wc gc st
              refine wpList_nil ?_
              refine hK _ _ (HM5.out.trans st.mem) ?_
              clear hK K
              refine wpAnyH_all (rs := [4]) (by kernel_rfl) (by simp) ?_
              intro i hi
              simp only [List.mem_cons, List.not_mem_nil, or_false] at hi
              rcases hi with rfl
              · refine anyH_op 4 rfl rfl ?_
                intro K hK
                refine wpl_stApp info st rfl rfl (SlOld.mem HV5.out st.mem) (by omega) ?_
                clear st
                intro vb wb st
                refine wpList_nil ?_
                refine hK _ _ (HM5.out.trans st.mem) ?_
                clear hK K
                refine wpAnyH_all (rs := [9]) (by kernel_rfl) (by simp) ?_
                intro i hi
                simp only [List.mem_cons, List.not_mem_nil, or_false] at hi
                rcases hi with rfl
                · refine anyH_op 9 rfl rfl ?_
                  intro K hK
                  refine wpl_stApp [(i : Int) + 1] st rfl rfl (old_all (st.bld _ rfl).1 rfl (Nat.le_refl _)) (by simp; omega) ?_
                  clear st
                  intro vd wd st
                  refine wpList_nil ?_
                  refine hK _ _ (HM5.out.trans st.mem) ?_
                  clear hK K
                  refine wpAnyH_all (rs := [10]) (by kernel_rfl) (by simp) ?_
                  intro i hi
                  simp only [List.mem_cons, List.not_mem_nil, or_false] at hi
                  rcases hi with rfl
                  · refine anyH_op 10 rfl rfl ?_
                    intro K hK
                    go_wp2_with (go_at_call 11; refine (mac_any ks (pieceOf ks info i ++ info ++ [(i : Int) + 1]) _ _ HKB.out HIN.out (by rw [HKL.out]; omega) HIL.out _ (Tab.mem HT5.out st.mem (by simp)) (SlOld.mem HK5.out st.mem) st.own.old).mono ?_; rintro e we ⟨he, hb⟩; rw [HPE.out] at he; subst he; replace st := st.below hb; clear hb)
                    refine hK _ _ (HM5.out.trans st.mem) ?_
                    clear hK K
                    refine wpAnyH_all (rs := [12]) (by kernel_rfl) (by simp) ?_
                    intro i hi
                    simp only [List.mem_cons, List.not_mem_nil, or_false] at hi
                    rcases hi with rfl
                    · refine anyH_op 12 rfl rfl ?_
                      intro K hK
                      refine wpl_stStore (pieceOf ks info (i + 1)) HPN.out st rfl rfl ?_
                      clear st
                      intro wg hm
                      refine wpList_nil ?_
                      refine hK _ _ (HM5.out.trans hm.tail) ?_
                      clear hK K
                      refine wpAnyH_done (by kernel_rfl) ⟨_, _, _, _, _, rfl, HM5.out.trans hm⟩ _
        · refine anyH_op 8 rfl rfl ?_
          intro K hK
          refine wpl_stOne ((i : Int) + 1) st rfl ?_
          clear st
          intro wc gc st
          refine wpList_nil ?_
          refine hK _ _ (HM5.out.trans st.mem) ?_
          clear hK K
          refine wpAnyH_all (rs := [2, 11]) (by kernel_rfl) (by simp) ?_
          intro i hi
          simp only [List.mem_cons, List.not_mem_nil, or_false] at hi
          rcases hi with rfl | rfl
          · refine anyH_op 2 rfl rfl ?_
            intro K hK
            refine wpl_stApp (pieceOf ks info i) st rfl rfl (SlOld.mem HLA.out st.mem) (by simp; omega) ?_
            clear st
            intro va wa st
            replace st := (show St _ _ _ (pieceOf ks info i) _ _ from st)
            refine wpList_nil ?_
            refine hK _ _ (HM5.out.trans st.mem) ?_
            clear hK K
            refine wpAnyH_all (rs := [4, 11]) (by kernel_rfl) (by simp) ?_
            intro i hi
            simp only [List.mem_cons, List.not_mem_nil, or_false] at hi
            rcases hi with rfl | rfl
            · refine anyH_op 4 rfl rfl ?_
              intro K hK
              refine wpl_stApp info st rfl rfl (SlOld.mem HV5.out st.mem) (by omega) ?_
              clear st
              intro vb wb st
              refine wpList_nil ?_
              refine hK _ _ (HM5.out.trans st.mem) ?_
              clear hK K
              refine wpAnyH_all (rs := [9, 11]) (by kernel_rfl) (by simp) ?_
              intro i hi
              simp only [List.mem_cons, List.not_mem_nil, or_false] at hi
              rcases hi with rfl | rfl
              · refine anyH_op 9 rfl rfl ?_
                intro K hK
                refine wpl_stApp [(i : Int) + 1] st rfl rfl (old_all (st.bld _ rfl).1 rfl (Nat.le_refl _)) (by simp; omega) ?_
                clear st
                intro vd wd st
                refine wpList_nil ?_
                refine hK _ _ (HM5.out.trans st.mem) ?_
                clear hK K
                refine wpAnyH_all (rs := [10, 11]) (by kernel_rfl) (by simp) ?_
                intro i hi
                simp only [List.mem_cons, List.not_mem_nil, or_false] at hi
                rcases hi with rfl | rfl
                · refine anyH_op 10 rfl rfl ?_
                  intro K hK
                  go_wp2_with (go_at_call 11; refine (mac_any ks (pieceOf ks info i ++ info ++ [(i : Int) + 1]) _ _ HKB.out HIN.out (by rw [HKL.out]; omega) HIL.out _ (Tab.mem HT5.out st.mem (by simp)) (SlOld.mem HK5.out st.mem) st.own.old).mono ?_; rintro e we ⟨he, hb⟩; rw [HPE.out] at he; subst he; replace st := st.below hb; clear hb)
                  refine hK _ _ (HM5.out.trans st.mem) ?_
                  clear hK K
                  refine wpAnyH_all (rs := [11]) (by kernel_rfl) (by simp) ?_
                  intro i hi
                  simp only [List.mem_cons, List.not_mem_nil, or_false] at hi
                  rcases hi with rfl
                  · refine anyH_op 11 rfl rfl ?_
                    intro K hK
                    refine wpl_stVar st ?_
                    clear st
                    intro wf gf st
                    refine wpList_nil ?_
                    refine hK _ _ (HM5.out.trans st.mem) ?_
                    clear hK K
                    refine wpAnyH_all (rs := [12]) (by kernel_rfl) (by simp) ?_
                    intro i hi
                    simp only [List.mem_cons, List.not_mem_nil, or_false] at hi
                    rcases hi with rfl
                    · refine anyH_op 12 rfl rfl ?_
                      intro K hK
                      refine wpl_stStore (pieceOf ks info (i + 1)) HPN.out st rfl rfl ?_
                      clear st
                      intro wg hm
                      refine wpList_nil ?_
                      refine hK _ _ (HM5.out.trans hm.tail) ?_
                      clear hK K
                      refine wpAnyH_done (by kernel_rfl) ⟨_, _, _, _, _, rfl, HM5.out.trans hm⟩ _
                · refine anyH_op 11 rfl rfl ?_
                  intro K hK
                  refine wpl_stVar st ?_
                  clear st
                  intro wf gf st
                  refine wpList_nil ?_
                  refine hK _ _ (HM5.out.trans st.mem) ?_
                  clear hK K
                  refine wpAnyH_all (rs := [10]) (by kernel_rfl) (by simp) ?_
                  intro i hi
                  simp only [List.mem_cons, List.not_mem_nil, or_false] at hi
                  rcases hi with rfl
                  · refine anyH_op 10 rfl rfl ?_
                    intro K hK
                    go_wp2_with (go_at_call 11; refine (mac_any ks (pieceOf ks info i ++ info ++ [(i : Int) + 1]) _ _ HKB.out HIN.out (by rw [HKL.out]; omega) HIL.out _ (Tab.mem HT5.out st.mem (by simp)) (SlOld.mem HK5.out st.mem) st.own.old).mono ?_; rintro e we ⟨he, hb⟩; rw [HPE.out] at he; subst he; replace st := st.below hb; clear hb)
                    refine hK _ _ (HM5.out.trans st.mem) ?_
                    clear hK K
                    refine wpAnyH_all (rs := [12]) (by kernel_rfl) (by simp) ?_
                    intro i hi
                    simp only [List.mem_cons, List.not_mem_nil, or_false] at hi
                    rcases hi with rfl
                    · refine anyH_op 12 rfl rfl ?_
                      intro K hK
                      refine wpl_stStore (pieceOf ks info (i + 1)) HPN.out st rfl rfl ?_
                      clear st
                      intro wg hm
                      refine wpList_nil ?_
                      refine hK _ _ (HM5.out.trans hm.tail) ?_
                      clear hK K
                      refine wpAnyH_done (by kernel_rfl) ⟨_, _, _, _, _, rfl, HM5.out.trans hm⟩ _
              · refine anyH_op 11 rfl rfl ?_
                intro K hK
                refine wpl_stVar st ?_
                clear st
                intro wf gf st
                refine wpList_nil ?_
                refine hK _ _ (HM5.out.trans st.mem) ?_
                clear hK K
                refine wpAnyH_all (rs := [9]) (by kernel_rfl) (by simp) ?_
                intro i hi
                simp only [List.mem_cons, List.not_mem_nil, or_false] at hi
                rcases hi with rfl
                · refine anyH_op 9 rfl rfl ?_
                  intro K hK
                  refine wpl_stApp [(i : Int) + 1] st rfl rfl (old_all (st.bld _ rfl).1 rfl (Nat.le_refl _)) (by simp; omega) ?_
                  clear st
                  intro vd wd st
                  refine wpList_nil ?_
                  refine hK _ _ (HM5.out.trans st.mem) ?_
                  clear hK K
                  refine wpAnyH_all (rs := [10]) (by kernel_rfl) (by simp) ?_
                  intro i hi
                  simp only [List.mem_cons, List.not_mem_nil, or_false] at hi
                  rcases hi with rfl
                  · refine anyH_op 10 rfl rfl ?_
                    intro K hK
                    go_wp2_with (go_at_call 11; refine (mac_any ks (pieceOf ks info i ++ info ++ [(i : Int) + 1]) _ _ HKB.out HIN.out (by rw [HKL.out]; omega) HIL.out _ (Tab.mem HT5.out st.mem (by simp)) (SlOld.mem HK5.out st.mem) st.own.old).mono ?_; rintro e we ⟨he, hb⟩; rw [HPE.out] at he; subst he; replace st := st.below hb; clear hb)
                    refine hK _ _ (HM5.out.trans st.mem) ?_
                    clear hK K
                    refine wpAnyH_all (rs := [12]) (by kernel_rfl) (by simp) ?_
                    intro i hi
                    simp only [List.mem_cons, List.not_mem_nil, or_false] at hi
                    rcases hi with rfl
                    · refine anyH_op 12 rfl rfl ?_
                      intro K hK
                      refine wpl_stStore (pieceOf ks info (i + 1)) HPN.out st rfl rfl ?_
                      clear st
                      intro wg hm
                      refine wpList_nil ?_
                      refine hK _ _ (HM5.out.trans hm.tail) ?_
                      clear hK K
                      refine wpAnyH_done (by kernel_rfl) ⟨_, _, _, _, _, rfl, HM5.out.trans hm⟩ _
            · refine anyH_op 11 rfl rfl ?_
              intro K hK
              refine wpl_stVar st ?_
              clear st
              intro wf gf st
              refine wpList_nil ?_
              refine hK _ _ (HM5.out.trans st.mem) ?_
              clear hK K
              refine wpAnyH_all (rs := [4]) (by kernel_rfl) (by simp) ?_
              intro i hi
              simp only [List.mem_cons, List.not_mem_nil, or_false] at hi
              rcases hi with rfl
              · refine anyH_op 4 rfl rfl ?_
                intro K hK
                refine wpl_stApp info st rfl rfl (SlOld.mem HV5.out st.mem) (by omega) ?_
                clear st
                intro vb wb st
                refine wpList_nil ?_
                refine hK _ _ (HM5.out.trans st.mem) ?_
                clear hK K
                refine wpAnyH_all (rs := [9]) (by kernel_rfl) (by simp) ?_
                intro i hi
                simp only [List.mem_cons, List.not_mem_nil, or_false] at hi
                rcases hi with rfl
                · refine anyH_op 9 rfl rfl ?_
                  intro K hK
                  refine wpl_stApp [(i : Int) + 1] st rfl rfl (old_all (st.bld _ rfl).1 rfl (Nat.le_refl _)) (by simp; omega) ?_
                  clear st
                  intro vd wd st
                  refine wpList_nil ?_
                  refine hK _ _ (HM5.out.trans st.mem) ?_
                  clear hK K
                  refine wpAnyH_all (rs := [10]) (by kernel_rfl) (by simp) ?_
                  intro i hi
                  simp only [List.mem_cons, List.not_mem_nil, or_false] at hi
                  rcases hi with rfl
                  · refine anyH_op 10 rfl rfl ?_
                    intro K hK
                    go_wp2_with (go_at_call 11; refine (mac_any ks (pieceOf ks info i ++ info ++ [(i : Int) + 1]) _ _ HKB.out HIN.out (by rw [HKL.out]; omega) HIL.out _ (Tab.mem HT5.out st.mem (by simp)) (SlOld.mem HK5.out st.mem) st.own.old).mono ?_; rintro e we ⟨he, hb⟩; rw [HPE.out] at he; subst he; replace st := st.below hb; clear hb)
                    refine hK _ _ (HM5.out.trans st.mem) ?_
                    clear hK K
                    refine wpAnyH_all (rs := [12]) (by kernel_rfl) (by simp) ?_
                    intro i hi
                    simp only [List.mem_cons, List.not_mem_nil, or_false] at hi
                    rcases hi with rfl
                    · refine anyH_op 12 rfl rfl ?_
                      intro K hK
                      refine wpl_stStore (pieceOf ks info (i + 1)) HPN.out st rfl rfl ?_
                      clear st
                      intro wg hm
                      refine wpList_nil ?_
                      refine hK _ _ (HM5.out.trans hm.tail) ?_
                      clear hK K
                      refine wpAnyH_done (by kernel_rfl) ⟨_, _, _, _, _, rfl, HM5.out.trans hm⟩ _
          · refine anyH_op 11 rfl rfl ?_
            intro K hK
            refine wpl_stVar st ?_
            clear st
            intro wf gf st
            refine wpList_nil ?_
            refine hK _ _ (HM5.out.trans st.mem) ?_
            clear hK K
            refine wpAnyH_all (rs := [2]) (by kernel_rfl) (by simp) ?_
            intro i hi
            simp only [List.mem_cons, List.not_mem_nil, or_false] at hi
            rcases hi with rfl
            · refine anyH_op 2 rfl rfl ?_
              intro K hK
              refine wpl_stApp (pieceOf ks info i) st rfl rfl (SlOld.mem HLA.out st.mem) (by simp; omega) ?_
              clear st
              intro va wa st
              replace st := (show St _ _ _ (pieceOf ks info i) _ _ from st)
              refine wpList_nil ?_
              refine hK _ _ (HM5.out.trans st.mem) ?_
              clear hK K
              refine wpAnyH_all (rs := [4]) (by kernel_rfl) (by simp) ?_
              intro i hi
              simp only [List.mem_cons, List.not_mem_nil, or_false] at hi
              rcases hi with rfl
              · refine anyH_op 4 rfl rfl ?_
                intro K hK
                refine wpl_stApp info st rfl rfl (SlOld.mem HV5.out st.mem) (by omega) ?_
                clear st
                intro vb wb st
                refine wpList_nil ?_
                refine hK _ _ (HM5.out.trans st.mem) ?_
                clear hK K
                refine wpAnyH_all (rs := [9]) (by kernel_rfl) (by simp) ?_
                intro i hi
                simp only [List.mem_cons, List.not_mem_nil, or_false] at hi
                rcases hi with rfl
                · refine anyH_op 9 rfl rfl ?_
                  intro K hK
                  refine wpl_stApp [(i : Int) + 1] st rfl rfl (old_all (st.bld _ rfl).1 rfl (Nat.le_refl _)) (by simp; omega) ?_
                  clear st
                  intro vd wd st
                  refine wpList_nil ?_
                  refine hK _ _ (HM5.out.trans st.mem) ?_
                  clear hK K
                  refine wpAnyH_all (rs := [10]) (by kernel_rfl) (by simp) ?_
                  intro i hi
                  simp only [List.mem_cons, List.not_mem_nil, or_false] at hi
                  rcases hi with rfl
                  · refine anyH_op 10 rfl rfl ?_
                    intro K hK
                    go_wp2_with (go_at_call 11; refine (mac_any ks (pieceOf ks info i ++ info ++ [(i : Int) + 1]) _ _ HKB.out HIN.out (by rw [HKL.out]; omega) HIL.out _ (Tab.mem HT5.out st.mem (by simp)) (SlOld.mem HK5.out st.mem) st.own.old).mono ?_; rintro e we ⟨he, hb⟩; rw [HPE.out] at he; subst he; replace st := st.below hb; clear hb)
                    refine hK _ _ (HM5.out.trans st.mem) ?_
                    clear hK K
                    refine wpAnyH_all (rs := [12]) (by kernel_rfl) (by simp) ?_
                    intro i hi
                    simp only [List.mem_cons, List.not_mem_nil, or_false] at hi
                    rcases hi with rfl
                    · refine anyH_op 12 rfl rfl ?_
                      intro K hK
                      refine wpl_stStore (pieceOf ks info (i + 1)) HPN.out st rfl rfl ?_
                      clear st
                      intro wg hm
                      refine wpList_nil ?_
                      refine hK _ _ (HM5.out.trans hm.tail) ?_
                      clear hK K
                      refine wpAnyH_done (by kernel_rfl) ⟨_, _, _, _, _, rfl, HM5.out.trans hm⟩ _
        · refine anyH_op 11 rfl rfl ?_
          intro K hK
          refine wpl_stVar st ?_
          clear st
          intro wf gf st
          refine wpList_nil ?_
          refine hK _ _ (HM5.out.trans st.mem) ?_
          clear hK K
          refine wpAnyH_all (rs := [2, 8]) (by kernel_rfl) (by simp) ?_
          intro i hi
          simp only [List.mem_cons, List.not_mem_nil, or_false] at hi
          rcases hi with rfl | rfl
          · refine anyH_op 2 rfl rfl ?_
            intro K hK
            refine wpl_stApp (pieceOf ks info i) st rfl rfl (SlOld.mem HLA.out st.mem) (by simp; omega) ?_
            clear st
            intro va wa st
            replace st := (show St _ _ _ (pieceOf ks info i) _ _ from st)
            refine wpList_nil ?_
            refine hK _ _ (HM5.out.trans st.mem) ?_
            clear hK K
            refine wpAnyH_all (rs := [4, 8]) (by kernel_rfl) (by simp) ?_
            intro i hi
            simp only [List.mem_cons, List.not_mem_nil, or_false] at hi
            rcases hi with rfl | rfl
            · refine anyH_op 4 rfl rfl ?_
              intro K hK
              refine wpl_stApp info st rfl rfl (SlOld.mem HV5.out st.mem) (by omega) ?_
              clear st
              intro vb wb st
              refine wpList_nil ?_
              refine hK _ _ (HM5.out.trans st.mem) ?_
              clear hK K
              refine wpAnyH_all (rs := [8]) (by kernel_rfl) (by simp) ?_
              intro i hi
              simp only [List.mem_cons, List.not_mem_nil, or_false] at hi
              rcases hi with rfl
              · refine anyH_op 8 rfl rfl ?_
                intro K hK
                refine wpl_stOne ((i : Int) + 1) st rfl ?_
                clear st
                intro wc gc st
                refine wpList_nil ?_
                refine hK _ _ (HM5.out.trans st.mem) ?_
                clear hK K
                refine wpAnyH_all (rs := [9]) (by kernel_rfl) (by simp) ?_
                intro i hi
                simp only [List.mem_cons, List.not_mem_nil, or_false] at hi
                rcases hi with rfl
                · refine anyH_op 9 rfl rfl ?_
                  intro K hK
                  refine wpl_stApp [(i : Int) + 1] st rfl rfl (old_all (st.bld _ rfl).1 rfl (Nat.le_refl _)) (by simp; omega) ?_
                  clear st
                  intro vd wd st
                  refine wpList_nil ?_
                  refine hK _ _ (HM5.out.trans st.mem) ?_
                  clear hK K
                  refine wpAnyH_all (rs := [10]) (by kernel_rfl) (by simp) ?_
                  intro i hi
                  simp only [List.mem_cons, List.not_mem_nil, or_false] at hi
                  rcases hi with rfl
                  · refine anyH_op 10 rfl rfl ?_
                    intro K hK
                    go_wp2_with (go_at_call 11; refine (mac_any ks (pieceOf ks info i ++ info ++ [(i : Int) + 1]) _ _ HKB.out HIN.out (by rw [HKL.out]; omega) HIL.out _ (Tab.mem HT5.out st.mem (by simp)) (SlOld.mem HK5.out st.mem) st.own.old).mono ?_; rintro e we ⟨he, hb⟩; rw [HPE.out] at he; subst he; replace st := st.below hb; clear hb)
                    refine hK _ _ (HM5.out.trans st.mem) ?_
                    clear hK K
                    refine wpAnyH_all (rs := [12]) (by kernel_rfl) (by simp) ?_
                    intro i hi
                    simp only [List.mem_cons, List.not_mem_nil, or_false] at hi
                    rcases hi with rfl
                    · refine anyH_op 12 rfl rfl ?_
                      intro K hK
                      refine wpl_stStore (pieceOf ks info (i + 1)) HPN.out st rfl rfl ?_
                      clear st
                      intro wg hm
                      refine wpList_nil ?_
                      refine hK _ _ (HM5.out.trans hm.tail) ?_
                      clear hK K
                      refine wpAnyH_done (by kernel_rfl) ⟨_, _, _, _, _, rfl, HM5.out.trans hm⟩ _
            · refine anyH_op 8 rfl rfl ?_
              intro K hK
              refine wpl_stOne ((i : Int) + 1) st rfl ?_
              clear st
              intro wc gc st
              refine wpList_nil ?_
              refine hK _ _ (HM5.out.trans st.mem) ?_
              clear hK K
              refine wpAnyH_all (rs := [4]) (by kernel_rfl) (by simp) ?_
              intro i hi
              simp only [List.mem_cons, List.not_mem_nil, or_false] at hi
              rcases hi with rfl
              · refine anyH_op 4 rfl rfl ?_
                intro K hK
                refine wpl_stApp info st rfl rfl (SlOld.mem HV5.out st.mem) (by omega) ?_
                clear st
                intro vb wb st
                refine wpList_nil ?_
                refine hK _ _ (HM5.out.trans st.mem) ?_
                clear hK K
                refine wpAnyH_all (rs := [9]) (by kernel_rfl) (by simp) ?_
                intro i hi
                simp only [List.mem_cons, List.not_mem_nil, or_false] at hi
                rcases hi with rfl
                · refine anyH_op 9 rfl rfl ?_
                  intro K hK
                  refine wpl_stApp [(i : Int) + 1] st rfl rfl (old_all (st.bld _ rfl).1 rfl (Nat.le_refl _)) (by simp; omega) ?_
                  clear st
                  intro vd wd st
                  refine wpList_nil ?_
                  refine hK _ _ (HM5.out.trans st.mem) ?_
                  clear hK K
                  refine wpAnyH_all (rs := [10]) (by kernel_rfl) (by simp) ?_
                  intro i hi
                  simp only [List.mem_cons, List.not_mem_nil, or_false] at hi
                  rcases hi with rfl
                  · refine anyH_op 10 rfl rfl ?_
                    intro K hK
                    go_wp2_with (go_at_call 11; refine (mac_any ks (pieceOf ks info i ++ info ++ [(i : Int) + 1]) _ _ HKB.out HIN.out (by rw [HKL.out]; omega) HIL.out _ (Tab.mem HT5.out st.mem (by simp)) (SlOld.mem HK5.out st.mem) st.own.old).mono ?_; rintro e we ⟨he, hb⟩; rw [HPE.out] at he; subst he; replace st := st.below hb; clear hb)
                    refine hK _ _ (HM5.out.trans st.mem) ?_
                    clear hK K
                    refine wpAnyH_all (rs := [12]) (by kernel_rfl) (by simp) ?_
                    intro i hi
                    simp only [List.mem_cons, List.not_mem_nil, or_false] at hi
                    rcases hi with rfl
                    · refine anyH_op 12 rfl rfl ?_
                      intro K hK
                      refine wpl_stStore (pieceOf ks info (i + 1)) HPN.out st rfl rfl ?_
                      clear st
                      intro wg hm
                      refine wpList_nil ?_
                      refine hK _ _ (HM5.out.trans hm.tail) ?_
                      clear hK K
                      refine wpAnyH_done (by kernel_rfl) ⟨_, _, _, _, _, rfl, HM5.out.trans hm⟩ _
          · refine anyH_op 8 rfl rfl ?_
            intro K hK
            refine wpl_stOne ((i : Int) + 1) st rfl ?_
            clear st
            intro wc gc st
            refine wpList_nil ?_
            refine hK _ _ (HM5.out.trans st.mem) ?_
            clear hK K
            refine wpAnyH_all (rs := [2]) (by kernel_rfl) (by simp) ?_
            intro i hi
            simp only [List.mem_cons, List.not_mem_nil, or_false] at hi
            rcases hi with rfl
            · refine anyH_op 2 rfl rfl ?_
              intro K hK
              refine wpl_stApp (pieceOf ks info i) st rfl rfl (SlOld.mem HLA.out st.mem) (by simp; omega) ?_
              clear st
              intro va wa st
              replace st := (show St _ _ _ (pieceOf ks info i) _ _ from st)
              refine wpList_nil ?_
              refine hK _ _ (HM5.out.trans st.mem) ?_
              clear hK K
              refine wpAnyH_all (rs := [4]) (by kernel_rfl) (by simp) ?_
              intro i hi
              simp only [List.mem_cons, List.not_mem_nil, or_false] at hi
              rcases hi with rfl
              · refine anyH_op 4 rfl rfl ?_
                intro K hK
                refine wpl_stApp info st rfl rfl (SlOld.mem HV5.out st.mem) (by omega) ?_
                clear st
                intro vb wb st
                refine wpList_nil ?_
                refine hK _ _ (HM5.out.trans st.mem) ?_
                clear hK K
                refine wpAnyH_all (rs := [9]) (by kernel_rfl) (by simp) ?_
                intro i hi
                simp only [List.mem_cons, List.not_mem_nil, or_false] at hi
                rcases hi with rfl
                · refine anyH_op 9 rfl rfl ?_
                  intro K hK
                  refine wpl_stApp [(i : Int) + 1] st rfl rfl (old_all (st.bld _ rfl).1 rfl (Nat.le_refl _)) (by simp; omega) ?_
                  clear st
                  intro vd wd st
                  refine wpList_nil ?_
                  refine hK _ _ (HM5.out.trans st.mem) ?_
                  clear hK K
                  refine wpAnyH_all (rs := [10]) (by kernel_rfl) (by simp) ?_
                  intro i hi
                  simp only [List.mem_cons, List.not_mem_nil, or_false] at hi
                  rcases hi with rfl
                  · refine anyH_op 10 rfl rfl ?_
                    intro K hK
                    go_wp2_with (go_at_call 11; refine (mac_any ks (pieceOf ks info i ++ info ++ [(i : Int) + 1]) _ _ HKB.out HIN.out (by rw [HKL.out]; omega) HIL.out _ (Tab.mem HT5.out st.mem (by simp)) (SlOld.mem HK5.out st.mem) st.own.old).mono ?_; rintro e we ⟨he, hb⟩; rw [HPE.out] at he; subst he; replace st := st.below hb; clear hb)
                    refine hK _ _ (HM5.out.trans st.mem) ?_
                    clear hK K
                    refine wpAnyH_all (rs := [12]) (by kernel_rfl) (by simp) ?_
                    intro i hi
                    simp only [List.mem_cons, List.not_mem_nil, or_false] at hi
                    rcases hi with rfl
                    · refine anyH_op 12 rfl rfl ?_
                      intro K hK
                      refine wpl_stStore (pieceOf ks info (i + 1)) HPN.out st rfl rfl ?_
                      clear st
                      intro wg hm
                      refine wpList_nil ?_
                      refine hK _ _ (HM5.out.trans hm.tail) ?_
                      clear hK K
                      refine wpAnyH_done (by kernel_rfl) ⟨_, _, _, _, _, rfl, HM5.out.trans hm⟩ _
      · clear hm HLA
        rintro a W ⟨v33, v35, v39, v40, g11, rfl, hm⟩
        go_wp2_with (first
          | ((with_reducible refine at_op (some 43) (.call { callee := .builtin .append, args := #[.const (.slice none 0 0), .tmp 42], argTypes := #[22, 22] }) ?_); refine wpl_app rfl un_bs made_u8 (pieceOf ks info (i + 1)) hm (OwnB.nil _ _ _) (HTY.out _ _) rfl rfl HPN.out.symm (fun _ => ⟨g11, 0, rfl, Seg.row (hm.get 0 rfl)⟩) (by rw [HPN.out]; simp) ?_; clear hm; intro v9 w8 hown hm; replace hown : OwnB 5 w8 w4.heap.size v9 (pieceOf ks info (i + 1)) := hown))

        have hm8 : Mem w4 [] w8 [] := hm.tail
        clear hm
        have hs9 : SlOld w8 v9 (pieceOf ks info (i + 1)) := hown.old
        clear hown
        obtain ⟨p9, c9, rfl, _⟩ := hs9.len
        have hsx : SlOld w8 (.slice (some ⟨g8, 32 * i, none⟩) 32 (32 * M - 32 * i)) (pieceOf ks info (i + 1)) := by
          have hseg := ((Seg.row (HG8.out.below' hm8.below)).drop (32 * i)).take 32
          rw [HEX.out, rows_at ks info M i hlt] at hseg
          rw [Nat.zero_add] at hseg
          exact ⟨_, _, by rw [HPN.out], by rw [HPN.out]; omega, fun _ => ⟨_, _, rfl, hseg⟩⟩
        refine wp_ends0 ?_
        refine anyH_start2 (by kernel_rfl) hm8 hs9 hsx ?_
        clear hm8 hs9 hsx
        intro w9 hm hs9 hsx
        have hT : SlOld w9 (.slice p9 (pieceOf ks info (i + 1)).length c9) (pieceOf ks info (i + 1)) ∧ SlOld w9 (.slice (some ⟨g8, 32 * i, none⟩) 32 (32 * M - 32 * i)) (pieceOf ks info (i + 1)) := ⟨hs9, hsx⟩
        refine anyH_take 0 (v := .slice (some ⟨g8, 0, none⟩) (32 * M) (32 * M)) rfl (by kernel_rfl) (by kernel_rfl) (by kernel_rfl) rfl (fun W _ => by go_simp) hT ?_
        go_simp
        refine anyH_take 1 (v := .int .i64 (i : Int)) rfl (by kernel_rfl) (by kernel_rfl) (by kernel_rfl) rfl (fun W _ => by go_simp) hT ?_
        go_simp
        refine anyH_take 2 (v := .int .i64 (32 * (i : Int))) rfl (by kernel_rfl) (by kernel_rfl) (by kernel_rfl) rfl (fun W _ => by go_simp; first | exact wrapi _ (by omega) (by omega) | exact wrapb _ (by omega) (by omega)) hT ?_
        go_simp
        refine anyH_take 3 (v := .int .i64 (i : Int)) rfl (by kernel_rfl) (by kernel_rfl) (by kernel_rfl) rfl (fun W _ => by go_simp) hT ?_
        go_simp
        refine anyH_take 4 (v := .int .i64 (32 * (i : Int))) rfl (by kernel_rfl) (by kernel_rfl) (by kernel_rfl) rfl (fun W _ => by go_simp; first | exact wrapi _ (by omega) (by omega) | exact wrapb _ (by omega) (by omega)) hT ?_
        go_simp
        refine anyH_take 5 (v := .int .i64 (32 * (i : Int) + 32)) rfl (by kernel_rfl) (by kernel_rfl) (by kernel_rfl) rfl (fun W _ => by go_simp; first | exact wrapi _ (by omega) (by omega) | exact wrapb _ (by omega) (by omega)) hT ?_
        go_simp
        refine anyH_take 6 (v := .slice (some ⟨g8, 32 * i, none⟩) 32 (32 * M - 32 * i)) rfl (by kernel_rfl) (by kernel_rfl) (by kernel_rfl) rfl (fun W _ => exec_slh2 un_bs sz_u8 (32 * i) (32 * i) 32 (by omega) (by omega) (by omega) rfl rfl (by omega) rfl (by omega)) hT ?_
        go_simp
        refine anyH_take 7 (v := .string (strOf (pieceOf ks info (i + 1)))) rfl (by kernel_rfl) (by kernel_rfl) (by kernel_rfl) rfl (fun W hW => exec_tostr un_bs un_u8 un_strT _ rfl hW.2) hT ?_
        go_simp
        refine anyH_take 8 (v := .slice p9 (pieceOf ks info (i + 1)).length c9) rfl (by kernel_rfl) (by kernel_rfl) (by kernel_rfl) rfl (fun W _ => by go_simp) hT ?_
        go_simp
        refine anyH_take 9 (v := .string (strOf (pieceOf ks info (i + 1)))) rfl (by kernel_rfl) (by kernel_rfl) (by kernel_rfl) rfl (fun W hW => exec_tostr un_bs un_u8 un_strT _ rfl hW.1) hT ?_
        go_simp
        refine anyH_take 10 (v := .bool false) rfl (by kernel_rfl) (by kernel_rfl) (by kernel_rfl) rfl (fun W _ => exec_nes (strOf (pieceOf ks info (i + 1))) (strOf (pieceOf ks info (i + 1))) true rfl rfl (beq_self_str _)) hT ?_
        go_simp
        refine wpAnyH_done (by kernel_rfl) ?_ _
        simp only [endsIn]
        go_wp2_with fail
        go_roundw
        case rel => exact ⟨i + 1, by omega, by go_num, hs9, hm⟩
        case measure => simp [intOf]; omega
    · have hni : ¬ (i : Int) < (M : Int) := by omega
      have h32b : (((32 * M : Nat) : Int) == 32 * (M : Int)) = true := beq_iff_eq.2 (by omega)
      go_wp2_with fail
      go_ret
      exact ⟨rfl, (HMM.out.call hm.below).below⟩
end Go.Proofs.YtaalpmlmogfooaaDoor
