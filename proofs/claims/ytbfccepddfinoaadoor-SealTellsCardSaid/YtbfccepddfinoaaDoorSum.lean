/- The contract of the method Sum. -/
import Derived.Test.YtbfccepddfinoaaDoorWrite
import Derived.Test.YtbfccepddfinoaaDoorAny3
namespace Go.Proofs.YtbfccepddfinoaaDoor
open Go Go.RowKit

set_option maxHeartbeats 2000000 in
set_option maxRecDepth 100000 in
theorem hashSum_any (g : Nat) (m : List Int) (hbm : Bytes m) (hlen : m.length ≤ 1099511627776) (w : World) (ht : Tab w) (hr : Row w g (hrow (wsOf m) (restOf m) m.length) 99) :
    Calls Tryd.prog 53 #[.pointer (some ⟨g, 0, none⟩)] w fun e w' => e = .returned (.agg (u8s (shaOf m)).toArray) ∧ Below w.heap.size w w' := by
  have hm := Mem.start w
  have hw8 := wsOf_length m
  have hr64 := restOf_length m
  have hsm : (m.length : Int) < 64 → wsOf m = firstW := fun h => wsOf_small m (by omega)
  have hsz : (hrow (wsOf m) (restOf m) m.length)[72]? = some (.int .i64 m.length) := hrow_size _ _ _ hw8 hr64
  have hln : (hrow (wsOf m) (restOf m) m.length).length = 73 := hrow_length _ _ _ hw8 hr64
  have HT : Hid _ := ht
  have HR : Hid (Row w g (hrow (wsOf m) (restOf m) m.length) 99) := hr
  have HBM : Hid _ := hbm
  have HW8 : Hid _ := hw8
  have HR64 : Hid _ := hr64
  have HSM : Hid _ := hsm
  have HSZ : Hid _ := hsz
  have HLN : Hid _ := hln
  clear ht hbm hw8 hr64 hsm hsz hln hr
  go_enter Tryd.func53, Tryd.ntmps53
  go_wp2_with (first
    | ((with_reducible refine at_op (some 2) (.alloc 22) ?_); refine wpl_alloc _ zero_b32 hm ?_; clear hm; intro w1 g2 hm))

  refine wp_ends (fun a' w' => ∃ g3 g4, a' = ⟨#[.pointer (some ⟨g, 0, none⟩), undef, .pointer (some ⟨g2, 0, none⟩), .pointer (some ⟨g3, 0, none⟩), .pointer (some ⟨g4, 0, none⟩), undef, .pointer (some ⟨g, 0, none⟩), .agg (u32s (wsOf m)).toArray, .pointer (some ⟨g, 0, none⟩), .pointer (some ⟨g, 0, none⟩), .pointer (some ⟨g, 8, none⟩), .agg (u8s (restOf m)).toArray, undef, undef, undef, undef, undef, undef, undef, undef, undef, undef, undef, undef, undef, undef, undef, undef, undef, undef, undef, undef, undef, undef, undef, undef, undef, undef], []⟩ ∧ Mem w [] w' [(g4, u8s (restOf m), 64), (g3, u32s (wsOf m), 91), (g2, u8s (List.replicate 32 0), 22)]) ?_ ?_
  · refine anyH_start (T := fun W => Below w.heap.size w W) (by kernel_rfl) hm ?_
    clear hm
    intro w2 hm
    refine anyH_take 0 (v := .pointer (some ⟨g, 0, none⟩)) rfl (by kernel_rfl) (by kernel_rfl) (by kernel_rfl) rfl (fun W _ => rfl) hm.below ?_
    refine anyH_take 2 (v := .pointer (some ⟨g, 0, none⟩)) rfl (by kernel_rfl) (by kernel_rfl) (by kernel_rfl) rfl (fun W _ => rfl) hm.below ?_
    refine anyH_take 3 (v := .pointer (some ⟨g, 0, none⟩)) rfl (by kernel_rfl) (by kernel_rfl) (by kernel_rfl) rfl (fun W _ => rfl) hm.below ?_
    refine anyH_take 4 (v := .pointer (some ⟨g, 8, none⟩)) rfl (by kernel_rfl) (by kernel_rfl) (by kernel_rfl) rfl (fun W _ => by go_simp) hm.below ?_
    refine anyH_take 5 (v := .agg (u8s (restOf m)).toArray) rfl (by kernel_rfl) (by kernel_rfl) (by kernel_rfl) rfl (fun W hW => exec_lds 8 _ (Row.below' HR.out hW) rfl _ un_b64 rfl 64 sz_b64 (by rw [HLN.out]; omega) (hrow_rest _ _ _ HW8.out HR64.out)) hm.below ?_
    refine wpAnyH_all (rs := [1, 6, 7]) (by kernel_rfl) (by simp) ?_
    intro i hi
    simp only [List.mem_cons, List.not_mem_nil, or_false] at hi
    rcases hi with rfl | rfl | rfl
    · refine anyH_op 1 rfl rfl ?_
      intro K hK
      go_wp2_with ((go_at_call 60; refine (begun_any g _ _ _ HW8.out HR64.out HSM.out _ (Row.below' HR.out hm.below)).mono ?_; rintro e w3 ⟨rfl, hb⟩; replace hm := hm.call hb; clear hb))
      refine hK _ _ hm.below ?_
      clear hK K
      refine wpAnyH_all (rs := [6, 7]) (by kernel_rfl) (by simp) ?_
      intro i hi
      simp only [List.mem_cons, List.not_mem_nil, or_false] at hi
      rcases hi with rfl | rfl
      · refine anyH_op 6 rfl rfl ?_
        intro K hK
        (refine wpl_alloc _ zero_w8 hm ?_; clear hm; intro w4 g3 hm)
        refine wpList_nil ?_
        refine hK _ _ hm.below ?_
        clear hK K
        refine wpAnyH_all (rs := [7]) (by kernel_rfl) (by simp) ?_
        intro i hi
        simp only [List.mem_cons, List.not_mem_nil, or_false] at hi
        rcases hi with rfl
        · refine anyH_op 7 rfl rfl ?_
          intro K hK
          (refine wpl_alloc _ zero_b64 hm ?_; clear hm; intro w5 g4 hm)
          refine wpList_nil ?_
          refine hK _ _ hm.below ?_
          clear hK K
          refine wpAnyH_all (rs := [8]) (by kernel_rfl) (by simp) ?_
          intro i hi
          simp only [List.mem_cons, List.not_mem_nil, or_false] at hi
          rcases hi with rfl
          · refine anyH_op 8 rfl rfl ?_
            intro K hK
            (first | refine wpl_stw 0 (u32s (wsOf m)) hm rfl rfl rfl 8 sz_w8 rfl (by rw [u32s_length]; exact HW8.out) (u32s_one _) ?_ | refine wpl_stw 1 (u32s (wsOf m)) hm rfl rfl rfl 8 sz_w8 rfl (by rw [u32s_length]; exact HW8.out) (u32s_one _) ?_); (clear hm; intro w6 hm)
            refine wpList_nil ?_
            refine hK _ _ hm.below ?_
            clear hK K
            refine wpAnyH_all (rs := [9]) (by kernel_rfl) (by simp) ?_
            intro i hi
            simp only [List.mem_cons, List.not_mem_nil, or_false] at hi
            rcases hi with rfl
            · refine anyH_op 9 rfl rfl ?_
              intro K hK
              (first | refine wpl_stw 0 (u8s (restOf m)) hm rfl rfl rfl 64 sz_b64 rfl (by rw [u8s_length]; exact HR64.out) (u8s_one _) ?_ | refine wpl_stw 1 (u8s (restOf m)) hm rfl rfl rfl 64 sz_b64 rfl (by rw [u8s_length]; exact HR64.out) (u8s_one _) ?_); (clear hm; intro w7 hm)
              refine wpList_nil ?_
              refine hK _ _ hm.below ?_
              clear hK K
              refine wpAnyH_done (by kernel_rfl) ⟨g3, g4, rfl, ?_⟩ _
              first | exact hm | exact hm.swap
      · refine anyH_op 7 rfl rfl ?_
        intro K hK
        (refine wpl_alloc _ zero_b64 hm ?_; clear hm; intro w5 g4 hm)
        refine wpList_nil ?_
        refine hK _ _ hm.below ?_
        clear hK K
        refine wpAnyH_all (rs := [6]) (by kernel_rfl) (by simp) ?_
        intro i hi
        simp only [List.mem_cons, List.not_mem_nil, or_false] at hi
        rcases hi with rfl
        · refine anyH_op 6 rfl rfl ?_
          intro K hK
          (refine wpl_alloc _ zero_w8 hm ?_; clear hm; intro w4 g3 hm)
          refine wpList_nil ?_
          refine hK _ _ hm.below ?_
          clear hK K
          refine wpAnyH_all (rs := [8]) (by kernel_rfl) (by simp) ?_
          intro i hi
          simp only [List.mem_cons, List.not_mem_nil, or_false] at hi
          rcases hi with rfl
          · refine anyH_op 8 rfl rfl ?_
            intro K hK
            (first | refine wpl_stw 0 (u32s (wsOf m)) hm rfl rfl rfl 8 sz_w8 rfl (by rw [u32s_length]; exact HW8.out) (u32s_one _) ?_ | refine wpl_stw 1 (u32s (wsOf m)) hm rfl rfl rfl 8 sz_w8 rfl (by rw [u32s_length]; exact HW8.out) (u32s_one _) ?_); (clear hm; intro w6 hm)
            refine wpList_nil ?_
            refine hK _ _ hm.below ?_
            clear hK K
            refine wpAnyH_all (rs := [9]) (by kernel_rfl) (by simp) ?_
            intro i hi
            simp only [List.mem_cons, List.not_mem_nil, or_false] at hi
            rcases hi with rfl
            · refine anyH_op 9 rfl rfl ?_
              intro K hK
              (first | refine wpl_stw 0 (u8s (restOf m)) hm rfl rfl rfl 64 sz_b64 rfl (by rw [u8s_length]; exact HR64.out) (u8s_one _) ?_ | refine wpl_stw 1 (u8s (restOf m)) hm rfl rfl rfl 64 sz_b64 rfl (by rw [u8s_length]; exact HR64.out) (u8s_one _) ?_); (clear hm; intro w7 hm)
              refine wpList_nil ?_
              refine hK _ _ hm.below ?_
              clear hK K
              refine wpAnyH_done (by kernel_rfl) ⟨g3, g4, rfl, ?_⟩ _
              first | exact hm | exact hm.swap
    · refine anyH_op 6 rfl rfl ?_
      intro K hK
      (refine wpl_alloc _ zero_w8 hm ?_; clear hm; intro w4 g3 hm)
      refine wpList_nil ?_
      refine hK _ _ hm.below ?_
      clear hK K
      refine wpAnyH_all (rs := [1, 7]) (by kernel_rfl) (by simp) ?_
      intro i hi
      simp only [List.mem_cons, List.not_mem_nil, or_false] at hi
      rcases hi with rfl | rfl
      · refine anyH_op 1 rfl rfl ?_
        intro K hK
        go_wp2_with ((go_at_call 60; refine (begun_any g _ _ _ HW8.out HR64.out HSM.out _ (Row.below' HR.out hm.below)).mono ?_; rintro e w3 ⟨rfl, hb⟩; replace hm := hm.call hb; clear hb))
        refine hK _ _ hm.below ?_
        clear hK K
        refine wpAnyH_all (rs := [7]) (by kernel_rfl) (by simp) ?_
        intro i hi
        simp only [List.mem_cons, List.not_mem_nil, or_false] at hi
        rcases hi with rfl
        · refine anyH_op 7 rfl rfl ?_
          intro K hK
          (refine wpl_alloc _ zero_b64 hm ?_; clear hm; intro w5 g4 hm)
          refine wpList_nil ?_
          refine hK _ _ hm.below ?_
          clear hK K
          refine wpAnyH_all (rs := [8]) (by kernel_rfl) (by simp) ?_
          intro i hi
          simp only [List.mem_cons, List.not_mem_nil, or_false] at hi
          rcases hi with rfl
          · refine anyH_op 8 rfl rfl ?_
            intro K hK
            (first | refine wpl_stw 0 (u32s (wsOf m)) hm rfl rfl rfl 8 sz_w8 rfl (by rw [u32s_length]; exact HW8.out) (u32s_one _) ?_ | refine wpl_stw 1 (u32s (wsOf m)) hm rfl rfl rfl 8 sz_w8 rfl (by rw [u32s_length]; exact HW8.out) (u32s_one _) ?_); (clear hm; intro w6 hm)
            refine wpList_nil ?_
            refine hK _ _ hm.below ?_
            clear hK K
            refine wpAnyH_all (rs := [9]) (by kernel_rfl) (by simp) ?_
            intro i hi
            simp only [List.mem_cons, List.not_mem_nil, or_false] at hi
            rcases hi with rfl
            · refine anyH_op 9 rfl rfl ?_
              intro K hK
              (first | refine wpl_stw 0 (u8s (restOf m)) hm rfl rfl rfl 64 sz_b64 rfl (by rw [u8s_length]; exact HR64.out) (u8s_one _) ?_ | refine wpl_stw 1 (u8s (restOf m)) hm rfl rfl rfl 64 sz_b64 rfl (by rw [u8s_length]; exact HR64.out) (u8s_one _) ?_); (clear hm; intro w7 hm)
              refine wpList_nil ?_
              refine hK _ _ hm.below ?_
              clear hK K
              refine wpAnyH_done (by kernel_rfl) ⟨g3, g4, rfl, ?_⟩ _
              first | exact hm | exact hm.swap
      · refine anyH_op 7 rfl rfl ?_
        intro K hK
        (refine wpl_alloc _ zero_b64 hm ?_; clear hm; intro w5 g4 hm)
        refine wpList_nil ?_
        refine hK _ _ hm.below ?_
        clear hK K
        refine wpAnyH_all (rs := [1]) (by kernel_rfl) (by simp) ?_
        intro i hi
        simp only [List.mem_cons, List.not_mem_nil, or_false] at hi
        rcases hi with rfl
        · refine anyH_op 1 rfl rfl ?_
          intro K hK
          go_wp2_with ((go_at_call 60; refine (begun_any g _ _ _ HW8.out HR64.out HSM.out _ (Row.below' HR.out hm.below)).mono ?_; rintro e w3 ⟨rfl, hb⟩; replace hm := hm.call hb; clear hb))
          refine hK _ _ hm.below ?_
          clear hK K
          refine wpAnyH_all (rs := [8]) (by kernel_rfl) (by simp) ?_
          intro i hi
          simp only [List.mem_cons, List.not_mem_nil, or_false] at hi
          rcases hi with rfl
          · refine anyH_op 8 rfl rfl ?_
            intro K hK
            (first | refine wpl_stw 0 (u32s (wsOf m)) hm rfl rfl rfl 8 sz_w8 rfl (by rw [u32s_length]; exact HW8.out) (u32s_one _) ?_ | refine wpl_stw 1 (u32s (wsOf m)) hm rfl rfl rfl 8 sz_w8 rfl (by rw [u32s_length]; exact HW8.out) (u32s_one _) ?_); (clear hm; intro w6 hm)
            refine wpList_nil ?_
            refine hK _ _ hm.below ?_
            clear hK K
            refine wpAnyH_all (rs := [9]) (by kernel_rfl) (by simp) ?_
            intro i hi
            simp only [List.mem_cons, List.not_mem_nil, or_false] at hi
            rcases hi with rfl
            · refine anyH_op 9 rfl rfl ?_
              intro K hK
              (first | refine wpl_stw 0 (u8s (restOf m)) hm rfl rfl rfl 64 sz_b64 rfl (by rw [u8s_length]; exact HR64.out) (u8s_one _) ?_ | refine wpl_stw 1 (u8s (restOf m)) hm rfl rfl rfl 64 sz_b64 rfl (by rw [u8s_length]; exact HR64.out) (u8s_one _) ?_); (clear hm; intro w7 hm)
              refine wpList_nil ?_
              refine hK _ _ hm.below ?_
              clear hK K
              refine wpAnyH_done (by kernel_rfl) ⟨g3, g4, rfl, ?_⟩ _
              first | exact hm | exact hm.swap
    · refine anyH_op 7 rfl rfl ?_
      intro K hK
      (refine wpl_alloc _ zero_b64 hm ?_; clear hm; intro w5 g4 hm)
      refine wpList_nil ?_
      refine hK _ _ hm.below ?_
      clear hK K
      refine wpAnyH_all (rs := [1, 6]) (by kernel_rfl) (by simp) ?_
      intro i hi
      simp only [List.mem_cons, List.not_mem_nil, or_false] at hi
      rcases hi with rfl | rfl
      · refine anyH_op 1 rfl rfl ?_
        intro K hK
        go_wp2_with ((go_at_call 60; refine (begun_any g _ _ _ HW8.out HR64.out HSM.out _ (Row.below' HR.out hm.below)).mono ?_; rintro e w3 ⟨rfl, hb⟩; replace hm := hm.call hb; clear hb))
        refine hK _ _ hm.below ?_
        clear hK K
        refine wpAnyH_all (rs := [6]) (by kernel_rfl) (by simp) ?_
        intro i hi
        simp only [List.mem_cons, List.not_mem_nil, or_false] at hi
        rcases hi with rfl
        · refine anyH_op 6 rfl rfl ?_
          intro K hK
          (refine wpl_alloc _ zero_w8 hm ?_; clear hm; intro w4 g3 hm)
          refine wpList_nil ?_
          refine hK _ _ hm.below ?_
          clear hK K
          refine wpAnyH_all (rs := [8]) (by kernel_rfl) (by simp) ?_
          intro i hi
          simp only [List.mem_cons, List.not_mem_nil, or_false] at hi
          rcases hi with rfl
          · refine anyH_op 8 rfl rfl ?_
            intro K hK
            (first | refine wpl_stw 0 (u32s (wsOf m)) hm rfl rfl rfl 8 sz_w8 rfl (by rw [u32s_length]; exact HW8.out) (u32s_one _) ?_ | refine wpl_stw 1 (u32s (wsOf m)) hm rfl rfl rfl 8 sz_w8 rfl (by rw [u32s_length]; exact HW8.out) (u32s_one _) ?_); (clear hm; intro w6 hm)
            refine wpList_nil ?_
            refine hK _ _ hm.below ?_
            clear hK K
            refine wpAnyH_all (rs := [9]) (by kernel_rfl) (by simp) ?_
            intro i hi
            simp only [List.mem_cons, List.not_mem_nil, or_false] at hi
            rcases hi with rfl
            · refine anyH_op 9 rfl rfl ?_
              intro K hK
              (first | refine wpl_stw 0 (u8s (restOf m)) hm rfl rfl rfl 64 sz_b64 rfl (by rw [u8s_length]; exact HR64.out) (u8s_one _) ?_ | refine wpl_stw 1 (u8s (restOf m)) hm rfl rfl rfl 64 sz_b64 rfl (by rw [u8s_length]; exact HR64.out) (u8s_one _) ?_); (clear hm; intro w7 hm)
              refine wpList_nil ?_
              refine hK _ _ hm.below ?_
              clear hK K
              refine wpAnyH_done (by kernel_rfl) ⟨g3, g4, rfl, ?_⟩ _
              first | exact hm | exact hm.swap
      · refine anyH_op 6 rfl rfl ?_
        intro K hK
        (refine wpl_alloc _ zero_w8 hm ?_; clear hm; intro w4 g3 hm)
        refine wpList_nil ?_
        refine hK _ _ hm.below ?_
        clear hK K
        refine wpAnyH_all (rs := [1]) (by kernel_rfl) (by simp) ?_
        intro i hi
        simp only [List.mem_cons, List.not_mem_nil, or_false] at hi
        rcases hi with rfl
        · refine anyH_op 1 rfl rfl ?_
          intro K hK
          go_wp2_with ((go_at_call 60; refine (begun_any g _ _ _ HW8.out HR64.out HSM.out _ (Row.below' HR.out hm.below)).mono ?_; rintro e w3 ⟨rfl, hb⟩; replace hm := hm.call hb; clear hb))
          refine hK _ _ hm.below ?_
          clear hK K
          refine wpAnyH_all (rs := [8]) (by kernel_rfl) (by simp) ?_
          intro i hi
          simp only [List.mem_cons, List.not_mem_nil, or_false] at hi
          rcases hi with rfl
          · refine anyH_op 8 rfl rfl ?_
            intro K hK
            (first | refine wpl_stw 0 (u32s (wsOf m)) hm rfl rfl rfl 8 sz_w8 rfl (by rw [u32s_length]; exact HW8.out) (u32s_one _) ?_ | refine wpl_stw 1 (u32s (wsOf m)) hm rfl rfl rfl 8 sz_w8 rfl (by rw [u32s_length]; exact HW8.out) (u32s_one _) ?_); (clear hm; intro w6 hm)
            refine wpList_nil ?_
            refine hK _ _ hm.below ?_
            clear hK K
            refine wpAnyH_all (rs := [9]) (by kernel_rfl) (by simp) ?_
            intro i hi
            simp only [List.mem_cons, List.not_mem_nil, or_false] at hi
            rcases hi with rfl
            · refine anyH_op 9 rfl rfl ?_
              intro K hK
              (first | refine wpl_stw 0 (u8s (restOf m)) hm rfl rfl rfl 64 sz_b64 rfl (by rw [u8s_length]; exact HR64.out) (u8s_one _) ?_ | refine wpl_stw 1 (u8s (restOf m)) hm rfl rfl rfl 64 sz_b64 rfl (by rw [u8s_length]; exact HR64.out) (u8s_one _) ?_); (clear hm; intro w7 hm)
              refine wpList_nil ?_
              refine hK _ _ hm.below ?_
              clear hK K
              refine wpAnyH_done (by kernel_rfl) ⟨g3, g4, rfl, ?_⟩ _
              first | exact hm | exact hm.swap

  · rintro a' w' ⟨g3, g4, rfl, hm⟩
    obtain ⟨q, hq⟩ : ∃ q, q = m.length % 64 := ⟨_, rfl⟩
    have hq64 : q < 64 := by omega
    have hqi : (m.length : Int) % 64 = (q : Int) := by omega
    have HQ : Hid _ := hq
    clear hq
    have hb64 : ((restOf m).set q 128).length = 64 := by rw [List.length_set]; exact HR64.out
    have hbb : Bytes ((restOf m).set q 128) := Bytes.set (restOf_bytes HBM.out) q 128 ⟨by omega, by omega⟩
    have HB64 : Hid _ := hb64
    have HBB : Hid _ := hbb
    clear hb64 hbb
    by_cases h56 : 56 ≤ q
    · have h56i : (56 : Int) ≤ (q : Int) := by omega
      have hfin : fin (wsOf m) (restOf m) m.length = mix (mix (wsOf m) ((restOf m).set q 128)) (splice (List.replicate 64 0) 56 (be8 (m.length * 8))) := by
        unfold fin; rw [← HQ.out, if_pos h56]
      have HF : Hid _ := hfin
      clear hfin
      go_wp2_with (first
        | ((with_reducible refine at_op (some 15) (.load 3 (.tmp 14)) ?_); refine wpl_ldr 72 (.int .i64 m.length) (Row.below' HR.out hm.below) rfl ag_int HSZ.out ?_)
        | ((with_reducible refine at_op none (.store 5 (.tmp 18) (.const (.int .u8 128))) ?_); refine wpl_stc 0 q (.int .u8 128) hm rfl (rfl) rfl sz_u8 (by rw [u8s_length, HR64.out]; exact hq64) rfl rfl ?_; clear hm; intro w8 hm; rw [u8s_set] at hm)
        | ((with_reducible refine at_op (some 21) (.load 91 (.tmp 3)) ?_); refine wpl_ldw 1 hm rfl rfl _ un_w8 rfl 8 sz_w8 (by rw [u32s_length]; exact HW8.out) ?_)
        | ((with_reducible refine at_op (some 22) (.load 64 (.tmp 4)) ?_); refine wpl_ldw 0 hm rfl rfl _ un_b64 rfl 64 sz_b64 (by rw [u8s_length]; exact HB64.out) ?_)
        | (go_at_call 61; refine (mixed_any (wsOf m) ((restOf m).set q 128) HW8.out HB64.out (Bytes.get HBB.out) _ (Tab.below HT.out hm.below)).mono ?_; rintro e w9 ⟨rfl, hb⟩; replace hm := hm.call hb; clear hb)
        | ((with_reducible refine at_op none (.store 91 (.tmp 3) (.tmp 23)) ?_); refine wpl_stw 1 (u32s (mix (wsOf m) ((restOf m).set q 128))) hm rfl rfl rfl 8 sz_w8 (by rw [u32s_length]; exact HW8.out) (by rw [u32s_length]; exact mix_length _ _ HW8.out) (u32s_one _) ?_; clear hm; intro w10 hm)
        | ((with_reducible refine at_op (some 24) (.build 64 #[]) ?_); refine wpl_build (u8s (List.replicate 64 0)) [] rfl built_b64 ?_)
        | ((with_reducible refine at_op none (.store 64 (.tmp 4) (.tmp 24)) ?_); refine wpl_stw 0 (u8s (List.replicate 64 0)) hm rfl rfl rfl 64 sz_b64 (by rw [u8s_length]; exact HB64.out) (by rw [u8s_length]; rfl) (u8s_one _) ?_; clear hm; intro w11 hm))

      have hlB : (List.replicate 64 (0 : Int)).length = 64 := rfl
      have hl8 : (be8 (m.length * 8)).length = 8 := rfl
      have hspl : (splice (List.replicate 64 (0 : Int)) 56 (be8 (m.length * 8))).length = 64 := by rw [length_splice _ _ _ (by omega), hlB]
      have hnw : splice (u8s (List.replicate 64 (0 : Int))) 56 (u8s (be8 (m.length * 8))) = u8s (splice (List.replicate 64 (0 : Int)) 56 (be8 (m.length * 8))) := by simp [splice, u8s]
      have HNW : Hid _ := hnw
      have HLB : Hid _ := hlB
      clear hlB hl8 hnw
      have hbs : Bytes (splice (List.replicate 64 (0 : Int)) 56 (be8 (m.length * 8))) := Bytes.splice (Bytes.zeros 64) (be8_bytes _) 56
      have HSP : Hid _ := hspl
      have HBS : Hid _ := hbs
      clear hspl hbs
      refine wp_ends0 ?_
      refine anyH_start (T := fun W => Below w.heap.size w W) (by kernel_rfl) hm ?_
      clear hm
      intro w12 hm
      refine anyH_take 0 (v := .slice (some ⟨g4, 56, none⟩) 8 8) rfl (by kernel_rfl) (by kernel_rfl) (by kernel_rfl) rfl (fun W _ => by go_simp) hm.below ?_
      refine anyH_take 1 (v := .pointer (some ⟨g, 0, none⟩)) rfl (by kernel_rfl) (by kernel_rfl) (by kernel_rfl) rfl (fun W _ => rfl) hm.below ?_
      refine anyH_take 2 (v := .pointer (some ⟨g, 0, none⟩)) rfl (by kernel_rfl) (by kernel_rfl) (by kernel_rfl) rfl (fun W _ => rfl) hm.below ?_
      refine anyH_take 3 (v := .pointer (some ⟨g, 72, none⟩)) rfl (by kernel_rfl) (by kernel_rfl) (by kernel_rfl) rfl (fun W _ => by go_simp) hm.below ?_
      refine anyH_take 4 (v := .int .i64 m.length) rfl (by kernel_rfl) (by kernel_rfl) (by kernel_rfl) rfl (fun W hW => exec_ldr 72 _ (Row.below' HR.out hW) rfl ag_int HSZ.out) hm.below ?_
      refine anyH_take 5 (v := .int .u64 m.length) rfl (by kernel_rfl) (by kernel_rfl) (by kernel_rfl) rfl (fun W _ => by go_simp; exact wrapu_nat _ (by omega)) hm.below ?_
      refine anyH_take 6 (v := .int .u64 (m.length * 8)) rfl (by kernel_rfl) (by kernel_rfl) (by kernel_rfl) rfl (fun W _ => by go_simp; rw [show (m.length : Int) * 8 = ((m.length * 8 : Nat) : Int) by omega]; exact wrapu_nat _ (by omega)) hm.below ?_

      refine wpAnyH_all (rs := [7]) (by kernel_rfl) (by simp) ?_
      intro i hi
      simp only [List.mem_cons, List.not_mem_nil, or_false] at hi
      subst hi
      refine anyH_op 7 rfl rfl ?_
      intro K hK
      go_wp2_with (go_at_call 22; refine (put_eight _ _).mono ?_; rintro e w13 ⟨g9, rfl, hg9, hr9, hb⟩; replace hm := hm.call hb; clear hb)
      refine hK _ _ hm.below ?_
      clear hK K
      refine wpAnyH_all (rs := [8]) (by kernel_rfl) (by simp) ?_
      intro i hi
      simp only [List.mem_cons, List.not_mem_nil, or_false] at hi
      subst hi
      refine anyH_op 8 rfl rfl ?_
      intro K hK
      refine wpl_copyN 0 56 8 8 ⟨g9, 0, none⟩ 8 8 (u8s (be8 (m.length * 8))) 8 (u8s (splice (List.replicate 64 (0 : Int)) 56 (be8 (m.length * 8)))) hm rfl rfl rfl _ un_bs sz_u8 rfl rfl (Seg.row hr9).src (by have h := HLB.out; rw [u8s_length]; omega) (u8s_one _) HNW.out ?_
      clear hm
      intro w14 hm
      refine wpList_nil ?_
      refine hK _ _ hm.below ?_
      clear hK K
      refine wpAnyH_done (by kernel_rfl) ?_ _
      go_simp
      simp only [endsIn]
      go_wp2_with (first
        | ((with_reducible refine at_op (some 34) (.load 91 (.tmp 3)) ?_); refine wpl_ldw 1 hm rfl rfl _ un_w8 rfl 8 sz_w8 (by rw [u32s_length]; exact (mix_length _ _ HW8.out)) ?_)
        | ((with_reducible refine at_op (some 35) (.load 64 (.tmp 4)) ?_); refine wpl_ldw 0 hm rfl rfl _ un_b64 rfl 64 sz_b64 (by rw [u8s_length]; exact HSP.out) ?_)
        | (go_at_call 61; refine (mixed_any (mix (wsOf m) ((restOf m).set q 128)) (splice (List.replicate 64 (0 : Int)) 56 (be8 (m.length * 8))) (mix_length _ _ HW8.out) HSP.out (Bytes.get HBS.out) _ (Tab.below HT.out hm.below)).mono ?_; rintro e w15 ⟨rfl, hb⟩; replace hm := hm.call hb; clear hb)
        | (go_at_call 62; refine (asBytes_any (mix (mix (wsOf m) ((restOf m).set q 128)) (splice (List.replicate 64 (0 : Int)) 56 (be8 (m.length * 8)))) (mix_length _ _ (mix_length _ _ HW8.out)) _).mono ?_; rintro e w16 ⟨rfl, hb⟩; replace hm := hm.call hb; clear hb)
        | ((with_reducible refine at_op none (.store 22 (.tmp 2) (.tmp 37)) ?_); refine wpl_stw 2 (u8s (asB (mix (mix (wsOf m) ((restOf m).set q 128)) (splice (List.replicate 64 (0 : Int)) 56 (be8 (m.length * 8)))))) hm rfl rfl rfl 32 sz_b32 (rfl) (by rw [u8s_length]; exact asB_length _ (mix_length _ _ (mix_length _ _ HW8.out))) (u8s_one _) ?_; clear hm; intro w17 hm))

      have hsha : shaOf m = asB (mix (mix (wsOf m) ((restOf m).set q 128)) (splice (List.replicate 64 (0 : Int)) 56 (be8 (m.length * 8)))) := by unfold shaOf; rw [HF.out]
      rw [hsha]
      exact ret_cell 2 hm rfl Tryd.results53 rfl _ un_b32 rfl 32 sz_b32 (by rw [u8s_length]; exact asB_length _ (mix_length _ _ (mix_length _ _ HW8.out))) rfl ⟨rfl, hm.below⟩

    · have h56i : ¬ (56 : Int) ≤ (q : Int) := by omega
      have hfin : fin (wsOf m) (restOf m) m.length = mix (wsOf m) (splice ((restOf m).set q 128) 56 (be8 (m.length * 8))) := by
        unfold fin; rw [← HQ.out, if_neg h56]
      have HF : Hid _ := hfin
      clear hfin
      go_wp2_with (first
        | ((with_reducible refine at_op (some 15) (.load 3 (.tmp 14)) ?_); refine wpl_ldr 72 (.int .i64 m.length) (Row.below' HR.out hm.below) rfl ag_int HSZ.out ?_)
        | ((with_reducible refine at_op none (.store 5 (.tmp 18) (.const (.int .u8 128))) ?_); refine wpl_stc 0 q (.int .u8 128) hm rfl (rfl) rfl sz_u8 (by rw [u8s_length, HR64.out]; exact hq64) rfl rfl ?_; clear hm; intro w8 hm; rw [u8s_set] at hm))

      have hlB : ((restOf m).set q 128).length = 64 := HB64.out
      have hl8 : (be8 (m.length * 8)).length = 8 := rfl
      have hspl : (splice ((restOf m).set q 128) 56 (be8 (m.length * 8))).length = 64 := by rw [length_splice _ _ _ (by omega), hlB]
      have hnw : splice (u8s ((restOf m).set q 128)) 56 (u8s (be8 (m.length * 8))) = u8s (splice ((restOf m).set q 128) 56 (be8 (m.length * 8))) := by simp [splice, u8s]
      have HNW : Hid _ := hnw
      have HLB : Hid _ := hlB
      clear hlB hl8 hnw
      have hbs : Bytes (splice ((restOf m).set q 128) 56 (be8 (m.length * 8))) := Bytes.splice HBB.out (be8_bytes _) 56
      have HSP : Hid _ := hspl
      have HBS : Hid _ := hbs
      clear hspl hbs
      refine wp_ends0 ?_
      refine anyH_start (T := fun W => Below w.heap.size w W) (by kernel_rfl) hm ?_
      clear hm
      intro w12 hm
      refine anyH_take 0 (v := .slice (some ⟨g4, 56, none⟩) 8 8) rfl (by kernel_rfl) (by kernel_rfl) (by kernel_rfl) rfl (fun W _ => by go_simp) hm.below ?_
      refine anyH_take 1 (v := .pointer (some ⟨g, 0, none⟩)) rfl (by kernel_rfl) (by kernel_rfl) (by kernel_rfl) rfl (fun W _ => rfl) hm.below ?_
      refine anyH_take 2 (v := .pointer (some ⟨g, 0, none⟩)) rfl (by kernel_rfl) (by kernel_rfl) (by kernel_rfl) rfl (fun W _ => rfl) hm.below ?_
      refine anyH_take 3 (v := .pointer (some ⟨g, 72, none⟩)) rfl (by kernel_rfl) (by kernel_rfl) (by kernel_rfl) rfl (fun W _ => by go_simp) hm.below ?_
      refine anyH_take 4 (v := .int .i64 m.length) rfl (by kernel_rfl) (by kernel_rfl) (by kernel_rfl) rfl (fun W hW => exec_ldr 72 _ (Row.below' HR.out hW) rfl ag_int HSZ.out) hm.below ?_
      refine anyH_take 5 (v := .int .u64 m.length) rfl (by kernel_rfl) (by kernel_rfl) (by kernel_rfl) rfl (fun W _ => by go_simp; exact wrapu_nat _ (by omega)) hm.below ?_
      refine anyH_take 6 (v := .int .u64 (m.length * 8)) rfl (by kernel_rfl) (by kernel_rfl) (by kernel_rfl) rfl (fun W _ => by go_simp; rw [show (m.length : Int) * 8 = ((m.length * 8 : Nat) : Int) by omega]; exact wrapu_nat _ (by omega)) hm.below ?_

      refine wpAnyH_all (rs := [7]) (by kernel_rfl) (by simp) ?_
      intro i hi
      simp only [List.mem_cons, List.not_mem_nil, or_false] at hi
      subst hi
      refine anyH_op 7 rfl rfl ?_
      intro K hK
      go_wp2_with (go_at_call 22; refine (put_eight _ _).mono ?_; rintro e w13 ⟨g9, rfl, hg9, hr9, hb⟩; replace hm := hm.call hb; clear hb)
      refine hK _ _ hm.below ?_
      clear hK K
      refine wpAnyH_all (rs := [8]) (by kernel_rfl) (by simp) ?_
      intro i hi
      simp only [List.mem_cons, List.not_mem_nil, or_false] at hi
      subst hi
      refine anyH_op 8 rfl rfl ?_
      intro K hK
      refine wpl_copyN 0 56 8 8 ⟨g9, 0, none⟩ 8 8 (u8s (be8 (m.length * 8))) 8 (u8s (splice ((restOf m).set q 128) 56 (be8 (m.length * 8)))) hm rfl rfl rfl _ un_bs sz_u8 rfl rfl (Seg.row hr9).src (by have h := HLB.out; rw [u8s_length]; omega) (u8s_one _) HNW.out ?_
      clear hm
      intro w14 hm
      refine wpList_nil ?_
      refine hK _ _ hm.below ?_
      clear hK K
      refine wpAnyH_done (by kernel_rfl) ?_ _
      go_simp
      simp only [endsIn]
      go_wp2_with (first
        | ((with_reducible refine at_op (some 34) (.load 91 (.tmp 3)) ?_); refine wpl_ldw 1 hm rfl rfl _ un_w8 rfl 8 sz_w8 (by rw [u32s_length]; exact HW8.out) ?_)
        | ((with_reducible refine at_op (some 35) (.load 64 (.tmp 4)) ?_); refine wpl_ldw 0 hm rfl rfl _ un_b64 rfl 64 sz_b64 (by rw [u8s_length]; exact HSP.out) ?_)
        | (go_at_call 61; refine (mixed_any (wsOf m) (splice ((restOf m).set q 128) 56 (be8 (m.length * 8))) HW8.out HSP.out (Bytes.get HBS.out) _ (Tab.below HT.out hm.below)).mono ?_; rintro e w15 ⟨rfl, hb⟩; replace hm := hm.call hb; clear hb)
        | (go_at_call 62; refine (asBytes_any (mix (wsOf m) (splice ((restOf m).set q 128) 56 (be8 (m.length * 8)))) (mix_length _ _ HW8.out) _).mono ?_; rintro e w16 ⟨rfl, hb⟩; replace hm := hm.call hb; clear hb)
        | ((with_reducible refine at_op none (.store 22 (.tmp 2) (.tmp 37)) ?_); refine wpl_stw 2 (u8s (asB (mix (wsOf m) (splice ((restOf m).set q 128) 56 (be8 (m.length * 8)))))) hm rfl rfl rfl 32 sz_b32 (rfl) (by rw [u8s_length]; exact asB_length _ (mix_length _ _ HW8.out)) (u8s_one _) ?_; clear hm; intro w17 hm))

      have hsha : shaOf m = asB (mix (wsOf m) (splice ((restOf m).set q 128) 56 (be8 (m.length * 8)))) := by unfold shaOf; rw [HF.out]
      rw [hsha]
      exact ret_cell 2 hm rfl Tryd.results53 rfl _ un_b32 rfl 32 sz_b32 (by rw [u8s_length]; exact asB_length _ (mix_length _ _ HW8.out)) rfl ⟨rfl, hm.below⟩

end Go.Proofs.YtbfccepddfinoaaDoor
