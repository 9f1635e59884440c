/- The contract of firstWords. -/
import Derived.Test.YtalhobmnbikbfaaDoorStFns
import Derived.Test.YtalhobmnbikbfaaDoorAnyC
namespace Go.Proofs.YtalhobmnbikbfaaDoor
open Go Go.RowKit

def startWs (c : Int) : List Int := [1634760805, 857760878, 2036477234, 1797285236, 0, 0, 0, 0, 0, 0, 0, 0, c, 0, 0, 0]
theorem first_put (ks ns : List Int) (c : Int) : putL (putL (startWs c) 4 ks 8) 13 ns 3 = firstOf ks ns c := by
  simp [putL, splice, litWords, startWs, firstOf, headWs]
theorem built_start (c : Int) : Tryd.prog.built 42 [(0, .int .u32 1634760805), (1, .int .u32 857760878), (2, .int .u32 2036477234), (3, .int .u32 1797285236), (12, .int .u32 c)] = some (u32s (startWs c)).toArray := by kernel_rfl
set_option maxHeartbeats 800000 in
theorem firstWords_any (ks ns : List Int) (c : Int) (hkl : ks.length = 32) (hnl : ns.length = 12) (hkb : Bytes ks) (hnb : Bytes ns) (w : World) :
    Calls Tryd.prog 18 #[.agg (u8s ks).toArray, .agg (u8s ns).toArray, .int .u32 c] w fun e w' => e = .returned (.agg (u32s (firstOf ks ns c)).toArray) ∧ Below w.heap.size w w' := by
  have hm := Mem.start w
  have HKB : Hid _ := hkb
  have HNB : Hid _ := hnb
  have HKL : Hid _ := hkl
  have HNL : Hid _ := hnl
  have HFP : Hid _ := first_put ks ns c
  have HFL : Hid ((u32s (firstOf ks ns c)).length = 16) := by show _ = _; rw [u32s_length, firstOf_length]
  have HL1 : Hid ((putL (startWs c) 4 ks 8).length = 16) := putL_length _ _ _ _ (by simp [startWs])
  clear hkb hnb hkl hnl
  go_enter Tryd.func18, Tryd.ntmps18
  go_wp2_with (first
    | ((with_reducible refine at_op (some 3) (.box 24 (.tmp 0)) ?_); refine wpl_box (u8s ks) rfl hm ?_; clear hm; intro w1 g3 hm)
    | ((with_reducible refine at_op (some 4) (.box 26 (.tmp 1)) ?_); refine wpl_box (u8s ns) rfl hm ?_; clear hm; intro w2 g4 hm)
    | ((with_reducible refine at_op (some 6) (.alloc 42) ?_); refine wpl_alloc _ zero_w16 hm ?_; clear hm; intro w3 g6 hm)
    | ((with_reducible refine at_op (some 9) (.build 42 #[(0, .const (.int .u32 1634760805)), (1, .const (.int .u32 857760878)), (2, .const (.int .u32 2036477234)), (3, .const (.int .u32 1797285236)), (12, .tmp 8)]) ?_); go_must (refine wpl_build (u32s (startWs c)) _ rfl (built_start c) ?_))
    | ((with_reducible refine at_op (some 7) (.alloc 42) ?_); refine wpl_alloc _ zero_w16 hm ?_; clear hm; intro w4 g7 hm)
    | ((with_reducible refine at_op none (.store 42 (.tmp 7) (.tmp 9)) ?_); refine wpl_stw 0 (u32s (startWs c)) hm rfl rfl rfl 16 sz_w16 (by simp [u32s_length]) (rfl) (u32s_one _) ?_; clear hm; intro w5 hm))

  refine wp_tail 2 (by kernel_rfl) (by kernel_rfl) hm ?_
  clear hm
  intro w6 hm
  simp only [List.take_succ_cons, List.take_zero, List.drop_succ_cons, List.drop_zero]
  refine wps_sla3 16 un_w16 sz_u32 4 8 12 (by omega) (by omega) (by omega) rfl rfl rfl rfl ?_
  still_step
  refine wpStill_nil ?_
  go_wp2_with (first
    | (go_at_call 24; refine (putWords_any _ _ _ _ _ _ _ _ (startWs c) ks _ (by simp [startWs]) (by rw [HKL.out]; omega) HKL.out.symm (Nat.le_refl _) (by omega) HKB.out (fun h => hm.ne 2 rfl h.symm) _ (hm.get 0 rfl) (Seg.row (hm.get 3 rfl))).mono ?_; rintro e w7 ⟨rfl, hr, hu⟩; replace hm := hm.upd 0 rfl hu hr; clear hr hu))

  refine wp_tail 2 (by kernel_rfl) (by kernel_rfl) hm ?_
  clear hm
  intro w8 hm
  simp only [List.take_succ_cons, List.take_zero, List.drop_succ_cons, List.drop_zero]
  still_step
  still_step
  refine wpStill_nil ?_
  go_wp2_with (first
    | (go_at_call 24; refine (putWords_any _ _ _ _ _ _ _ _ (putL (startWs c) 4 ks 8) ns _ (by rw [HL1.out]; omega) (by rw [HNL.out]; omega) HNL.out.symm (Nat.le_refl _) (by omega) HNB.out (fun h => hm.ne 1 rfl h.symm) _ (hm.get 0 rfl) (Seg.row (hm.get 2 rfl))).mono ?_; rintro e w9 ⟨rfl, hr, hu⟩; rw [HFP.out] at hr; replace hm := hm.upd 0 rfl hu hr; clear hr hu)
    | ((with_reducible refine at_op (some 16) (.load 42 (.tmp 7)) ?_); refine wpl_ldw 0 hm rfl rfl _ un_w16 rfl 16 sz_w16 (HFL.out) ?_)
    | ((with_reducible refine at_op none (.store 42 (.tmp 6) (.tmp 16)) ?_); refine wpl_stw 1 (u32s (firstOf ks ns c)) hm rfl rfl rfl 16 sz_w16 (by simp [u32s_length]) (HFL.out) (u32s_one _) ?_; clear hm; intro w10 hm))
  exact ret_cell 1 hm rfl Tryd.results18 rfl _ un_w16 rfl 16 sz_w16 HFL.out rfl ⟨rfl, hm.below⟩
end Go.Proofs.YtalhobmnbikbfaaDoor
