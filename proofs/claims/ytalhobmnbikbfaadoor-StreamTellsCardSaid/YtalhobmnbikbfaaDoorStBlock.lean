/- The contracts of asBytes and of Block. -/
import Derived.Test.YtalhobmnbikbfaaDoorStFirst
import Derived.Test.YtalhobmnbikbfaaDoorStMixed
import Derived.Test.YtalhobmnbikbfaaDoorOld
namespace Go.Proofs.YtalhobmnbikbfaaDoor
open Go Go.RowKit

set_option maxHeartbeats 1000000 in
theorem asBytes16_any (ws : List Int) (hws : ws.length = 16) (w : World) :
    Calls Tryd.prog 20 #[.agg (u32s ws).toArray] w fun e w' => e = .returned (.agg (u8s (asL ws)).toArray) ∧ Below w.heap.size w w' := by
  have hm := Mem.start w
  go_enter Tryd.func20, Tryd.ntmps20
  go_wp2_with (first
    | ((with_reducible refine at_op (some 1) (.box 42 (.tmp 0)) ?_); refine wpl_box (u32s ws) rfl hm ?_; clear hm; intro w1 g1 hm)
    | ((with_reducible refine at_op (some 2) (.alloc 31) ?_); refine wpl_alloc _ zero_b64 hm ?_; clear hm; intro w2 g2 hm)
    | ((with_reducible refine at_op (some 3) (.alloc 31) ?_); refine wpl_alloc _ zero_b64 hm ?_; clear hm; intro w3 g3 hm)
    | ((with_reducible refine at_op (some 7) (.load 42 (.tmp 1)) ?_); refine wpl_ldw 2 hm rfl rfl _ un_w16 rfl 16 sz_w16 (by rw [u32s_length]; exact hws) ?_))

  go_loopw [8] (fun vi wr => ∃ k : Nat, k ≤ 16 ∧ vi = .int .i64 k ∧ Mem w [] wr [(g3, u8s (lRow ws k), 31), (g2, u8s (List.replicate 64 0), 31), (g1, u32s ws, 42)]) (fun vi _ => 16 - (intOf vi).toNat)
  case atStart => exact ⟨0, by omega, rfl, hm⟩
  case round =>
    clear hm
    obtain ⟨k, hk, rfl, hm⟩ := hrel
    by_cases hlt : k < 16
    · obtain ⟨x, hx⟩ : ∃ x, x = ws.getD k 0 := ⟨_, rfl⟩
      have hvx : (u32s ws)[k]? = some (.int .u32 x) := by rw [u32s_get _ _ (by omega), hx]
      have e4 : IntKind.i64.wrap (4 * (k : Int)) = ((4 * k : Nat) : Int) := by rw [show 4 * (k : Int) = ((4 * k : Nat) : Int) by omega, wrap_nat _ (by omega)]
      have hst : splice (u8s (lRow ws k)) (4 * k) (u8s (lfour x)) = u8s (lRow ws (k + 1)) := by
        rw [hx, ← lRow_step ws hws k hlt]; simp [splice, u8s]
      have hln : 4 * k + 4 ≤ (u8s (lRow ws k)).length := by rw [u8s_length, lRow_length ws hws k hk]; omega
      have HV : Hid _ := hvx
      have HE : Hid _ := e4
      have HS : Hid _ := hst
      have HL : Hid _ := hln
      clear hvx e4 hst hln hx
      go_wp2_with (first
        | ((with_reducible refine at_op (some 11) (.index 42 (.tmp 7) (.tmp 8)) ?_); refine wpl_ixa 16 un_w16 sz_u32 ag_u32 (u32s ws) k (.int .u32 x) (hlt) rfl rfl (rfl) (HV.out) ?_)
        | (go_at_call 25; refine (putLittle_any _ _).mono ?_; rintro e w4 ⟨rfl, hb⟩; replace hm := hm.call hb; clear hb)
        | ((with_reducible refine at_op (some 6) (.alloc 53) ?_); refine wpl_alloc _ zero_b4 hm ?_; clear hm; intro w5 g5 hm)
        | ((with_reducible refine at_op none (.store 53 (.tmp 6) (.tmp 13)) ?_); refine wpl_stw 0 (u8s (lfour x)) hm rfl rfl rfl 4 sz_b4 (by simp [u8s_length]) (rfl) (u8s_one _) ?_; clear hm; intro w6 hm))

      refine wp_tail 4 (by kernel_rfl) (by kernel_rfl) hm ?_
      clear hm
      intro w7 hm
      simp only [List.take_succ_cons, List.take_zero, List.drop_succ_cons, List.drop_zero]
      still_step
      still_step
      refine wps_sla 64 un_b64 sz_u8 (4 * k) (64 - 4 * k) (by omega) (by omega) rfl (Or.inl (int_at _ rfl HE.out)) (Or.inr ⟨rfl, by omega⟩) ?_
      still_step
      refine wpStill_nil ?_
      go_wp2_with (first
        | ((with_reducible refine at_op (some 18) (.call { callee := .builtin .copy, args := #[.tmp 16, .tmp 17], argTypes := #[27, 27] }) ?_); go_must (refine wpl_copy 1 (4 * k) (64 - 4 * k) (64 - 4 * k) ⟨g5, 0, none⟩ 4 4 (u8s (lfour x)) hm rfl rfl rfl _ un_bs sz_u8 (by have h4 : (u8s (lfour x)).length = 4 := rfl; rw [h4]; show 4 = min 4 (64 - 4 * k); omega) (by exact (Seg.row (hm.get 0 rfl)).src) (by exact HL.out) (u8s_one _) ?_); clear hm; intro w8 hm))

      have hn : Mem w [] w8 [(g3, u8s (lRow ws (k + 1)), 31), (g2, u8s (List.replicate 64 0), 31), (g1, u32s ws, 42)] := by
        rw [HS.out] at hm
        exact hm.tail
      clear hm
      go_roundw
      case rel => exact ⟨k + 1, by omega, by go_num, hn⟩
      case measure => simp [intOf]; omega
    · have hk16 : k = 16 := by omega
      subst hk16
      rw [lRow_full ws hws] at hm
      have hln : (u8s (asL ws)).length = 64 := by rw [u8s_length, asL_length, hws]
      have HL : Hid _ := hln
      clear hln
      go_wp2_with (first
        | ((with_reducible refine at_op (some 20) (.load 31 (.tmp 3)) ?_); refine wpl_ldw 0 hm rfl rfl _ un_b64 rfl 64 sz_b64 (HL.out) ?_)
        | ((with_reducible refine at_op none (.store 31 (.tmp 2) (.tmp 20)) ?_); refine wpl_stw 1 (u8s (asL ws)) hm rfl rfl rfl 64 sz_b64 (by simp [u8s_length]) (HL.out) (u8s_one _) ?_; clear hm; intro w8 hm))
      exact ret_cell 1 hm rfl Tryd.results20 rfl _ un_b64 rfl 64 sz_b64 HL.out rfl ⟨rfl, hm.below⟩
set_option maxHeartbeats 1000000 in
set_option maxRecDepth 100000 in
theorem block_any (ks ns : List Int) (c : Int) (hkl : ks.length = 32) (hnl : ns.length = 12) (hkb : Bytes ks) (hnb : Bytes ns) (w : World) (ht : QTab w) :
    Calls Tryd.prog 11 #[.agg (u8s ks).toArray, .agg (u8s ns).toArray, .int .u32 c] w fun e w' => e = .returned (.agg (u8s (blockOf ks ns c)).toArray) ∧ Below w.heap.size w w' := by
  have hm := Mem.start w
  have HT : Hid _ := ht
  have HKB : Hid _ := hkb
  have HNB : Hid _ := hnb
  have HKL : Hid _ := hkl
  have HNL : Hid _ := hnl
  have HKU : Hid ((u8s ks).length = 32) := by show _ = _; rw [u8s_length]; exact hkl
  have HNU : Hid ((u8s ns).length = 12) := by show _ = _; rw [u8s_length]; exact hnl
  obtain ⟨fs, hfs⟩ : ∃ fs, fs = firstOf ks ns c := ⟨_, rfl⟩
  obtain ⟨vs, hvs⟩ : ∃ vs, vs = qrounds fs 80 := ⟨_, rfl⟩
  have HF : Hid (fs.length = 16) := by show _ = _; rw [hfs, firstOf_length]
  have HV : Hid (vs.length = 16) := by show _ = _; rw [hvs, qrounds_length]; exact HF.out
  have HVF : Hid (vs.length = fs.length) := by show _ = _; rw [HV.out, HF.out]
  have HFE : Hid (firstOf ks ns c = fs) := hfs.symm
  have HVE : Hid (qrounds fs 80 = vs) := hvs.symm
  have HB : Hid (blockOf ks ns c = asL (sumOf vs fs)) := by show _ = _; rw [hvs, hfs]; rfl
  clear ht hkb hnb hkl hnl hfs hvs
  go_enter Tryd.func11, Tryd.ntmps11
  go_wp2_with (first
    | ((with_reducible refine at_op (some 3) (.box 24 (.tmp 0)) ?_); refine wpl_box (u8s ks) rfl hm ?_; clear hm; intro w1 g3 hm)
    | ((with_reducible refine at_op (some 4) (.box 26 (.tmp 1)) ?_); refine wpl_box (u8s ns) rfl hm ?_; clear hm; intro w2 g4 hm)
    | ((with_reducible refine at_op (some 6) (.alloc 31) ?_); refine wpl_alloc _ zero_b64 hm ?_; clear hm; intro w3 g6 hm)
    | ((with_reducible refine at_op (some 10) (.load 24 (.tmp 3)) ?_); refine wpl_ldw 2 hm rfl rfl _ un_key rfl 32 sz_key (HKU.out) ?_)
    | ((with_reducible refine at_op (some 11) (.load 26 (.tmp 4)) ?_); refine wpl_ldw 1 hm rfl rfl _ un_nce rfl 12 sz_nce (HNU.out) ?_)
    | (go_at_call 18; refine (firstWords_any ks ns c HKL.out HNL.out HKB.out HNB.out _).mono ?_; rintro e w4 ⟨he, hb⟩; rw [HFE.out] at he; subst he; replace hm := hm.call hb; clear hb)
    | ((with_reducible refine at_op (some 7) (.alloc 42) ?_); refine wpl_alloc _ zero_w16 hm ?_; clear hm; intro w5 g7 hm)
    | ((with_reducible refine at_op none (.store 42 (.tmp 7) (.tmp 13)) ?_); refine wpl_stw 0 (u32s fs) hm rfl rfl rfl 16 sz_w16 (by simp [u32s_length]) (by rw [u32s_length]; exact HF.out) (u32s_one _) ?_; clear hm; intro w6 hm)
    | ((with_reducible refine at_op (some 14) (.load 42 (.tmp 7)) ?_); refine wpl_ldw 0 hm rfl rfl _ un_w16 rfl 16 sz_w16 (by rw [u32s_length]; exact HF.out) ?_)
    | (go_at_call 19; refine (mixed16_any fs HF.out _ (QTab.mem HT.out hm (by simp))).mono ?_; rintro e w7 ⟨he, hb⟩; rw [HVE.out] at he; subst he; replace hm := hm.call hb; clear hb)
    | ((with_reducible refine at_op (some 8) (.alloc 42) ?_); refine wpl_alloc _ zero_w16 hm ?_; clear hm; intro w8 g8 hm)
    | ((with_reducible refine at_op none (.store 42 (.tmp 8) (.tmp 15)) ?_); refine wpl_stw 0 (u32s vs) hm rfl rfl rfl 16 sz_w16 (by simp [u32s_length]) (by rw [u32s_length]; exact HV.out) (u32s_one _) ?_; clear hm; intro w9 hm))

  go_loopw [16] (fun vi wr => ∃ i : Nat, i ≤ 16 ∧ vi = .int .i64 i ∧ Mem w [] wr [(g8, u32s (sumUpto vs fs i), 42), (g7, u32s fs, 42), (g6, u8s (List.replicate 64 0), 31), (g4, u8s ns, 26), (g3, u8s ks, 24)]) (fun vi _ => 16 - (intOf vi).toNat)
  case atStart => exact ⟨0, by omega, rfl, by rw [sumUpto_zero]; exact hm⟩
  case round =>
    clear hm
    obtain ⟨i, hi, rfl, hm⟩ := hrel
    by_cases hlt : i < 16
    · have hii : (i : Int) < 16 := by omega
      obtain ⟨x, hx⟩ : ∃ x, x = vs.getD i 0 := ⟨_, rfl⟩
      obtain ⟨y, hy⟩ : ∃ y, y = fs.getD i 0 := ⟨_, rfl⟩
      have HX : Hid ((u32s (sumUpto vs fs i))[i]? = some (.int .u32 x)) := by
        show _ = _
        rw [u32s_get _ _ (by rw [sumUpto_length _ _ HVF.out, HV.out]; exact hlt), sumUpto_get _ _ HVF.out i (by rw [HV.out]; exact hlt), hx]
      have HY : Hid ((u32s fs)[i]? = some (.int .u32 y)) := by
        show _ = _
        rw [u32s_get _ _ (by rw [HF.out]; exact hlt), hy]
      have HST : Hid ((u32s (sumUpto vs fs i)).set i (.int .u32 ((x + y) % 4294967296)) = u32s (sumUpto vs fs (i + 1))) := by
        show _ = _
        rw [u32s_set, hx, hy, sumUpto_set _ _ HVF.out i (by rw [HV.out]; exact hlt)]
      have HLN : Hid (i < (u32s (sumUpto vs fs i)).length) := by show _ < _; rw [u32s_length, sumUpto_length _ _ HVF.out, HV.out]; exact hlt
      clear hx hy
      go_wp2_with fail
      refine wp_tail 8 (by kernel_rfl) (by kernel_rfl) hm ?_
      clear hm
      intro w10 hm
      simp only [List.take_succ_cons, List.take_zero, List.drop_succ_cons, List.drop_zero]
      still_step
      still_step
      refine wps_ldr i (.int .u32 x) (hm.get 0 rfl) rfl ag_u32 HX.out ?_
      still_step
      still_step
      refine wps_ldr i (.int .u32 y) (hm.get 1 rfl) rfl ag_u32 HY.out ?_
      still_step
      still_step
      refine wpStill_nil ?_
      go_wp2_with (first
        | ((with_reducible refine at_op none (.store 22 (.tmp 26) (.tmp 25)) ?_); refine wpl_stc 0 i (.int .u32 ((x + y) % 4294967296)) hm rfl (rfl) rfl sz_u32 (HLN.out) rfl rfl ?_; clear hm; intro w11 hm))

      rw [List.set_cons_zero, HST.out] at hm
      go_roundw
      case rel => exact ⟨i + 1, by omega, by go_num, hm⟩
      case measure => simp [intOf]; omega
    · have hi16 : i = 16 := by omega
      subst hi16
      rw [sumUpto_full vs fs HVF.out 16 HV.out] at hm
      have HSL : Hid ((sumOf vs fs).length = 16) := by show _ = _; rw [sumOf_length _ _ HVF.out]; exact HV.out
      have HBL : Hid ((u8s (blockOf ks ns c)).length = 64) := by show _ = _; rw [u8s_length, blockOf_length]
      go_wp2_with (first
        | ((with_reducible refine at_op (some 28) (.load 42 (.tmp 8)) ?_); refine wpl_ldw 0 hm rfl rfl _ un_w16 rfl 16 sz_w16 (by rw [u32s_length]; exact HSL.out) ?_)
        | (go_at_call 20; refine (asBytes16_any (sumOf vs fs) HSL.out _).mono ?_; rintro e w12 ⟨he, hb⟩; rw [← HB.out] at he; subst he; replace hm := hm.call hb; clear hb)
        | ((with_reducible refine at_op none (.store 31 (.tmp 6) (.tmp 29)) ?_); refine wpl_stw 2 (u8s (blockOf ks ns c)) hm rfl rfl rfl 64 sz_b64 (by simp [u8s_length]) (HBL.out) (u8s_one _) ?_; clear hm; intro w13 hm))
      exact ret_cell 2 hm rfl Tryd.results11 rfl _ un_b64 rfl 64 sz_b64 HBL.out rfl ⟨rfl, hm.below⟩
end Go.Proofs.YtalhobmnbikbfaaDoor
