/- The contracts of mask and of Xor. -/
import Derived.Test.YtalhobmnbikbfaaDoorStBlock
import Derived.Test.YtalhobmnbikbfaaDoorStMixed
import Derived.Test.YtalhobmnbikbfaaDoorOld
namespace Go.Proofs.YtalhobmnbikbfaaDoor
open Go Go.RowKit

set_option maxHeartbeats 800000 in
theorem mask_any (g off n cap : Nat) (l b : List Int) (t : TypeId) (hl : off + n ≤ l.length) (hn : n ≤ 64) (hbl : b.length = 64) (w : World) (hr : Row w g (u8s l) t) :
    Calls Tryd.prog 22 #[.slice (some ⟨g, off, none⟩) n cap, .agg (u8s b).toArray] w fun e w' => e = .returned (.tuple #[]) ∧ Row w' g (u8s (maskL l off n b)) t ∧ Upd g w w' := by
  have hm := Mem.enter hr
  have HB : Hid _ := hbl
  clear hr hbl
  go_enter Tryd.func22, Tryd.ntmps22
  go_wp2_with (first
    | ((with_reducible refine at_op (some 3) (.box 31 (.tmp 1)) ?_); refine wpl_box (u8s b) rfl hm ?_; clear hm; intro w1 g3 hm))

  go_loopw [7] (fun vi wr => ∃ k : Nat, k ≤ n ∧ vi = .int .i64 k ∧ Mem w [g] wr [(g3, u8s b, 31), (g, u8s (maskL l off k b), t)]) (fun vi _ => n - (intOf vi).toNat)
  case atStart => exact ⟨0, by omega, rfl, by rw [maskL_zero]; exact hm⟩
  case round =>
    clear hm
    obtain ⟨k, hk, rfl, hm⟩ := hrel
    by_cases hlt : k < n
    · have hki : (k : Int) < (n : Int) := by omega
      have hk64 : (k : Int) < 64 := by omega
      obtain ⟨x, hx⟩ : ∃ x, x = l.getD (off + k) 0 := ⟨_, rfl⟩
      obtain ⟨y, hy⟩ : ∃ y, y = b.getD k 0 := ⟨_, rfl⟩
      have HX : Hid ((u8s (maskL l off k b))[off + k]? = some (.int .u8 x)) := by
        show _ = _
        rw [u8s_get _ _ (by rw [maskL_length]; omega), maskL_get _ _ _ _ (by omega), hx]
      have HY : Hid ((u8s b)[k]? = some (.int .u8 y)) := by
        show _ = _
        rw [u8s_get _ _ (by rw [HB.out]; omega), hy]
      have HST : Hid ((u8s (maskL l off k b)).set (off + k) (.int .u8 (bits .xor .u8 x y)) = u8s (maskL l off (k + 1) b)) := by
        show _ = _
        rw [u8s_set, hx, hy, maskL_step _ _ _ _ (by omega)]
      have HLN : Hid (off + k < (u8s (maskL l off k b)).length) := by show _ < _; rw [u8s_length, maskL_length]; omega
      clear hx hy
      go_wp2_with fail
      refine wp_tail 9 (by kernel_rfl) (by kernel_rfl) hm ?_
      clear hm
      intro w2 hm
      simp only [List.take_succ_cons, List.take_zero, List.drop_succ_cons, List.drop_zero]
      still_step
      still_step
      still_step
      refine wps_ldr (off + k) (.int .u8 x) (hm.get 1 rfl) rfl ag_u8 HX.out ?_
      still_step
      still_step
      refine wps_ldr k (.int .u8 y) (hm.get 0 rfl) rfl ag_u8 HY.out ?_
      still_step
      still_step
      refine wpStill_nil ?_
      go_wp2_with (first
        | ((with_reducible refine at_op none (.store 5 (.tmp 18) (.tmp 17)) ?_); go_must (refine wpl_stc 1 (off + k) (.int .u8 (bits .xor .u8 x y)) hm rfl rfl rfl sz_u8 HLN.out rfl rfl ?_); clear hm; intro w3 hm))

      rw [List.set_cons_succ, List.set_cons_zero, HST.out] at hm
      go_roundw
      case rel => exact ⟨k + 1, by omega, by go_num, hm⟩
      case measure => simp [intOf]; omega
    · have hkn : k = n := by omega
      subst hkn
      have hni : ¬ (k : Int) < (k : Int) := by omega
      go_wp2_with fail
      go_end0
      exact ⟨rfl, hm.get 1 rfl, hm.toUpd⟩
set_option maxHeartbeats 1000000 in
set_option maxRecDepth 100000 in
theorem xor_any (ks ns ms : List Int) (c : Int) (v : Value) (hkl : ks.length = 32) (hnl : ns.length = 12) (hkb : Bytes ks) (hnb : Bytes ns) (hc : Word c) (hml : ms.length ≤ 60000) (w : World) (ht : QTab w) (hv : SlOld w v ms) :
    Calls Tryd.prog 13 #[.agg (u8s ks).toArray, .agg (u8s ns).toArray, .int .u32 c, v] w fun e w' => ∃ g, e = .returned (.slice (some ⟨g, 0, none⟩) ms.length ms.length) ∧ w.heap.size ≤ g ∧ Row w' g (u8s (xorOf ks ns c ms)) 5 ∧ Below w.heap.size w w' := by
  obtain ⟨p, cap, rfl, hcap⟩ := hv.len
  have hm := Mem.start w
  have HT : Hid _ := ht
  have HKB : Hid _ := hkb
  have HNB : Hid _ := hnb
  have HKL : Hid _ := hkl
  have HNL : Hid _ := hnl
  have HV : Hid (SlOld w (.slice p ms.length cap) ms) := hv
  have HKU : Hid ((u8s ks).length = 32) := by show _ = _; rw [u8s_length]; exact hkl
  have HNU : Hid ((u8s ns).length = 12) := by show _ = _; rw [u8s_length]; exact hnl
  have HCP : Hid (splice (u8s (List.replicate ms.length 0)) 0 (u8s (ms.take ms.length)) = u8s (xorUp ks ns c ms 0)) := by
    show _ = _
    rw [splice_zeros, xorUp_zero, List.take_of_length_le (Nat.le_refl _)]
    simp
  obtain ⟨hc0, hc1⟩ := hc
  clear ht hkb hnb hkl hnl hv
  go_enter Tryd.func13, Tryd.ntmps13
  go_wp2_with (first
    | ((with_reducible refine at_op (some 4) (.box 24 (.tmp 0)) ?_); refine wpl_box (u8s ks) rfl hm ?_; clear hm; intro w1 g4 hm)
    | ((with_reducible refine at_op (some 5) (.box 26 (.tmp 1)) ?_); refine wpl_box (u8s ns) rfl hm ?_; clear hm; intro w2 g5 hm)
    | ((with_reducible refine at_op (some 14) (.makeSlice 27 (.tmp 13) (.tmp 13)) ?_); go_must (refine wpl_make _ un_bs _ made_u8 rfl ms.length rfl rfl rfl rfl (by omega) hm ?_); clear hm; intro w3 g9 hm; replace hm : Mem w [] w3 [(g9, u8s (List.replicate ms.length 0), 5), (g5, u8s ns, 26), (g4, u8s ks, 24)] := (by have e : u8s (List.replicate ms.length 0) = List.replicate ms.length (.int .u8 0) := (by simp [u8s]); rw [e]; exact hm))
    | ((with_reducible refine at_op (some 17) (.call { callee := .builtin .copy, args := #[.tmp 15, .tmp 16], argTypes := #[27, 27] }) ?_); go_must (refine wpl_cp 0 ms ms.length (u8s (xorUp ks ns c ms 0)) hm rfl rfl rfl _ un_bs sz_u8 (SlOld.mem HV.out hm) (Nat.min_self _).symm (by simp [u8s_length]) HCP.out ?_); clear hm; intro w4 hm))

  have hge9 : w.heap.size ≤ g9 := by
    have h := hm.fresh _ (List.mem_cons_self ..)
    simpa using h
  have HGE : Hid (w.heap.size ≤ g9) := hge9
  clear hge9
  replace hm : Mem w [] w4 [(g9, u8s (xorUp ks ns c ms (64 * 0)), 5), (g5, u8s ns, 26), (g4, u8s ks, 24)] := hm
  go_loopw [2, 10] (fun vc vr wr => ∃ j : Nat, vc = .int .u32 ((c + (j : Int)) % 4294967296) ∧ 64 * j < ms.length + 64 ∧ (∃ q, vr = .slice q (ms.length - 64 * j) (ms.length - 64 * j) ∧ (64 * j < ms.length → q = some ⟨g9, 64 * j, none⟩)) ∧ Mem w [] wr [(g9, u8s (xorUp ks ns c ms (64 * j)), 5), (g5, u8s ns, 26), (g4, u8s ks, 24)]) (fun _ vr _ => slLen vr)
  case atStart => exact ⟨0, by rw [show (c + ((0 : Nat) : Int)) % 4294967296 = c by omega], by omega, ⟨_, rfl, fun _ => rfl⟩, hm⟩
  case round =>
    clear hm
    obtain ⟨j, rfl, hj, ⟨q, rfl, hq⟩, hm⟩ := hrel
    by_cases hlt : 64 * j < ms.length
    · obtain rfl := hq hlt
      clear hq
      obtain ⟨L, hL⟩ : ∃ L, L = ms.length - 64 * j := ⟨_, rfl⟩
      rw [← hL]
      have hL0 : 0 < L := by omega
      have hLi : (0 : Int) < (L : Int) := by omega
      have hLi2 : (L : Int) > 0 := by omega
      have HL : Hid (L = ms.length - 64 * j) := hL
      have HLE : Hid (64 * j + L = ms.length) := by show _ = _; omega
      clear hL
      have HCE : Hid (((c + (j : Int)) % 4294967296 + 1) % 4294967296 = (c + ((j + 1 : Nat) : Int)) % 4294967296) := by show _ = _; omega
      by_cases h64 : 64 < L
      · have h64i : (64 : Int) < (L : Int) := by omega
        have HST : Hid (maskL (xorUp ks ns c ms (64 * j)) (64 * j) 64 (blockOf ks ns ((c + (j : Int)) % 4294967296)) = xorUp ks ns c ms (64 * (j + 1))) := by
          show _ = _
          rw [xorUp_mask ks ns c ms j 64 (by omega)]
          rw [show 64 * j + 64 = 64 * (j + 1) by omega]
        have HFT : Hid (64 * j + 64 ≤ (xorUp ks ns c ms (64 * j)).length) := by show _ ≤ _; have := HLE.out; rw [xorUp_length]; omega
        go_wp2_with fail
        refine wp_ends0 ?_
        refine anyH_start (T := fun W => Mem w [] W [(g5, u8s ns, 26), (g4, u8s ks, 24)]) (by kernel_rfl) hm ?_
        clear hm
        intro w5 hm
        refine anyH_take 0 (v := .slice (some ⟨g9, 64 * j, none⟩) L L) rfl (by kernel_rfl) (by kernel_rfl) (by kernel_rfl) rfl (fun W _ => by go_simp) hm.tail ?_
        go_simp
        refine anyH_take 1 (v := .int .i64 64) rfl (by kernel_rfl) (by kernel_rfl) (by kernel_rfl) rfl (fun W _ => by go_simp) hm.tail ?_
        go_simp
        refine anyH_take 2 (v := .int .i64 64) rfl (by kernel_rfl) (by kernel_rfl) (by kernel_rfl) rfl (fun W _ => by go_simp) hm.tail ?_
        go_simp
        refine anyH_take 3 (v := .slice (some ⟨g9, 64 * j, none⟩) 64 64) rfl (by kernel_rfl) (by kernel_rfl) (by kernel_rfl) rfl (fun W _ => exec_sl3 un_bs sz_u8 64 (by omega) (by omega) rfl rfl rfl rfl rfl) hm.tail ?_
        go_simp
        refine anyH_take 4 (v := .agg (u8s ks).toArray) rfl (by kernel_rfl) (by kernel_rfl) (by kernel_rfl) rfl (fun W hW => exec_lds 0 _ (Mem.get hW 1 rfl) rfl _ un_key rfl 32 sz_key (by rw [HKU.out]; omega) (by rw [List.drop_zero, List.take_of_length_le (Nat.le_of_eq HKU.out)])) hm.tail ?_
        go_simp
        refine anyH_take 5 (v := .agg (u8s ns).toArray) rfl (by kernel_rfl) (by kernel_rfl) (by kernel_rfl) rfl (fun W hW => exec_lds 0 _ (Mem.get hW 0 rfl) rfl _ un_nce rfl 12 sz_nce (by rw [HNU.out]; omega) (by rw [List.drop_zero, List.take_of_length_le (Nat.le_of_eq HNU.out)])) hm.tail ?_
        go_simp
        refine anyH_take 6 (v := .int .u32 ((c + (j : Int)) % 4294967296)) rfl (by kernel_rfl) (by kernel_rfl) (by kernel_rfl) rfl (fun W _ => by go_simp) hm.tail ?_
        go_simp
        refine wpAnyH_all (rs := [7]) (by kernel_rfl) (by simp) ?_
        intro i hi
        simp only [List.mem_cons, List.not_mem_nil, or_false] at hi
        subst hi
        refine anyH_op 7 rfl rfl ?_
        intro K hK
        go_wp2_with (go_at_call 11; refine (block_any ks ns _ HKL.out HNL.out HKB.out HNB.out _ (QTab.mem HT.out hm (by simp))).mono ?_; rintro e w6 ⟨rfl, hb⟩; replace hm := hm.call hb; clear hb)
        refine hK _ _ hm.tail ?_
        clear hK K
        refine wpAnyH_all (rs := [8]) (by kernel_rfl) (by simp) ?_
        intro i hi
        simp only [List.mem_cons, List.not_mem_nil, or_false] at hi
        subst hi
        refine anyH_op 8 rfl rfl ?_
        intro K hK
        go_wp2_with (go_at_call 22; refine (mask_any g9 (64 * j) 64 64 (xorUp ks ns c ms (64 * j)) _ _ HFT.out (by omega) (blockOf_length _ _ _) _ (hm.get 0 rfl)).mono ?_; rintro e w7 ⟨rfl, hr, hu⟩; rw [HST.out] at hr; replace hm := hm.upd 0 rfl hu hr; clear hr hu)
        refine hK _ _ hm.tail ?_
        clear hK K
        refine wpAnyH_done (by kernel_rfl) ?_ _
        simp only [endsIn]
        go_wp2_with (first
          | ((with_reducible refine at_op (some 38) (.slice 27 (.tmp 36) (some (.tmp 37)) none none) ?_); go_must (refine wpl_sls _ un_bs sz_u8 64 rfl rfl rfl (by omega) ?_); intro p2 hp2; have HP2 : Hid _ := hp2; clear hp2))

        have HP : Hid (64 * (j + 1) < ms.length → p2 = some ⟨g9, 64 * (j + 1), none⟩) := by
          intro h
          have := HLE.out
          rw [HP2.out, if_neg (by omega)]
          simp [add_at] <;> omega
        have HLN : Hid (L - 64 = ms.length - 64 * (j + 1)) := by show _ = _; have := HLE.out; omega
        go_roundw
        case rel =>
          refine ⟨j + 1, ?_, by have := HLE.out; omega, ⟨p2, ?_, HP.out⟩, hm⟩
          · rw [← HCE.out]; try simp
          · rw [← HLN.out]; try simp
        case measure => simp [slLen]; omega
      · have h64i : ¬ (64 : Int) < (L : Int) := by omega
        have HST : Hid (maskL (xorUp ks ns c ms (64 * j)) (64 * j) L (blockOf ks ns ((c + (j : Int)) % 4294967296)) = xorUp ks ns c ms (64 * (j + 1))) := by
          show _ = _
          rw [xorUp_mask ks ns c ms j L (by omega)]
          have := HLE.out
          rw [xorUp_full _ _ _ _ _ (by omega), xorUp_full _ _ _ _ _ (by omega)]
        have HFT : Hid (64 * j + L ≤ (xorUp ks ns c ms (64 * j)).length) := by show _ ≤ _; have := HLE.out; rw [xorUp_length]; omega
        go_wp2_with fail
        refine wp_ends0 ?_
        refine anyH_start (T := fun W => Mem w [] W [(g5, u8s ns, 26), (g4, u8s ks, 24)]) (by kernel_rfl) hm ?_
        clear hm
        intro w5 hm
        refine anyH_take 0 (v := .slice (some ⟨g9, 64 * j, none⟩) L L) rfl (by kernel_rfl) (by kernel_rfl) (by kernel_rfl) rfl (fun W _ => by go_simp) hm.tail ?_
        go_simp
        refine anyH_take 1 (v := .int .i64 (L : Int)) rfl (by kernel_rfl) (by kernel_rfl) (by kernel_rfl) rfl (fun W _ => by go_simp) hm.tail ?_
        go_simp
        refine anyH_take 2 (v := .int .i64 (L : Int)) rfl (by kernel_rfl) (by kernel_rfl) (by kernel_rfl) rfl (fun W _ => by go_simp) hm.tail ?_
        go_simp
        refine anyH_take 3 (v := .slice (some ⟨g9, 64 * j, none⟩) L L) rfl (by kernel_rfl) (by kernel_rfl) (by kernel_rfl) rfl (fun W _ => exec_sl3 un_bs sz_u8 L (by omega) (by omega) rfl rfl rfl rfl rfl) hm.tail ?_
        go_simp
        refine anyH_take 4 (v := .agg (u8s ks).toArray) rfl (by kernel_rfl) (by kernel_rfl) (by kernel_rfl) rfl (fun W hW => exec_lds 0 _ (Mem.get hW 1 rfl) rfl _ un_key rfl 32 sz_key (by rw [HKU.out]; omega) (by rw [List.drop_zero, List.take_of_length_le (Nat.le_of_eq HKU.out)])) hm.tail ?_
        go_simp
        refine anyH_take 5 (v := .agg (u8s ns).toArray) rfl (by kernel_rfl) (by kernel_rfl) (by kernel_rfl) rfl (fun W hW => exec_lds 0 _ (Mem.get hW 0 rfl) rfl _ un_nce rfl 12 sz_nce (by rw [HNU.out]; omega) (by rw [List.drop_zero, List.take_of_length_le (Nat.le_of_eq HNU.out)])) hm.tail ?_
        go_simp
        refine anyH_take 6 (v := .int .u32 ((c + (j : Int)) % 4294967296)) rfl (by kernel_rfl) (by kernel_rfl) (by kernel_rfl) rfl (fun W _ => by go_simp) hm.tail ?_
        go_simp
        refine wpAnyH_all (rs := [7]) (by kernel_rfl) (by simp) ?_
        intro i hi
        simp only [List.mem_cons, List.not_mem_nil, or_false] at hi
        subst hi
        refine anyH_op 7 rfl rfl ?_
        intro K hK
        go_wp2_with (go_at_call 11; refine (block_any ks ns _ HKL.out HNL.out HKB.out HNB.out _ (QTab.mem HT.out hm (by simp))).mono ?_; rintro e w6 ⟨rfl, hb⟩; replace hm := hm.call hb; clear hb)
        refine hK _ _ hm.tail ?_
        clear hK K
        refine wpAnyH_all (rs := [8]) (by kernel_rfl) (by simp) ?_
        intro i hi
        simp only [List.mem_cons, List.not_mem_nil, or_false] at hi
        subst hi
        refine anyH_op 8 rfl rfl ?_
        intro K hK
        go_wp2_with (go_at_call 22; refine (mask_any g9 (64 * j) L L (xorUp ks ns c ms (64 * j)) _ _ HFT.out (by omega) (blockOf_length _ _ _) _ (hm.get 0 rfl)).mono ?_; rintro e w7 ⟨rfl, hr, hu⟩; rw [HST.out] at hr; replace hm := hm.upd 0 rfl hu hr; clear hr hu)
        refine hK _ _ hm.tail ?_
        clear hK K
        refine wpAnyH_done (by kernel_rfl) ?_ _
        simp only [endsIn]
        go_wp2_with (first
          | ((with_reducible refine at_op (some 38) (.slice 27 (.tmp 36) (some (.tmp 37)) none none) ?_); go_must (refine wpl_sls _ un_bs sz_u8 L rfl rfl rfl (by omega) ?_); intro p2 hp2; have HP2 : Hid _ := hp2; clear hp2))

        have HP : Hid (64 * (j + 1) < ms.length → p2 = some ⟨g9, 64 * (j + 1), none⟩) := by
          intro h
          have := HLE.out
          rw [HP2.out, if_neg (by omega)]
          simp [add_at] <;> omega
        have HLN : Hid (L - L = ms.length - 64 * (j + 1)) := by show _ = _; have := HLE.out; omega
        go_roundw
        case rel =>
          refine ⟨j + 1, ?_, by have := HLE.out; omega, ⟨p2, ?_, HP.out⟩, hm⟩
          · rw [← HCE.out]; try simp
          · rw [← HLN.out]; try simp
        case measure => simp [slLen]; omega
    · have hL0 : ms.length - 64 * j = 0 := by omega
      rw [hL0]
      rw [xorUp_full ks ns c ms (64 * j) (by omega)] at hm
      go_wp2_with fail
      go_ret
      exact ⟨g9, rfl, HGE.out, hm.get 0 rfl, hm.below⟩
end Go.Proofs.YtalhobmnbikbfaaDoor
