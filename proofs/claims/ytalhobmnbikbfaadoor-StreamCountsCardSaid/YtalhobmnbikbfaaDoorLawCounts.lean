/- The walk of the law StreamCounts. -/
import Derived.Test.YtalhobmnbikbfaaDoorStKnown
namespace Go.Proofs.YtalhobmnbikbfaaDoor
open Go Go.RowKit

set_option maxHeartbeats 2000000 in
set_option maxRecDepth 100000 in
theorem streamCounts_walk (ks ns : List Int) (c n : Int) (hkl : ks.length = 32) (hnl : ns.length = 12) (hkb : Bytes ks) (hnb : Bytes ns) (hc : Word c) (hn : 0 ≤ n ∧ n ≤ 255) (w : World) (ht : QTab w) :
    Calls Tryd.prog 6 #[.agg (u8s ks).toArray, .agg (u8s ns).toArray, .int .u32 c, .int .u8 n] w fun e w' => e = .returned (.bool true) ∧ Below w.heap.size w w' := by
  obtain ⟨hn0, hn1⟩ := hn
  have hm := Mem.start w
  have HT : Hid _ := ht
  have HKB : Hid _ := hkb
  have HNB : Hid _ := hnb
  have HKL : Hid _ := hkl
  have HNL : Hid _ := hnl
  have HC : Hid _ := hc
  have HKU : Hid ((u8s ks).length = 32) := by show _ = _; rw [u8s_length]; exact hkl
  have HNU : Hid ((u8s ns).length = 12) := by show _ = _; rw [u8s_length]; exact hnl
  obtain ⟨hc0, hc1⟩ := hc
  clear ht hkb hnb hkl hnl
  obtain ⟨M, hM⟩ : ∃ M : Nat, n % 4 + 1 = (M : Int) := ⟨(n % 4 + 1).toNat, by omega⟩
  have hM4 : M ≤ 4 := by omega
  have hM1 : 1 ≤ M := by omega
  have hMi : (M : Int) ≤ 4 := by omega
  have hMi1 : (1 : Int) ≤ (M : Int) := by omega
  go_enter Tryd.func6, Tryd.ntmps6
  go_wp2_with (first
    | ((with_reducible refine at_op (some 4) (.box 24 (.tmp 0)) ?_); refine wpl_box (u8s ks) rfl hm ?_; clear hm; intro w1 g4 hm)
    | ((with_reducible refine at_op (some 5) (.box 26 (.tmp 1)) ?_); refine wpl_box (u8s ns) rfl hm ?_; clear hm; intro w2 g5 hm)
    | (go_at_call 8; refine (known4_any _ (QTab.mem HT.out hm (by simp))).mono ?_; rintro e w3 ⟨rfl, hb⟩; replace hm := hm.call hb; clear hb))

  refine wp_ends0 ?_
  refine anyH_start (T := fun W => Mem w [] W [(g5, u8s ns, 26), (g4, u8s ks, 24)]) (by kernel_rfl) hm ?_
  clear hm
  intro w4 hm
  refine anyH_take 0 (v := .agg (u8s ks).toArray) rfl (by kernel_rfl) (by kernel_rfl) (by kernel_rfl) rfl (fun W hW => exec_lds 0 _ (Mem.get hW 1 rfl) rfl _ un_key rfl 32 sz_key (by rw [HKU.out]; omega) (by rw [List.drop_zero, List.take_of_length_le (Nat.le_of_eq HKU.out)])) hm ?_
  go_simp
  refine anyH_take 1 (v := .agg (u8s ns).toArray) rfl (by kernel_rfl) (by kernel_rfl) (by kernel_rfl) rfl (fun W hW => exec_lds 0 _ (Mem.get hW 0 rfl) rfl _ un_nce rfl 12 sz_nce (by rw [HNU.out]; omega) (by rw [List.drop_zero, List.take_of_length_le (Nat.le_of_eq HNU.out)])) hm ?_
  go_simp
  refine anyH_take 2 (v := .int .u32 c) rfl (by kernel_rfl) (by kernel_rfl) (by kernel_rfl) rfl (fun W _ => by go_simp) hm ?_
  go_simp
  refine anyH_take 3 (v := .int .i64 (M : Int)) rfl (by kernel_rfl) (by kernel_rfl) (by kernel_rfl) rfl (fun W _ => by go_simp) hm ?_
  go_simp
  refine anyH_take 4 (v := .int .i64 (64 * (M : Int))) rfl (by kernel_rfl) (by kernel_rfl) (by kernel_rfl) rfl (fun W _ => by go_simp; exact wrapi _ (by omega) (by omega)) hm ?_
  go_simp
  refine wpAnyH_all (rs := [5]) (by kernel_rfl) (by simp) ?_
  intro i hi
  simp only [List.mem_cons, List.not_mem_nil, or_false] at hi
  subst hi
  refine anyH_op 5 rfl rfl ?_
  intro K hK
  refine wpl_make _ un_bs _ made_u8 rfl (64 * M) rfl (by omega) rfl (by omega) (by omega) hm ?_
  clear hm
  intro w5 gz hm
  replace hm : Mem w [] w5 [(gz, u8s (List.replicate (64 * M) 0), 5), (g5, u8s ns, 26), (g4, u8s ks, 24)] := by
    have e : u8s (List.replicate (64 * M) 0) = List.replicate (64 * M) (.int .u8 0) := by simp [u8s]
    rw [e]
    exact hm
  refine wpList_nil ?_
  refine hK _ _ hm.tail ?_
  clear hK K
  refine wpAnyH_all (rs := [6]) (by kernel_rfl) (by simp) ?_
  intro i hi
  simp only [List.mem_cons, List.not_mem_nil, or_false] at hi
  subst hi
  refine anyH_op 6 rfl rfl ?_
  intro K hK
  go_wp2_with (go_at_call 13; refine (xor_any ks ns (List.replicate (64 * M) 0) c _ HKL.out HNL.out HKB.out HNB.out HC.out (by simp; omega) _ (QTab.mem HT.out hm (by simp)) (old_all (hm.get 0 rfl) (by simp) (Nat.le_refl _))).mono ?_; rintro e w6 ⟨gx, he, hge, hr, hb⟩; rw [List.length_replicate] at he; subst he; replace hm := hm.tail.callNew hb hr hge; clear hb hr hge)
  refine hK _ _ hm.tail ?_
  clear hK K
  refine anyH_take 7 (v := .slice (some ⟨gx, 0, none⟩) (64 * M) (64 * M)) rfl (by kernel_rfl) (by kernel_rfl) (by kernel_rfl) rfl (fun W _ => by go_simp) hm.tail ?_
  go_simp
  refine wpAnyH_done (by kernel_rfl) ?_ _
  simp only [endsIn]
  go_wp2_with fail
  go_loopw [11] (fun vi wr => ∃ i : Nat, i ≤ M ∧ vi = .int .i64 i ∧ Mem w [] wr ((gx, u8s (xorOf ks ns c (List.replicate (64 * M) 0)), 5) :: [(g5, u8s ns, 26), (g4, u8s ks, 24)])) (fun vi _ => M - (intOf vi).toNat)
  case atStart => exact ⟨0, by omega, rfl, hm⟩
  case round =>
    clear hm
    obtain ⟨i, hi, rfl, hm⟩ := hrel
    by_cases hlt : i < M
    · have hii : (i : Int) < (M : Int) := by omega
      obtain ⟨B, hB⟩ : ∃ B, B = blockOf ks ns ((c + (i : Int)) % 4294967296) := ⟨_, rfl⟩
      have HBE : Hid (blockOf ks ns ((c + (i : Int)) % 4294967296) = B) := hB.symm
      have HBL : Hid (B.length = 64) := by show _ = _; rw [hB, blockOf_length]
      have HPT : Hid (((xorOf ks ns c (List.replicate (64 * M) 0)).drop (64 * i)).take 64 = B) := by show _ = _; rw [hB]; exact xorOf_part ks ns c i (64 * M) (by omega)
      clear hB
      go_wp2_with (first
        | ((with_reducible refine at_op (some 31) (.load 24 (.tmp 4)) ?_); refine wpl_ldw 2 hm rfl rfl _ un_key rfl 32 sz_key (HKU.out) ?_)
        | ((with_reducible refine at_op (some 32) (.load 26 (.tmp 5)) ?_); refine wpl_ldw 1 hm rfl rfl _ un_nce rfl 12 sz_nce (HNU.out) ?_)
        | (go_at_call 11; refine (block_any ks ns _ HKL.out HNL.out HKB.out HNB.out _ (QTab.mem HT.out hm (by simp))).mono ?_; rintro e w7 ⟨he, hb⟩; rw [HBE.out] at he; subst he; replace hm := hm.call hb; clear hb)
        | ((with_reducible refine at_op (some 12) (.alloc 31) ?_); refine wpl_alloc _ zero_b64 hm ?_; clear hm; intro w8 g12 hm)
        | ((with_reducible refine at_op none (.store 31 (.tmp 12) (.tmp 37)) ?_); refine wpl_stw 0 (u8s B) hm rfl rfl rfl 64 sz_b64 (by simp [u8s_length]) (by rw [u8s_length]; exact HBL.out) (u8s_one _) ?_; clear hm; intro w9 hm))

      have hs1 : SlOld w9 (.slice (some ⟨gx, 64 * i, none⟩) 64 (64 * M - 64 * i)) B := by
        have hseg := ((Seg.row (hm.get 1 rfl)).drop (64 * i)).take 64
        rw [HPT.out, Nat.zero_add] at hseg
        exact ⟨_, _, by rw [HBL.out], by rw [HBL.out]; omega, fun _ => ⟨_, _, rfl, hseg⟩⟩
      have hs2 : SlOld w9 (.slice (some ⟨g12, 0, none⟩) 64 64) B := old_all (hm.get 0 rfl) HBL.out (Nat.le_refl _)
      refine wp_ends0 ?_
      refine anyH_start2 (by kernel_rfl) hm hs1 hs2 ?_
      clear hm hs1 hs2
      intro w10 hm hs1 hs2
      have hT : SlOld w10 (.slice (some ⟨gx, 64 * i, none⟩) 64 (64 * M - 64 * i)) B ∧ SlOld w10 (.slice (some ⟨g12, 0, none⟩) 64 64) B := ⟨hs1, hs2⟩
      refine anyH_take 0 (v := .slice (some ⟨gx, 0, none⟩) (64 * M) (64 * M)) rfl (by kernel_rfl) (by kernel_rfl) (by kernel_rfl) rfl (fun W _ => by go_simp) hT ?_
      go_simp
      refine anyH_take 1 (v := .int .i64 (i : Int)) rfl (by kernel_rfl) (by kernel_rfl) (by kernel_rfl) rfl (fun W _ => by go_simp) hT ?_
      go_simp
      refine anyH_take 2 (v := .int .i64 (64 * (i : Int))) rfl (by kernel_rfl) (by kernel_rfl) (by kernel_rfl) rfl (fun W _ => by go_simp; exact wrapi _ (by omega) (by omega)) hT ?_
      go_simp
      refine anyH_take 3 (v := .int .i64 (i : Int)) rfl (by kernel_rfl) (by kernel_rfl) (by kernel_rfl) rfl (fun W _ => by go_simp) hT ?_
      go_simp
      refine anyH_take 4 (v := .int .i64 (64 * (i : Int))) rfl (by kernel_rfl) (by kernel_rfl) (by kernel_rfl) rfl (fun W _ => by go_simp; exact wrapi _ (by omega) (by omega)) hT ?_
      go_simp
      refine anyH_take 5 (v := .int .i64 (64 * (i : Int) + 64)) rfl (by kernel_rfl) (by kernel_rfl) (by kernel_rfl) rfl (fun W _ => by go_simp; exact wrapi _ (by omega) (by omega)) hT ?_
      go_simp
      refine anyH_take 6 (v := .slice (some ⟨gx, 64 * i, none⟩) 64 (64 * M - 64 * i)) rfl (by kernel_rfl) (by kernel_rfl) (by kernel_rfl) rfl (fun W _ => exec_slh2 un_bs sz_u8 (64 * i) (64 * i) 64 (by omega) (by omega) (by omega) rfl rfl (by omega) rfl (by omega)) hT ?_
      go_simp
      refine anyH_take 7 (v := .string (strOf B)) rfl (by kernel_rfl) (by kernel_rfl) (by kernel_rfl) rfl (fun W hW => exec_tostr un_bs un_u8 un_strT _ rfl hW.1) hT ?_
      go_simp
      refine anyH_take 8 (v := .slice (some ⟨g12, 0, none⟩) 64 64) rfl (by kernel_rfl) (by kernel_rfl) (by kernel_rfl) rfl (fun W _ => by go_simp) hT ?_
      go_simp
      refine anyH_take 9 (v := .string (strOf B)) rfl (by kernel_rfl) (by kernel_rfl) (by kernel_rfl) rfl (fun W hW => exec_tostr un_bs un_u8 un_strT _ rfl hW.2) hT ?_
      go_simp
      refine anyH_take 10 (v := .bool false) rfl (by kernel_rfl) (by kernel_rfl) (by kernel_rfl) rfl (fun W _ => exec_nes (strOf B) (strOf B) true rfl rfl (beq_self_str _)) hT ?_
      go_simp
      refine wpAnyH_done (by kernel_rfl) ?_ _
      simp only [endsIn]
      go_wp2_with fail
      go_roundw
      case rel => exact ⟨i + 1, by omega, by go_num, hm.tail⟩
      case measure => simp [intOf]; omega
    · have hni : ¬ (i : Int) < (M : Int) := by omega
      have h64b : (((64 * M : Nat) : Int) == 64 * (M : Int)) = true := beq_iff_eq.2 (by omega)
      go_wp2_with fail
      go_ret
      exact ⟨rfl, hm.below⟩
end Go.Proofs.YtalhobmnbikbfaaDoor
