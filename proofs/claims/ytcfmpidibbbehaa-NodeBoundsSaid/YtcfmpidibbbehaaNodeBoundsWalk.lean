/- The walk of the law NodeBounds. -/
import Derived.Test.YtcfmpidibbbehaaNdFrame
namespace Go.Proofs.Ytcfmpidibbbehaa
open Go Go.RowKit
set_option maxRecDepth 100000 in
theorem bounds_leaf (k v : Nat) : leafCode [(zs k, zs v)] = if (1 ≤ k ∧ k ≤ 60) ∧ v ≤ 150 then 0 else 90 := by
  have hok : okPairs [(zs k, zs v)] 1 = (decide (v ≤ 150) && (decide (1 ≤ k) && decide (k ≤ 60))) := by
    show (true && (decide ((zs v).size ≤ 150) && (fitK (zs k) && (true || _)))) = _
    rw [fitK, zs_size, zs_size]; simp
  have hs : szP [(zs k, zs v)] = 7 + k + v := by
    show 3 + (4 + (zs k).size + (zs v).size + 0) = _
    rw [zs_size, zs_size]; omega
  unfold leafCode
  rw [show ([(zs k, zs v)] : List (ByteArray × ByteArray)).length = 1 from rfl, hok, hs]
  by_cases h : (1 ≤ k ∧ k ≤ 60) ∧ v ≤ 150
  · rw [if_pos h, if_neg (by simp; omega), if_neg (by omega)]
  · rw [if_neg h, if_pos (by simp; omega)]
set_option maxRecDepth 100000 in
theorem bounds_branch (k : Nat) : branchCode [zs k] ([0, 1] : List Int).length = if 1 ≤ k ∧ k ≤ 60 then 0 else 90 := by
  have hok : okBr [zs k] 2 = (decide (1 ≤ k) && decide (k ≤ 60)) := by
    show (true && (fitK (zs k) && (true || _))) = _
    rw [fitK, zs_size]; simp
  have hs : szB [zs k] 2 = 13 + k := by
    show 3 + 8 + (2 + (zs k).size + 0) = _
    rw [zs_size]; omega
  unfold branchCode
  rw [show ([0, 1] : List Int).length = 2 from rfl, hok, hs]
  by_cases h : 1 ≤ k ∧ k ≤ 60
  · rw [if_pos h, if_neg (by simp; omega), if_neg (by omega)]
  · rw [if_neg h, if_pos (by simp; omega)]
set_option maxHeartbeats 4000000 in
set_option maxRecDepth 100000 in
theorem bounds_none (K V : Int) (k v : Nat) (hk : K = (k : Int)) (hv : V = (v : Int)) (hk0 : 0 ≤ K) (hk1 : K < 256) (hv0 : 0 ≤ V) (hv1 : V < 256) (h : K < 1) (hl : leafCode [(zs k, zs v)] = 90) (hbr : branchCode [zs k] ([0, 1] : List Int).length = 90) (w : World) :
    Calls Try.prog 6 #[.int .u8 K, .int .u8 V] w fun e w' => e = .returned (.bool true) ∧ Below w.heap.size w w' := by
  have HK : Hid (K = (k : Int)) := hk
  have HV : Hid (V = (v : Int)) := hv
  have HWK : IntKind.i64.wrap K = K := wrapi K hk0 (by omega)
  have HWV : IntKind.i64.wrap V = V := wrapi V hv0 (by omega)
  have hkl : k ≤ 256 := by omega
  have hvl : v ≤ 256 := by omega
  have HLC : Hid (∀ _ : Unit, leafCode [(zs k, zs v)] = 90) := fun _ => hl
  have HBC : Hid (∀ _ : Unit, branchCode [zs k] ([0, 1] : List Int).length = 90) := fun _ => hbr
  have HSZ : Hid (∀ p ∈ [(zs k, zs v)], p.1.size ≤ 1152921504606846976 ∧ p.2.size ≤ 1152921504606846976) := by
    intro p hp
    simp only [List.mem_cons, List.not_mem_nil, or_false] at hp
    subst hp
    rw [zs_size, zs_size]; omega
  have HKB : Hid (∀ x ∈ ([0, 1] : List Int), 0 ≤ x ∧ x < 4294967296) := by
    intro x hx
    simp only [List.mem_cons, List.not_mem_nil, or_false] at hx
    rcases hx with rfl | rfl <;> omega
  have hm := Mem.start w
  clear hk hv hl hbr
  go_enter Try.func6, Try.ntmps6
  go_wp2_with (first
    | (go_at_call 9; refine (known_any _).mono ?_; rintro e wk ⟨rfl, hb⟩; replace hm := hm.call hb; clear hb))
  refine wp_ends0 ?_
  refine anyH_start (T := fun W => Mem w [] W []) (by kernel_rfl) hm ?_
  clear hm
  intro w1 hm
  refine anyH_take 0 (v := .int .u8 K) rfl (by kernel_rfl) (by kernel_rfl) (by kernel_rfl) rfl (fun W _ => by go_simp) hm ?_
  go_simp
  refine anyH_take 1 (v := .int .i64 K) rfl (by kernel_rfl) (by kernel_rfl) (by kernel_rfl) rfl (fun W _ => by go_simp) hm ?_
  go_simp
  refine anyH_take 4 (v := .int .u8 V) rfl (by kernel_rfl) (by kernel_rfl) (by kernel_rfl) rfl (fun W _ => by go_simp) hm ?_
  go_simp
  refine anyH_take 5 (v := .int .i64 V) rfl (by kernel_rfl) (by kernel_rfl) (by kernel_rfl) rfl (fun W _ => by go_simp) hm ?_
  go_simp
  refine wpAnyH_all (rs := [2, 6]) (by kernel_rfl) (by simp) ?_
  intro i hi
  simp only [List.mem_cons, List.not_mem_nil, or_false] at hi
  rcases hi with rfl | rfl
  · refine anyH_opW 2 rfl rfl ?_
    intro K9 hK
    refine wpl_make _ un_bs _ made_u8 rfl k rfl HK.out rfl HK.out (by omega) hm ?_
    clear hm
    intro w2 g2 hm
    rw [zeros_u8] at hm
    refine wpList_nil ?_
    refine hK _ _ hm.tail ?_
    clear hK K9
    refine anyH_more (fun W => Mem w [] W [(g2, u8s (List.replicate k 0), 5)]) (fun W h => h.tail) _ _ _ _ ?_
    refine anyH_take 3 (v := .string (zs k)) rfl (by kernel_rfl) (by kernel_rfl) (by kernel_rfl) rfl (fun W hW => exec_tostr un_bs un_u8 un_strT (List.replicate k 0) rfl (old_all (Mem.get hW 0 rfl) (by simp) (Nat.le_refl _))) hm ?_
    go_simp
    refine anyH_take 8 (v := .string (zs k)) rfl (by kernel_rfl) (by kernel_rfl) (by kernel_rfl) rfl (fun W _ => by go_simp) hm ?_
    go_simp
    refine wpAnyH_all (rs := [6]) (by kernel_rfl) (by simp) ?_
    intro i hi
    simp only [List.mem_cons, List.not_mem_nil, or_false] at hi
    subst hi
    refine anyH_opW 6 rfl rfl ?_
    intro K9 hK
    refine wpl_make _ un_bs _ made_u8 rfl v rfl HV.out rfl HV.out (by omega) hm ?_
    clear hm
    intro w3 g3 hm
    rw [zeros_u8] at hm
    refine wpList_nil ?_
    refine hK _ _ hm.tail ?_
    clear hK K9
    refine anyH_more (fun W => Mem w [] W [(g3, u8s (List.replicate v 0), 5), (g2, u8s (List.replicate k 0), 5)]) (fun W h => h.tail) _ _ _ _ ?_
    refine anyH_take 7 (v := .string (zs v)) rfl (by kernel_rfl) (by kernel_rfl) (by kernel_rfl) rfl (fun W hW => exec_tostr un_bs un_u8 un_strT (List.replicate v 0) rfl (old_all (Mem.get hW 0 rfl) (by simp) (Nat.le_refl _))) hm ?_
    go_simp
    refine anyH_take 9 (v := .string (zs v)) rfl (by kernel_rfl) (by kernel_rfl) (by kernel_rfl) rfl (fun W _ => by go_simp) hm ?_
    go_simp
    refine wpAnyH_done (by kernel_rfl) ?_ _
    simp only [endsIn]
    go_wp2_with (first
      | ((with_reducible refine at_op (some 26) (.build 50 #[(0, .tmp 24), (1, .tmp 25)]) ?_); go_must (refine wpl_execG (.agg [.string (zs k), .string (zs v)].toArray) rfl (exec_pairKV (zs k) (zs v) rfl rfl) ?_))
      | ((with_reducible refine at_op (some 27) (.buildSlice 22 1 #[(0, .tmp 26)]) ?_); go_must (refine wpl_bslP (zs k) (zs v) rfl rfl hm ?_); clear hm; intro w5 g5 hm)
      | (go_at_call 10; refine (leaf_any [(zs k, zs v)] _ (by simp) HSZ.out _ (SlV.of_row (hm.get 0 rfl) rfl)).mono ?_; rintro e w6 ⟨b6, he, hs, hb⟩; rw [HLC.out ()] at he; subst he; replace hm := hm.call hb; clear hb hs)
      | ((with_reducible refine at_op (some 33) (.buildSlice 23 1 #[(0, .tmp 32)]) ?_); go_must (refine wpl_bsl1 rfl (.string ByteArray.empty) (.string (zs k)) un_strs info_str rfl rfl rfl hm ?_); clear hm; intro w7 g7 hb7 hm; clear hb7)
      | ((with_reducible refine at_op (some 34) (.buildSlice 24 2 #[(0, .const (.int .u32 0)), (1, .const (.int .u32 1))]) ?_); go_must (refine wpl_bsl2 (.int .u32 0) (.int .u32 0) (.int .u32 1) un_u32s info_u32 rfl rfl rfl rfl rfl hm ?_); clear hm; intro w8 g8 hb8 hm; clear hb8)
      | (go_at_call 12; refine (branch_any [zs k] [0, 1] _ _ (by simp) HKB.out _ (SlV.of_row (hm.get 1 rfl) rfl) (SlV.of_row (hm.get 0 rfl) rfl)).mono ?_; rintro e w9 ⟨b9, he, hs, hb⟩; rw [HBC.out ()] at he; subst he; replace hm := hm.call hb; clear hb hs))
    go_ret
    refine ⟨?_, hm.below⟩
    first | rfl | (simp; omega)
  · refine anyH_opW 6 rfl rfl ?_
    intro K9 hK
    refine wpl_make _ un_bs _ made_u8 rfl v rfl HV.out rfl HV.out (by omega) hm ?_
    clear hm
    intro w2 g2 hm
    rw [zeros_u8] at hm
    refine wpList_nil ?_
    refine hK _ _ hm.tail ?_
    clear hK K9
    refine anyH_more (fun W => Mem w [] W [(g2, u8s (List.replicate v 0), 5)]) (fun W h => h.tail) _ _ _ _ ?_
    refine anyH_take 7 (v := .string (zs v)) rfl (by kernel_rfl) (by kernel_rfl) (by kernel_rfl) rfl (fun W hW => exec_tostr un_bs un_u8 un_strT (List.replicate v 0) rfl (old_all (Mem.get hW 0 rfl) (by simp) (Nat.le_refl _))) hm ?_
    go_simp
    refine wpAnyH_all (rs := [2]) (by kernel_rfl) (by simp) ?_
    intro i hi
    simp only [List.mem_cons, List.not_mem_nil, or_false] at hi
    subst hi
    refine anyH_opW 2 rfl rfl ?_
    intro K9 hK
    refine wpl_make _ un_bs _ made_u8 rfl k rfl HK.out rfl HK.out (by omega) hm ?_
    clear hm
    intro w3 g3 hm
    rw [zeros_u8] at hm
    refine wpList_nil ?_
    refine hK _ _ hm.tail ?_
    clear hK K9
    refine anyH_more (fun W => Mem w [] W [(g3, u8s (List.replicate k 0), 5), (g2, u8s (List.replicate v 0), 5)]) (fun W h => h.tail) _ _ _ _ ?_
    refine anyH_take 3 (v := .string (zs k)) rfl (by kernel_rfl) (by kernel_rfl) (by kernel_rfl) rfl (fun W hW => exec_tostr un_bs un_u8 un_strT (List.replicate k 0) rfl (old_all (Mem.get hW 0 rfl) (by simp) (Nat.le_refl _))) hm ?_
    go_simp
    refine anyH_take 8 (v := .string (zs k)) rfl (by kernel_rfl) (by kernel_rfl) (by kernel_rfl) rfl (fun W _ => by go_simp) hm ?_
    go_simp
    refine anyH_take 9 (v := .string (zs v)) rfl (by kernel_rfl) (by kernel_rfl) (by kernel_rfl) rfl (fun W _ => by go_simp) hm ?_
    go_simp
    refine wpAnyH_done (by kernel_rfl) ?_ _
    simp only [endsIn]
    go_wp2_with (first
      | ((with_reducible refine at_op (some 26) (.build 50 #[(0, .tmp 24), (1, .tmp 25)]) ?_); go_must (refine wpl_execG (.agg [.string (zs k), .string (zs v)].toArray) rfl (exec_pairKV (zs k) (zs v) rfl rfl) ?_))
      | ((with_reducible refine at_op (some 27) (.buildSlice 22 1 #[(0, .tmp 26)]) ?_); go_must (refine wpl_bslP (zs k) (zs v) rfl rfl hm ?_); clear hm; intro w5 g5 hm)
      | (go_at_call 10; refine (leaf_any [(zs k, zs v)] _ (by simp) HSZ.out _ (SlV.of_row (hm.get 0 rfl) rfl)).mono ?_; rintro e w6 ⟨b6, he, hs, hb⟩; rw [HLC.out ()] at he; subst he; replace hm := hm.call hb; clear hb hs)
      | ((with_reducible refine at_op (some 33) (.buildSlice 23 1 #[(0, .tmp 32)]) ?_); go_must (refine wpl_bsl1 rfl (.string ByteArray.empty) (.string (zs k)) un_strs info_str rfl rfl rfl hm ?_); clear hm; intro w7 g7 hb7 hm; clear hb7)
      | ((with_reducible refine at_op (some 34) (.buildSlice 24 2 #[(0, .const (.int .u32 0)), (1, .const (.int .u32 1))]) ?_); go_must (refine wpl_bsl2 (.int .u32 0) (.int .u32 0) (.int .u32 1) un_u32s info_u32 rfl rfl rfl rfl rfl hm ?_); clear hm; intro w8 g8 hb8 hm; clear hb8)
      | (go_at_call 12; refine (branch_any [zs k] [0, 1] _ _ (by simp) HKB.out _ (SlV.of_row (hm.get 1 rfl) rfl) (SlV.of_row (hm.get 0 rfl) rfl)).mono ?_; rintro e w9 ⟨b9, he, hs, hb⟩; rw [HBC.out ()] at he; subst he; replace hm := hm.call hb; clear hb hs))
    go_ret
    refine ⟨?_, hm.below⟩
    first | rfl | (simp; omega)
set_option maxHeartbeats 4000000 in
set_option maxRecDepth 100000 in
theorem bounds_much (K V : Int) (k v : Nat) (hk : K = (k : Int)) (hv : V = (v : Int)) (hk0 : 0 ≤ K) (hk1 : K < 256) (hv0 : 0 ≤ V) (hv1 : V < 256) (h : 60 < K) (hl : leafCode [(zs k, zs v)] = 90) (hbr : branchCode [zs k] ([0, 1] : List Int).length = 90) (w : World) :
    Calls Try.prog 6 #[.int .u8 K, .int .u8 V] w fun e w' => e = .returned (.bool true) ∧ Below w.heap.size w w' := by
  have HK : Hid (K = (k : Int)) := hk
  have HV : Hid (V = (v : Int)) := hv
  have HWK : IntKind.i64.wrap K = K := wrapi K hk0 (by omega)
  have HWV : IntKind.i64.wrap V = V := wrapi V hv0 (by omega)
  have hkl : k ≤ 256 := by omega
  have hvl : v ≤ 256 := by omega
  have HLC : Hid (∀ _ : Unit, leafCode [(zs k, zs v)] = 90) := fun _ => hl
  have HBC : Hid (∀ _ : Unit, branchCode [zs k] ([0, 1] : List Int).length = 90) := fun _ => hbr
  have HSZ : Hid (∀ p ∈ [(zs k, zs v)], p.1.size ≤ 1152921504606846976 ∧ p.2.size ≤ 1152921504606846976) := by
    intro p hp
    simp only [List.mem_cons, List.not_mem_nil, or_false] at hp
    subst hp
    rw [zs_size, zs_size]; omega
  have HKB : Hid (∀ x ∈ ([0, 1] : List Int), 0 ≤ x ∧ x < 4294967296) := by
    intro x hx
    simp only [List.mem_cons, List.not_mem_nil, or_false] at hx
    rcases hx with rfl | rfl <;> omega
  have hm := Mem.start w
  clear hk hv hl hbr
  go_enter Try.func6, Try.ntmps6
  go_wp2_with (first
    | (go_at_call 9; refine (known_any _).mono ?_; rintro e wk ⟨rfl, hb⟩; replace hm := hm.call hb; clear hb))
  refine wp_ends0 ?_
  refine anyH_start (T := fun W => Mem w [] W []) (by kernel_rfl) hm ?_
  clear hm
  intro w1 hm
  refine anyH_take 0 (v := .int .u8 K) rfl (by kernel_rfl) (by kernel_rfl) (by kernel_rfl) rfl (fun W _ => by go_simp) hm ?_
  go_simp
  refine anyH_take 1 (v := .int .i64 K) rfl (by kernel_rfl) (by kernel_rfl) (by kernel_rfl) rfl (fun W _ => by go_simp) hm ?_
  go_simp
  refine anyH_take 4 (v := .int .u8 V) rfl (by kernel_rfl) (by kernel_rfl) (by kernel_rfl) rfl (fun W _ => by go_simp) hm ?_
  go_simp
  refine anyH_take 5 (v := .int .i64 V) rfl (by kernel_rfl) (by kernel_rfl) (by kernel_rfl) rfl (fun W _ => by go_simp) hm ?_
  go_simp
  refine wpAnyH_all (rs := [2, 6]) (by kernel_rfl) (by simp) ?_
  intro i hi
  simp only [List.mem_cons, List.not_mem_nil, or_false] at hi
  rcases hi with rfl | rfl
  · refine anyH_opW 2 rfl rfl ?_
    intro K9 hK
    refine wpl_make _ un_bs _ made_u8 rfl k rfl HK.out rfl HK.out (by omega) hm ?_
    clear hm
    intro w2 g2 hm
    rw [zeros_u8] at hm
    refine wpList_nil ?_
    refine hK _ _ hm.tail ?_
    clear hK K9
    refine anyH_more (fun W => Mem w [] W [(g2, u8s (List.replicate k 0), 5)]) (fun W h => h.tail) _ _ _ _ ?_
    refine anyH_take 3 (v := .string (zs k)) rfl (by kernel_rfl) (by kernel_rfl) (by kernel_rfl) rfl (fun W hW => exec_tostr un_bs un_u8 un_strT (List.replicate k 0) rfl (old_all (Mem.get hW 0 rfl) (by simp) (Nat.le_refl _))) hm ?_
    go_simp
    refine anyH_take 8 (v := .string (zs k)) rfl (by kernel_rfl) (by kernel_rfl) (by kernel_rfl) rfl (fun W _ => by go_simp) hm ?_
    go_simp
    refine wpAnyH_all (rs := [6]) (by kernel_rfl) (by simp) ?_
    intro i hi
    simp only [List.mem_cons, List.not_mem_nil, or_false] at hi
    subst hi
    refine anyH_opW 6 rfl rfl ?_
    intro K9 hK
    refine wpl_make _ un_bs _ made_u8 rfl v rfl HV.out rfl HV.out (by omega) hm ?_
    clear hm
    intro w3 g3 hm
    rw [zeros_u8] at hm
    refine wpList_nil ?_
    refine hK _ _ hm.tail ?_
    clear hK K9
    refine anyH_more (fun W => Mem w [] W [(g3, u8s (List.replicate v 0), 5), (g2, u8s (List.replicate k 0), 5)]) (fun W h => h.tail) _ _ _ _ ?_
    refine anyH_take 7 (v := .string (zs v)) rfl (by kernel_rfl) (by kernel_rfl) (by kernel_rfl) rfl (fun W hW => exec_tostr un_bs un_u8 un_strT (List.replicate v 0) rfl (old_all (Mem.get hW 0 rfl) (by simp) (Nat.le_refl _))) hm ?_
    go_simp
    refine anyH_take 9 (v := .string (zs v)) rfl (by kernel_rfl) (by kernel_rfl) (by kernel_rfl) rfl (fun W _ => by go_simp) hm ?_
    go_simp
    refine wpAnyH_done (by kernel_rfl) ?_ _
    simp only [endsIn]
    go_wp2_with (first
      | ((with_reducible refine at_op (some 26) (.build 50 #[(0, .tmp 24), (1, .tmp 25)]) ?_); go_must (refine wpl_execG (.agg [.string (zs k), .string (zs v)].toArray) rfl (exec_pairKV (zs k) (zs v) rfl rfl) ?_))
      | ((with_reducible refine at_op (some 27) (.buildSlice 22 1 #[(0, .tmp 26)]) ?_); go_must (refine wpl_bslP (zs k) (zs v) rfl rfl hm ?_); clear hm; intro w5 g5 hm)
      | (go_at_call 10; refine (leaf_any [(zs k, zs v)] _ (by simp) HSZ.out _ (SlV.of_row (hm.get 0 rfl) rfl)).mono ?_; rintro e w6 ⟨b6, he, hs, hb⟩; rw [HLC.out ()] at he; subst he; replace hm := hm.call hb; clear hb hs)
      | ((with_reducible refine at_op (some 33) (.buildSlice 23 1 #[(0, .tmp 32)]) ?_); go_must (refine wpl_bsl1 rfl (.string ByteArray.empty) (.string (zs k)) un_strs info_str rfl rfl rfl hm ?_); clear hm; intro w7 g7 hb7 hm; clear hb7)
      | ((with_reducible refine at_op (some 34) (.buildSlice 24 2 #[(0, .const (.int .u32 0)), (1, .const (.int .u32 1))]) ?_); go_must (refine wpl_bsl2 (.int .u32 0) (.int .u32 0) (.int .u32 1) un_u32s info_u32 rfl rfl rfl rfl rfl hm ?_); clear hm; intro w8 g8 hb8 hm; clear hb8)
      | (go_at_call 12; refine (branch_any [zs k] [0, 1] _ _ (by simp) HKB.out _ (SlV.of_row (hm.get 1 rfl) rfl) (SlV.of_row (hm.get 0 rfl) rfl)).mono ?_; rintro e w9 ⟨b9, he, hs, hb⟩; rw [HBC.out ()] at he; subst he; replace hm := hm.call hb; clear hb hs))
    go_ret
    refine ⟨?_, hm.below⟩
    first | rfl | (simp; omega)
  · refine anyH_opW 6 rfl rfl ?_
    intro K9 hK
    refine wpl_make _ un_bs _ made_u8 rfl v rfl HV.out rfl HV.out (by omega) hm ?_
    clear hm
    intro w2 g2 hm
    rw [zeros_u8] at hm
    refine wpList_nil ?_
    refine hK _ _ hm.tail ?_
    clear hK K9
    refine anyH_more (fun W => Mem w [] W [(g2, u8s (List.replicate v 0), 5)]) (fun W h => h.tail) _ _ _ _ ?_
    refine anyH_take 7 (v := .string (zs v)) rfl (by kernel_rfl) (by kernel_rfl) (by kernel_rfl) rfl (fun W hW => exec_tostr un_bs un_u8 un_strT (List.replicate v 0) rfl (old_all (Mem.get hW 0 rfl) (by simp) (Nat.le_refl _))) hm ?_
    go_simp
    refine wpAnyH_all (rs := [2]) (by kernel_rfl) (by simp) ?_
    intro i hi
    simp only [List.mem_cons, List.not_mem_nil, or_false] at hi
    subst hi
    refine anyH_opW 2 rfl rfl ?_
    intro K9 hK
    refine wpl_make _ un_bs _ made_u8 rfl k rfl HK.out rfl HK.out (by omega) hm ?_
    clear hm
    intro w3 g3 hm
    rw [zeros_u8] at hm
    refine wpList_nil ?_
    refine hK _ _ hm.tail ?_
    clear hK K9
    refine anyH_more (fun W => Mem w [] W [(g3, u8s (List.replicate k 0), 5), (g2, u8s (List.replicate v 0), 5)]) (fun W h => h.tail) _ _ _ _ ?_
    refine anyH_take 3 (v := .string (zs k)) rfl (by kernel_rfl) (by kernel_rfl) (by kernel_rfl) rfl (fun W hW => exec_tostr un_bs un_u8 un_strT (List.replicate k 0) rfl (old_all (Mem.get hW 0 rfl) (by simp) (Nat.le_refl _))) hm ?_
    go_simp
    refine anyH_take 8 (v := .string (zs k)) rfl (by kernel_rfl) (by kernel_rfl) (by kernel_rfl) rfl (fun W _ => by go_simp) hm ?_
    go_simp
    refine anyH_take 9 (v := .string (zs v)) rfl (by kernel_rfl) (by kernel_rfl) (by kernel_rfl) rfl (fun W _ => by go_simp) hm ?_
    go_simp
    refine wpAnyH_done (by kernel_rfl) ?_ _
    simp only [endsIn]
    go_wp2_with (first
      | ((with_reducible refine at_op (some 26) (.build 50 #[(0, .tmp 24), (1, .tmp 25)]) ?_); go_must (refine wpl_execG (.agg [.string (zs k), .string (zs v)].toArray) rfl (exec_pairKV (zs k) (zs v) rfl rfl) ?_))
      | ((with_reducible refine at_op (some 27) (.buildSlice 22 1 #[(0, .tmp 26)]) ?_); go_must (refine wpl_bslP (zs k) (zs v) rfl rfl hm ?_); clear hm; intro w5 g5 hm)
      | (go_at_call 10; refine (leaf_any [(zs k, zs v)] _ (by simp) HSZ.out _ (SlV.of_row (hm.get 0 rfl) rfl)).mono ?_; rintro e w6 ⟨b6, he, hs, hb⟩; rw [HLC.out ()] at he; subst he; replace hm := hm.call hb; clear hb hs)
      | ((with_reducible refine at_op (some 33) (.buildSlice 23 1 #[(0, .tmp 32)]) ?_); go_must (refine wpl_bsl1 rfl (.string ByteArray.empty) (.string (zs k)) un_strs info_str rfl rfl rfl hm ?_); clear hm; intro w7 g7 hb7 hm; clear hb7)
      | ((with_reducible refine at_op (some 34) (.buildSlice 24 2 #[(0, .const (.int .u32 0)), (1, .const (.int .u32 1))]) ?_); go_must (refine wpl_bsl2 (.int .u32 0) (.int .u32 0) (.int .u32 1) un_u32s info_u32 rfl rfl rfl rfl rfl hm ?_); clear hm; intro w8 g8 hb8 hm; clear hb8)
      | (go_at_call 12; refine (branch_any [zs k] [0, 1] _ _ (by simp) HKB.out _ (SlV.of_row (hm.get 1 rfl) rfl) (SlV.of_row (hm.get 0 rfl) rfl)).mono ?_; rintro e w9 ⟨b9, he, hs, hb⟩; rw [HBC.out ()] at he; subst he; replace hm := hm.call hb; clear hb hs))
    go_ret
    refine ⟨?_, hm.below⟩
    first | rfl | (simp; omega)
set_option maxHeartbeats 4000000 in
set_option maxRecDepth 100000 in
theorem bounds_good (K V : Int) (k v : Nat) (hk : K = (k : Int)) (hv : V = (v : Int)) (hk0 : 0 ≤ K) (hk1 : K < 256) (hv0 : 0 ≤ V) (hv1 : V < 256) (h : 1 ≤ K) (h2 : K ≤ 60) (h3 : V ≤ 150) (hl : leafCode [(zs k, zs v)] = 0) (hbr : branchCode [zs k] ([0, 1] : List Int).length = 0) (w : World) :
    Calls Try.prog 6 #[.int .u8 K, .int .u8 V] w fun e w' => e = .returned (.bool true) ∧ Below w.heap.size w w' := by
  have HK : Hid (K = (k : Int)) := hk
  have HV : Hid (V = (v : Int)) := hv
  have HWK : IntKind.i64.wrap K = K := wrapi K hk0 (by omega)
  have HWV : IntKind.i64.wrap V = V := wrapi V hv0 (by omega)
  have hkl : k ≤ 256 := by omega
  have hvl : v ≤ 256 := by omega
  have HLC : Hid (∀ _ : Unit, leafCode [(zs k, zs v)] = 0) := fun _ => hl
  have HBC : Hid (∀ _ : Unit, branchCode [zs k] ([0, 1] : List Int).length = 0) := fun _ => hbr
  have HSZ : Hid (∀ p ∈ [(zs k, zs v)], p.1.size ≤ 1152921504606846976 ∧ p.2.size ≤ 1152921504606846976) := by
    intro p hp
    simp only [List.mem_cons, List.not_mem_nil, or_false] at hp
    subst hp
    rw [zs_size, zs_size]; omega
  have HKB : Hid (∀ x ∈ ([0, 1] : List Int), 0 ≤ x ∧ x < 4294967296) := by
    intro x hx
    simp only [List.mem_cons, List.not_mem_nil, or_false] at hx
    rcases hx with rfl | rfl <;> omega
  have hm := Mem.start w
  clear hk hv hl hbr
  go_enter Try.func6, Try.ntmps6
  go_wp2_with (first
    | (go_at_call 9; refine (known_any _).mono ?_; rintro e wk ⟨rfl, hb⟩; replace hm := hm.call hb; clear hb))
  refine wp_ends0 ?_
  refine anyH_start (T := fun W => Mem w [] W []) (by kernel_rfl) hm ?_
  clear hm
  intro w1 hm
  refine anyH_take 0 (v := .int .u8 K) rfl (by kernel_rfl) (by kernel_rfl) (by kernel_rfl) rfl (fun W _ => by go_simp) hm ?_
  go_simp
  refine anyH_take 1 (v := .int .i64 K) rfl (by kernel_rfl) (by kernel_rfl) (by kernel_rfl) rfl (fun W _ => by go_simp) hm ?_
  go_simp
  refine anyH_take 4 (v := .int .u8 V) rfl (by kernel_rfl) (by kernel_rfl) (by kernel_rfl) rfl (fun W _ => by go_simp) hm ?_
  go_simp
  refine anyH_take 5 (v := .int .i64 V) rfl (by kernel_rfl) (by kernel_rfl) (by kernel_rfl) rfl (fun W _ => by go_simp) hm ?_
  go_simp
  refine wpAnyH_all (rs := [2, 6]) (by kernel_rfl) (by simp) ?_
  intro i hi
  simp only [List.mem_cons, List.not_mem_nil, or_false] at hi
  rcases hi with rfl | rfl
  · refine anyH_opW 2 rfl rfl ?_
    intro K9 hK
    refine wpl_make _ un_bs _ made_u8 rfl k rfl HK.out rfl HK.out (by omega) hm ?_
    clear hm
    intro w2 g2 hm
    rw [zeros_u8] at hm
    refine wpList_nil ?_
    refine hK _ _ hm.tail ?_
    clear hK K9
    refine anyH_more (fun W => Mem w [] W [(g2, u8s (List.replicate k 0), 5)]) (fun W h => h.tail) _ _ _ _ ?_
    refine anyH_take 3 (v := .string (zs k)) rfl (by kernel_rfl) (by kernel_rfl) (by kernel_rfl) rfl (fun W hW => exec_tostr un_bs un_u8 un_strT (List.replicate k 0) rfl (old_all (Mem.get hW 0 rfl) (by simp) (Nat.le_refl _))) hm ?_
    go_simp
    refine anyH_take 8 (v := .string (zs k)) rfl (by kernel_rfl) (by kernel_rfl) (by kernel_rfl) rfl (fun W _ => by go_simp) hm ?_
    go_simp
    refine wpAnyH_all (rs := [6]) (by kernel_rfl) (by simp) ?_
    intro i hi
    simp only [List.mem_cons, List.not_mem_nil, or_false] at hi
    subst hi
    refine anyH_opW 6 rfl rfl ?_
    intro K9 hK
    refine wpl_make _ un_bs _ made_u8 rfl v rfl HV.out rfl HV.out (by omega) hm ?_
    clear hm
    intro w3 g3 hm
    rw [zeros_u8] at hm
    refine wpList_nil ?_
    refine hK _ _ hm.tail ?_
    clear hK K9
    refine anyH_more (fun W => Mem w [] W [(g3, u8s (List.replicate v 0), 5), (g2, u8s (List.replicate k 0), 5)]) (fun W h => h.tail) _ _ _ _ ?_
    refine anyH_take 7 (v := .string (zs v)) rfl (by kernel_rfl) (by kernel_rfl) (by kernel_rfl) rfl (fun W hW => exec_tostr un_bs un_u8 un_strT (List.replicate v 0) rfl (old_all (Mem.get hW 0 rfl) (by simp) (Nat.le_refl _))) hm ?_
    go_simp
    refine anyH_take 9 (v := .string (zs v)) rfl (by kernel_rfl) (by kernel_rfl) (by kernel_rfl) rfl (fun W _ => by go_simp) hm ?_
    go_simp
    refine wpAnyH_done (by kernel_rfl) ?_ _
    simp only [endsIn]
    go_wp2_with (first
      | ((with_reducible refine at_op (some 26) (.build 50 #[(0, .tmp 24), (1, .tmp 25)]) ?_); go_must (refine wpl_execG (.agg [.string (zs k), .string (zs v)].toArray) rfl (exec_pairKV (zs k) (zs v) rfl rfl) ?_))
      | ((with_reducible refine at_op (some 27) (.buildSlice 22 1 #[(0, .tmp 26)]) ?_); go_must (refine wpl_bslP (zs k) (zs v) rfl rfl hm ?_); clear hm; intro w5 g5 hm)
      | (go_at_call 10; refine (leaf_any [(zs k, zs v)] _ (by simp) HSZ.out _ (SlV.of_row (hm.get 0 rfl) rfl)).mono ?_; rintro e w6 ⟨b6, he, hs, hb⟩; rw [HLC.out ()] at he; subst he; replace hm := hm.call hb; clear hb hs)
      | ((with_reducible refine at_op (some 33) (.buildSlice 23 1 #[(0, .tmp 32)]) ?_); go_must (refine wpl_bsl1 rfl (.string ByteArray.empty) (.string (zs k)) un_strs info_str rfl rfl rfl hm ?_); clear hm; intro w7 g7 hb7 hm; clear hb7)
      | ((with_reducible refine at_op (some 34) (.buildSlice 24 2 #[(0, .const (.int .u32 0)), (1, .const (.int .u32 1))]) ?_); go_must (refine wpl_bsl2 (.int .u32 0) (.int .u32 0) (.int .u32 1) un_u32s info_u32 rfl rfl rfl rfl rfl hm ?_); clear hm; intro w8 g8 hb8 hm; clear hb8)
      | (go_at_call 12; refine (branch_any [zs k] [0, 1] _ _ (by simp) HKB.out _ (SlV.of_row (hm.get 1 rfl) rfl) (SlV.of_row (hm.get 0 rfl) rfl)).mono ?_; rintro e w9 ⟨b9, he, hs, hb⟩; rw [HBC.out ()] at he; subst he; replace hm := hm.call hb; clear hb hs))
    go_ret
    refine ⟨?_, hm.below⟩
    first | rfl | (simp; omega)
  · refine anyH_opW 6 rfl rfl ?_
    intro K9 hK
    refine wpl_make _ un_bs _ made_u8 rfl v rfl HV.out rfl HV.out (by omega) hm ?_
    clear hm
    intro w2 g2 hm
    rw [zeros_u8] at hm
    refine wpList_nil ?_
    refine hK _ _ hm.tail ?_
    clear hK K9
    refine anyH_more (fun W => Mem w [] W [(g2, u8s (List.replicate v 0), 5)]) (fun W h => h.tail) _ _ _ _ ?_
    refine anyH_take 7 (v := .string (zs v)) rfl (by kernel_rfl) (by kernel_rfl) (by kernel_rfl) rfl (fun W hW => exec_tostr un_bs un_u8 un_strT (List.replicate v 0) rfl (old_all (Mem.get hW 0 rfl) (by simp) (Nat.le_refl _))) hm ?_
    go_simp
    refine wpAnyH_all (rs := [2]) (by kernel_rfl) (by simp) ?_
    intro i hi
    simp only [List.mem_cons, List.not_mem_nil, or_false] at hi
    subst hi
    refine anyH_opW 2 rfl rfl ?_
    intro K9 hK
    refine wpl_make _ un_bs _ made_u8 rfl k rfl HK.out rfl HK.out (by omega) hm ?_
    clear hm
    intro w3 g3 hm
    rw [zeros_u8] at hm
    refine wpList_nil ?_
    refine hK _ _ hm.tail ?_
    clear hK K9
    refine anyH_more (fun W => Mem w [] W [(g3, u8s (List.replicate k 0), 5), (g2, u8s (List.replicate v 0), 5)]) (fun W h => h.tail) _ _ _ _ ?_
    refine anyH_take 3 (v := .string (zs k)) rfl (by kernel_rfl) (by kernel_rfl) (by kernel_rfl) rfl (fun W hW => exec_tostr un_bs un_u8 un_strT (List.replicate k 0) rfl (old_all (Mem.get hW 0 rfl) (by simp) (Nat.le_refl _))) hm ?_
    go_simp
    refine anyH_take 8 (v := .string (zs k)) rfl (by kernel_rfl) (by kernel_rfl) (by kernel_rfl) rfl (fun W _ => by go_simp) hm ?_
    go_simp
    refine anyH_take 9 (v := .string (zs v)) rfl (by kernel_rfl) (by kernel_rfl) (by kernel_rfl) rfl (fun W _ => by go_simp) hm ?_
    go_simp
    refine wpAnyH_done (by kernel_rfl) ?_ _
    simp only [endsIn]
    go_wp2_with (first
      | ((with_reducible refine at_op (some 26) (.build 50 #[(0, .tmp 24), (1, .tmp 25)]) ?_); go_must (refine wpl_execG (.agg [.string (zs k), .string (zs v)].toArray) rfl (exec_pairKV (zs k) (zs v) rfl rfl) ?_))
      | ((with_reducible refine at_op (some 27) (.buildSlice 22 1 #[(0, .tmp 26)]) ?_); go_must (refine wpl_bslP (zs k) (zs v) rfl rfl hm ?_); clear hm; intro w5 g5 hm)
      | (go_at_call 10; refine (leaf_any [(zs k, zs v)] _ (by simp) HSZ.out _ (SlV.of_row (hm.get 0 rfl) rfl)).mono ?_; rintro e w6 ⟨b6, he, hs, hb⟩; rw [HLC.out ()] at he; subst he; replace hm := hm.call hb; clear hb hs)
      | ((with_reducible refine at_op (some 33) (.buildSlice 23 1 #[(0, .tmp 32)]) ?_); go_must (refine wpl_bsl1 rfl (.string ByteArray.empty) (.string (zs k)) un_strs info_str rfl rfl rfl hm ?_); clear hm; intro w7 g7 hb7 hm; clear hb7)
      | ((with_reducible refine at_op (some 34) (.buildSlice 24 2 #[(0, .const (.int .u32 0)), (1, .const (.int .u32 1))]) ?_); go_must (refine wpl_bsl2 (.int .u32 0) (.int .u32 0) (.int .u32 1) un_u32s info_u32 rfl rfl rfl rfl rfl hm ?_); clear hm; intro w8 g8 hb8 hm; clear hb8)
      | (go_at_call 12; refine (branch_any [zs k] [0, 1] _ _ (by simp) HKB.out _ (SlV.of_row (hm.get 1 rfl) rfl) (SlV.of_row (hm.get 0 rfl) rfl)).mono ?_; rintro e w9 ⟨b9, he, hs, hb⟩; rw [HBC.out ()] at he; subst he; replace hm := hm.call hb; clear hb hs))
    go_ret
    refine ⟨?_, hm.below⟩
    first | rfl | (simp; omega)
set_option maxHeartbeats 4000000 in
set_option maxRecDepth 100000 in
theorem bounds_long (K V : Int) (k v : Nat) (hk : K = (k : Int)) (hv : V = (v : Int)) (hk0 : 0 ≤ K) (hk1 : K < 256) (hv0 : 0 ≤ V) (hv1 : V < 256) (h : 1 ≤ K) (h2 : K ≤ 60) (h3 : 150 < V) (hl : leafCode [(zs k, zs v)] = 90) (hbr : branchCode [zs k] ([0, 1] : List Int).length = 0) (w : World) :
    Calls Try.prog 6 #[.int .u8 K, .int .u8 V] w fun e w' => e = .returned (.bool true) ∧ Below w.heap.size w w' := by
  have HK : Hid (K = (k : Int)) := hk
  have HV : Hid (V = (v : Int)) := hv
  have HWK : IntKind.i64.wrap K = K := wrapi K hk0 (by omega)
  have HWV : IntKind.i64.wrap V = V := wrapi V hv0 (by omega)
  have hkl : k ≤ 256 := by omega
  have hvl : v ≤ 256 := by omega
  have HLC : Hid (∀ _ : Unit, leafCode [(zs k, zs v)] = 90) := fun _ => hl
  have HBC : Hid (∀ _ : Unit, branchCode [zs k] ([0, 1] : List Int).length = 0) := fun _ => hbr
  have HSZ : Hid (∀ p ∈ [(zs k, zs v)], p.1.size ≤ 1152921504606846976 ∧ p.2.size ≤ 1152921504606846976) := by
    intro p hp
    simp only [List.mem_cons, List.not_mem_nil, or_false] at hp
    subst hp
    rw [zs_size, zs_size]; omega
  have HKB : Hid (∀ x ∈ ([0, 1] : List Int), 0 ≤ x ∧ x < 4294967296) := by
    intro x hx
    simp only [List.mem_cons, List.not_mem_nil, or_false] at hx
    rcases hx with rfl | rfl <;> omega
  have hm := Mem.start w
  clear hk hv hl hbr
  go_enter Try.func6, Try.ntmps6
  go_wp2_with (first
    | (go_at_call 9; refine (known_any _).mono ?_; rintro e wk ⟨rfl, hb⟩; replace hm := hm.call hb; clear hb))
  refine wp_ends0 ?_
  refine anyH_start (T := fun W => Mem w [] W []) (by kernel_rfl) hm ?_
  clear hm
  intro w1 hm
  refine anyH_take 0 (v := .int .u8 K) rfl (by kernel_rfl) (by kernel_rfl) (by kernel_rfl) rfl (fun W _ => by go_simp) hm ?_
  go_simp
  refine anyH_take 1 (v := .int .i64 K) rfl (by kernel_rfl) (by kernel_rfl) (by kernel_rfl) rfl (fun W _ => by go_simp) hm ?_
  go_simp
  refine anyH_take 4 (v := .int .u8 V) rfl (by kernel_rfl) (by kernel_rfl) (by kernel_rfl) rfl (fun W _ => by go_simp) hm ?_
  go_simp
  refine anyH_take 5 (v := .int .i64 V) rfl (by kernel_rfl) (by kernel_rfl) (by kernel_rfl) rfl (fun W _ => by go_simp) hm ?_
  go_simp
  refine wpAnyH_all (rs := [2, 6]) (by kernel_rfl) (by simp) ?_
  intro i hi
  simp only [List.mem_cons, List.not_mem_nil, or_false] at hi
  rcases hi with rfl | rfl
  · refine anyH_opW 2 rfl rfl ?_
    intro K9 hK
    refine wpl_make _ un_bs _ made_u8 rfl k rfl HK.out rfl HK.out (by omega) hm ?_
    clear hm
    intro w2 g2 hm
    rw [zeros_u8] at hm
    refine wpList_nil ?_
    refine hK _ _ hm.tail ?_
    clear hK K9
    refine anyH_more (fun W => Mem w [] W [(g2, u8s (List.replicate k 0), 5)]) (fun W h => h.tail) _ _ _ _ ?_
    refine anyH_take 3 (v := .string (zs k)) rfl (by kernel_rfl) (by kernel_rfl) (by kernel_rfl) rfl (fun W hW => exec_tostr un_bs un_u8 un_strT (List.replicate k 0) rfl (old_all (Mem.get hW 0 rfl) (by simp) (Nat.le_refl _))) hm ?_
    go_simp
    refine anyH_take 8 (v := .string (zs k)) rfl (by kernel_rfl) (by kernel_rfl) (by kernel_rfl) rfl (fun W _ => by go_simp) hm ?_
    go_simp
    refine wpAnyH_all (rs := [6]) (by kernel_rfl) (by simp) ?_
    intro i hi
    simp only [List.mem_cons, List.not_mem_nil, or_false] at hi
    subst hi
    refine anyH_opW 6 rfl rfl ?_
    intro K9 hK
    refine wpl_make _ un_bs _ made_u8 rfl v rfl HV.out rfl HV.out (by omega) hm ?_
    clear hm
    intro w3 g3 hm
    rw [zeros_u8] at hm
    refine wpList_nil ?_
    refine hK _ _ hm.tail ?_
    clear hK K9
    refine anyH_more (fun W => Mem w [] W [(g3, u8s (List.replicate v 0), 5), (g2, u8s (List.replicate k 0), 5)]) (fun W h => h.tail) _ _ _ _ ?_
    refine anyH_take 7 (v := .string (zs v)) rfl (by kernel_rfl) (by kernel_rfl) (by kernel_rfl) rfl (fun W hW => exec_tostr un_bs un_u8 un_strT (List.replicate v 0) rfl (old_all (Mem.get hW 0 rfl) (by simp) (Nat.le_refl _))) hm ?_
    go_simp
    refine anyH_take 9 (v := .string (zs v)) rfl (by kernel_rfl) (by kernel_rfl) (by kernel_rfl) rfl (fun W _ => by go_simp) hm ?_
    go_simp
    refine wpAnyH_done (by kernel_rfl) ?_ _
    simp only [endsIn]
    go_wp2_with (first
      | ((with_reducible refine at_op (some 26) (.build 50 #[(0, .tmp 24), (1, .tmp 25)]) ?_); go_must (refine wpl_execG (.agg [.string (zs k), .string (zs v)].toArray) rfl (exec_pairKV (zs k) (zs v) rfl rfl) ?_))
      | ((with_reducible refine at_op (some 27) (.buildSlice 22 1 #[(0, .tmp 26)]) ?_); go_must (refine wpl_bslP (zs k) (zs v) rfl rfl hm ?_); clear hm; intro w5 g5 hm)
      | (go_at_call 10; refine (leaf_any [(zs k, zs v)] _ (by simp) HSZ.out _ (SlV.of_row (hm.get 0 rfl) rfl)).mono ?_; rintro e w6 ⟨b6, he, hs, hb⟩; rw [HLC.out ()] at he; subst he; replace hm := hm.call hb; clear hb hs)
      | ((with_reducible refine at_op (some 33) (.buildSlice 23 1 #[(0, .tmp 32)]) ?_); go_must (refine wpl_bsl1 rfl (.string ByteArray.empty) (.string (zs k)) un_strs info_str rfl rfl rfl hm ?_); clear hm; intro w7 g7 hb7 hm; clear hb7)
      | ((with_reducible refine at_op (some 34) (.buildSlice 24 2 #[(0, .const (.int .u32 0)), (1, .const (.int .u32 1))]) ?_); go_must (refine wpl_bsl2 (.int .u32 0) (.int .u32 0) (.int .u32 1) un_u32s info_u32 rfl rfl rfl rfl rfl hm ?_); clear hm; intro w8 g8 hb8 hm; clear hb8)
      | (go_at_call 12; refine (branch_any [zs k] [0, 1] _ _ (by simp) HKB.out _ (SlV.of_row (hm.get 1 rfl) rfl) (SlV.of_row (hm.get 0 rfl) rfl)).mono ?_; rintro e w9 ⟨b9, he, hs, hb⟩; rw [HBC.out ()] at he; subst he; replace hm := hm.call hb; clear hb hs))
    go_ret
    refine ⟨?_, hm.below⟩
    first | rfl | (simp; omega)
  · refine anyH_opW 6 rfl rfl ?_
    intro K9 hK
    refine wpl_make _ un_bs _ made_u8 rfl v rfl HV.out rfl HV.out (by omega) hm ?_
    clear hm
    intro w2 g2 hm
    rw [zeros_u8] at hm
    refine wpList_nil ?_
    refine hK _ _ hm.tail ?_
    clear hK K9
    refine anyH_more (fun W => Mem w [] W [(g2, u8s (List.replicate v 0), 5)]) (fun W h => h.tail) _ _ _ _ ?_
    refine anyH_take 7 (v := .string (zs v)) rfl (by kernel_rfl) (by kernel_rfl) (by kernel_rfl) rfl (fun W hW => exec_tostr un_bs un_u8 un_strT (List.replicate v 0) rfl (old_all (Mem.get hW 0 rfl) (by simp) (Nat.le_refl _))) hm ?_
    go_simp
    refine wpAnyH_all (rs := [2]) (by kernel_rfl) (by simp) ?_
    intro i hi
    simp only [List.mem_cons, List.not_mem_nil, or_false] at hi
    subst hi
    refine anyH_opW 2 rfl rfl ?_
    intro K9 hK
    refine wpl_make _ un_bs _ made_u8 rfl k rfl HK.out rfl HK.out (by omega) hm ?_
    clear hm
    intro w3 g3 hm
    rw [zeros_u8] at hm
    refine wpList_nil ?_
    refine hK _ _ hm.tail ?_
    clear hK K9
    refine anyH_more (fun W => Mem w [] W [(g3, u8s (List.replicate k 0), 5), (g2, u8s (List.replicate v 0), 5)]) (fun W h => h.tail) _ _ _ _ ?_
    refine anyH_take 3 (v := .string (zs k)) rfl (by kernel_rfl) (by kernel_rfl) (by kernel_rfl) rfl (fun W hW => exec_tostr un_bs un_u8 un_strT (List.replicate k 0) rfl (old_all (Mem.get hW 0 rfl) (by simp) (Nat.le_refl _))) hm ?_
    go_simp
    refine anyH_take 8 (v := .string (zs k)) rfl (by kernel_rfl) (by kernel_rfl) (by kernel_rfl) rfl (fun W _ => by go_simp) hm ?_
    go_simp
    refine anyH_take 9 (v := .string (zs v)) rfl (by kernel_rfl) (by kernel_rfl) (by kernel_rfl) rfl (fun W _ => by go_simp) hm ?_
    go_simp
    refine wpAnyH_done (by kernel_rfl) ?_ _
    simp only [endsIn]
    go_wp2_with (first
      | ((with_reducible refine at_op (some 26) (.build 50 #[(0, .tmp 24), (1, .tmp 25)]) ?_); go_must (refine wpl_execG (.agg [.string (zs k), .string (zs v)].toArray) rfl (exec_pairKV (zs k) (zs v) rfl rfl) ?_))
      | ((with_reducible refine at_op (some 27) (.buildSlice 22 1 #[(0, .tmp 26)]) ?_); go_must (refine wpl_bslP (zs k) (zs v) rfl rfl hm ?_); clear hm; intro w5 g5 hm)
      | (go_at_call 10; refine (leaf_any [(zs k, zs v)] _ (by simp) HSZ.out _ (SlV.of_row (hm.get 0 rfl) rfl)).mono ?_; rintro e w6 ⟨b6, he, hs, hb⟩; rw [HLC.out ()] at he; subst he; replace hm := hm.call hb; clear hb hs)
      | ((with_reducible refine at_op (some 33) (.buildSlice 23 1 #[(0, .tmp 32)]) ?_); go_must (refine wpl_bsl1 rfl (.string ByteArray.empty) (.string (zs k)) un_strs info_str rfl rfl rfl hm ?_); clear hm; intro w7 g7 hb7 hm; clear hb7)
      | ((with_reducible refine at_op (some 34) (.buildSlice 24 2 #[(0, .const (.int .u32 0)), (1, .const (.int .u32 1))]) ?_); go_must (refine wpl_bsl2 (.int .u32 0) (.int .u32 0) (.int .u32 1) un_u32s info_u32 rfl rfl rfl rfl rfl hm ?_); clear hm; intro w8 g8 hb8 hm; clear hb8)
      | (go_at_call 12; refine (branch_any [zs k] [0, 1] _ _ (by simp) HKB.out _ (SlV.of_row (hm.get 1 rfl) rfl) (SlV.of_row (hm.get 0 rfl) rfl)).mono ?_; rintro e w9 ⟨b9, he, hs, hb⟩; rw [HBC.out ()] at he; subst he; replace hm := hm.call hb; clear hb hs))
    go_ret
    refine ⟨?_, hm.below⟩
    first | rfl | (simp; omega)
set_option maxRecDepth 100000 in
theorem nodeBounds_walk (K V : Int) (hk : 0 ≤ K ∧ K < 256) (hv : 0 ≤ V ∧ V < 256) (w : World) :
    Calls Try.prog 6 #[.int .u8 K, .int .u8 V] w fun e w' => e = .returned (.bool true) ∧ Below w.heap.size w w' := by
  obtain ⟨k, rfl⟩ := Int.eq_ofNat_of_zero_le hk.1
  obtain ⟨v, rfl⟩ := Int.eq_ofNat_of_zero_le hv.1
  have hl := bounds_leaf k v
  have hb := bounds_branch k
  by_cases h1 : 1 ≤ k
  · by_cases h2 : k ≤ 60
    · rw [if_pos ⟨h1, h2⟩] at hb
      by_cases h3 : v ≤ 150
      · rw [if_pos ⟨⟨h1, h2⟩, h3⟩] at hl
        exact bounds_good _ _ k v rfl rfl hk.1 hk.2 hv.1 hv.2 (by omega) (by omega) (by omega) hl hb w
      · rw [if_neg (fun h => h3 h.2)] at hl
        exact bounds_long _ _ k v rfl rfl hk.1 hk.2 hv.1 hv.2 (by omega) (by omega) (by omega) hl hb w
    · rw [if_neg (fun h => h2 h.2)] at hb
      rw [if_neg (fun h => h2 h.1.2)] at hl
      exact bounds_much _ _ k v rfl rfl hk.1 hk.2 hv.1 hv.2 (by omega) hl hb w
  · rw [if_neg (fun h => h1 h.1)] at hb
    rw [if_neg (fun h => h1 h.1.1)] at hl
    exact bounds_none _ _ k v rfl rfl hk.1 hk.2 hv.1 hv.2 (by omega) hl hb w
end Go.Proofs.Ytcfmpidibbbehaa
