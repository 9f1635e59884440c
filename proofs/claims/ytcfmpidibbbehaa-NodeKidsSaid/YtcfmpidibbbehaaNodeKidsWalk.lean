/- The walk of the law NodeKids. -/
import Derived.Test.YtcfmpidibbbehaaNdRise
namespace Go.Proofs.Ytcfmpidibbbehaa
open Go Go.RowKit
def keyN (r j : Nat) : ByteArray := strOf (107 :: (j : Int) :: List.replicate r 0)
set_option maxRecDepth 100000 in
theorem keyN_size (r j : Nat) : (keyN r j).size = 2 + r := by rw [keyN, strOf_size]; simp; omega
set_option maxRecDepth 100000 in
theorem keysN_ok (r n : Nat) (hr : r ≤ 9) (hn : n ≤ 60) : okKeys ((List.range n).map (keyN r)) n = true :=
  okKeys_range (keyN r) n n (Nat.le_refl _) (fun j _ => by rw [fitK, keyN_size]; simp; omega) (fun j hj => less_second 107 _ _ (by omega) (by omega))
set_option maxRecDepth 100000 in
theorem keysN_size (r n m : Nat) : szB ((List.range n).map (keyN r)) m = 3 + 4 * m + n * (4 + r) := by
  unfold szB ksz
  rw [sum_const (fun k => 2 + k.size) (keyN r) n (4 + r) (fun j => by rw [keyN_size]; omega)]
set_option maxRecDepth 100000 in
theorem keysN_code (r m : Nat) (hr : r ≤ 9) (hm : 2 ≤ m) (hm2 : m ≤ 60) : branchCode ((List.range (m - 1)).map (keyN r)) m = if 480 < 3 + 4 * m + (m - 1) * (4 + r) then 11 else 0 := by
  have hok : okBr ((List.range (m - 1)).map (keyN r)) m = true := by
    unfold okBr
    rw [List.length_map, List.length_range, keysN_ok r (m - 1) hr (by omega), decide_eq_true (by omega), decide_eq_true (by omega)]
    rfl
  rw [branchCode, if_neg (by rw [hok]; simp), keysN_size]
set_option maxHeartbeats 1000000 in
set_option maxRecDepth 100000 in
theorem kids_out_a (N : Int) (q : Option Addr) (m d : Nat) (h : m < 2) (w : World) :
    Calls Try.prog 8 #[.int .u8 N, .slice q m d] w fun e w' => e = .returned (.bool true) ∧ Below w.heap.size w w' := by
  have hm := Mem.start w
  have i1 : (m : Int) < 2 := by omega
  go_enter Try.func8, Try.ntmps8
  go_wp2_with (first
    | (go_at_call 9; refine (known_any _).mono ?_; rintro e wk ⟨rfl, hb⟩; replace hm := hm.call hb; clear hb))
  go_ret
  exact ⟨rfl, hm.below⟩
set_option maxHeartbeats 1000000 in
set_option maxRecDepth 100000 in
theorem kids_out_b (N : Int) (q : Option Addr) (m d : Nat) (h : 60 < m) (w : World) :
    Calls Try.prog 8 #[.int .u8 N, .slice q m d] w fun e w' => e = .returned (.bool true) ∧ Below w.heap.size w w' := by
  have hm := Mem.start w
  have i1 : ¬ (m : Int) < 2 := by omega
  have i2 : (m : Int) > 60 := by omega
  go_enter Try.func8, Try.ntmps8
  go_wp2_with (first
    | (go_at_call 9; refine (known_any _).mono ?_; rintro e wk ⟨rfl, hb⟩; replace hm := hm.call hb; clear hb))
  go_ret
  exact ⟨rfl, hm.below⟩
set_option maxHeartbeats 6000000 in
set_option maxRecDepth 100000 in
theorem kids_go (N : Int) (r : Nat) (q : Option Addr) (m d : Nat) (kids : List Int) (hN : 0 ≤ N ∧ N < 256) (hr : N % 10 = (r : Int)) (hm1 : 2 ≤ m) (hm2 : m ≤ 60) (hkl : kids.length = m) (kb : ∀ x ∈ kids, 0 ≤ x ∧ x < 4294967296) (w : World) (vi : SlU w (.slice q m d) kids) :
    Calls Try.prog 8 #[.int .u8 N, .slice q m d] w fun e w' => e = .returned (.bool true) ∧ Below w.heap.size w w' := by
  have hm := Mem.start w
  have hr9 : r ≤ 9 := by omega
  have HRT : N.tmod 10 = (r : Int) := by rw [Int.tmod_eq_emod_of_nonneg hN.1]; exact hr
  have hN0 := hN.1
  have hN1 := hN.2
  have HWR : IntKind.i64.wrap (r : Int) = (r : Int) := wrap_nat r (by omega)
  have i1 : ¬ (m : Int) < 2 := by omega
  have i2 : ¬ (m : Int) > 60 := by omega
  have HVI : Hid (SlU w (.slice q m d) kids) := vi
  have HKL : Hid (kids.length = m) := hkl
  have HKB : Hid (∀ x ∈ kids, 0 ≤ x ∧ x < 4294967296) := kb
  have HCO : Hid (branchCode ((List.range (m - 1)).map (keyN r)) m = if 480 < 3 + 4 * m + (m - 1) * (4 + r) then 11 else 0) := keysN_code r m hr9 hm1 hm2
  have HSB : Hid (szB ((List.range (m - 1)).map (keyN r)) m = 3 + 4 * m + (m - 1) * (4 + r)) := keysN_size r (m - 1) m
  clear vi hkl kb hN
  go_enter Try.func8, Try.ntmps8
  go_wp2_with (first
    | (go_at_call 9; refine (known_any _).mono ?_; rintro e wk ⟨rfl, hb⟩; replace hm := hm.call hb; clear hb))
  have HWK : Hid (Below w.heap.size w wk) := hm.below
  clear hm
  go_loopw [5, 6] (fun vk vi wr => ∃ i : Nat, i ≤ m - 1 ∧ vi = .int .i64 (i : Int) ∧ Hid (wr.ownsRow w.heap.size 9 1 vk i (strs ((List.range i).map (keyN r)))) ∧ Hid (Below w.heap.size w wr)) (fun _ vi _ => m - 1 - (intOf vi).toNat)
  case atStart => exact ⟨0, by omega, rfl, World.ownsRow_nil _ _ _ _, HWK.out⟩
  case round =>
    clear HWK
    obtain ⟨i, hi, rfl, HO, HW⟩ := hrel
    obtain ⟨pk, ck, hvk, _⟩ := SlV.len (own_sl HO.out)
    subst hvk
    by_cases hlt : i < m - 1
    · have hki : (i : Int) < (m : Int) - 1 := by omega
      have HWB : IntKind.u8.wrap (i : Int) = (i : Int) := wrapb _ (by omega) (by omega)
      have hm := Mem.start wr
      go_wp2_with fail
      refine wp_ends0 ?_
      refine anyH_start (T := fun W => Below w.heap.size w W) (by kernel_rfl) hm ?_
      clear hm
      intro wq hm
      refine anyH_take 0 (v := .slice pk i ck) rfl (by kernel_rfl) (by kernel_rfl) (by kernel_rfl) rfl (fun W _ => by go_simp) (below_next HW.out HW.out.size hm.below) ?_
      go_simp
      refine anyH_take 1 (v := .int .i64 (i : Int)) rfl (by kernel_rfl) (by kernel_rfl) (by kernel_rfl) rfl (fun W _ => by go_simp) (below_next HW.out HW.out.size hm.below) ?_
      go_simp
      refine anyH_take 2 (v := .int .u8 (i : Int)) rfl (by kernel_rfl) (by kernel_rfl) (by kernel_rfl) rfl (fun W _ => by go_simp) (below_next HW.out HW.out.size hm.below) ?_
      go_simp
      refine anyH_take 5 (v := .int .u8 N) rfl (by kernel_rfl) (by kernel_rfl) (by kernel_rfl) rfl (fun W _ => by go_simp) (below_next HW.out HW.out.size hm.below) ?_
      go_simp
      refine anyH_take 6 (v := .int .u8 (r : Int)) rfl (by kernel_rfl) (by kernel_rfl) (by kernel_rfl) rfl (fun W _ => by go_simp) (below_next HW.out HW.out.size hm.below) ?_
      go_simp
      refine anyH_take 7 (v := .int .i64 (r : Int)) rfl (by kernel_rfl) (by kernel_rfl) (by kernel_rfl) rfl (fun W _ => by go_simp) (below_next HW.out HW.out.size hm.below) ?_
      go_simp
      refine wpAnyH_all (rs := [3, 8]) (by kernel_rfl) (by simp) ?_
      intro i9 hi9
      simp only [List.mem_cons, List.not_mem_nil, or_false] at hi9
      rcases hi9 with rfl | rfl
      · refine anyH_opW 3 rfl rfl ?_
        intro K hK
        refine wpl_bsl2 (.int .u8 0) (.int .u8 107) (.int .u8 (i : Int)) un_bs info_u8 rfl rfl rfl rfl rfl hm ?_
        clear hm
        intro wa g3 hb9 hm
        clear hb9
        refine wpList_nil ?_
        refine hK _ _ (below_next HW.out HW.out.size hm.below) ?_
        clear hK K
        go_simp
        refine wpAnyH_all (rs := [4, 8]) (by kernel_rfl) (by simp) ?_
        intro i9 hi9
        simp only [List.mem_cons, List.not_mem_nil, or_false] at hi9
        rcases hi9 with rfl | rfl
        · refine anyH_opW 4 rfl rfl ?_
          intro K hK
          refine wpl_execG (.string (strOf [107, (i : Int)])) rfl (exec_tostr un_bs un_u8 un_strT [107, (i : Int)] rfl (old_all (hm.get 0 rfl) rfl (Nat.le_refl _))) ?_
          refine wpList_nil ?_
          refine hK _ _ (below_next HW.out HW.out.size hm.below) ?_
          clear hK K
          go_simp
          refine wpAnyH_all (rs := [8]) (by kernel_rfl) (by simp) ?_
          intro i9 hi9
          simp only [List.mem_cons, List.not_mem_nil, or_false] at hi9
          subst hi9
          refine anyH_opW 8 rfl rfl ?_
          intro K hK
          refine wpl_make _ un_bs _ made_u8 rfl r rfl rfl rfl rfl (by omega) hm ?_
          clear hm
          intro wb g8 hm
          rw [zeros_u8] at hm
          refine wpList_nil ?_
          refine hK _ _ (below_next HW.out HW.out.size hm.below) ?_
          clear hK K
          go_simp
          refine wpAnyH_all (rs := [9]) (by kernel_rfl) (by simp) ?_
          intro i9 hi9
          simp only [List.mem_cons, List.not_mem_nil, or_false] at hi9
          subst hi9
          refine anyH_opW 9 rfl rfl ?_
          intro K hK
          refine wpl_execG (.string (strOf (List.replicate r 0))) rfl (exec_tostr un_bs un_u8 un_strT (List.replicate r 0) rfl (old_all (hm.get 0 rfl) (by simp) (Nat.le_refl _))) ?_
          refine wpList_nil ?_
          refine hK _ _ (below_next HW.out HW.out.size hm.below) ?_
          clear hK K
          go_simp
          refine anyH_take 10 (v := .string (keyN r i)) rfl (by kernel_rfl) (by kernel_rfl) (by kernel_rfl) rfl (fun W _ => exec_adds [107, (i : Int)] (List.replicate r 0) rfl rfl (by simp; omega)) (below_next HW.out HW.out.size hm.below) ?_
          go_simp
          refine wpAnyH_all (rs := [11]) (by kernel_rfl) (by simp) ?_
          intro i hi
          simp only [List.mem_cons, List.not_mem_nil, or_false] at hi
          subst hi
          refine anyH_opW 11 rfl rfl ?_
          intro K hK
          refine wpl_bsl1 rfl (.string ByteArray.empty) (.string (keyN r i)) un_strs info_str rfl rfl rfl hm ?_
          clear hm
          intro wx gx hb9 hm
          clear hb9
          refine wpList_nil ?_
          refine hK _ _ (below_next HW.out HW.out.size hm.below) ?_
          clear hK K
          refine wpAnyH_all (rs := [12]) (by kernel_rfl) (by simp) ?_
          intro i hi
          simp only [List.mem_cons, List.not_mem_nil, or_false] at hi
          subst hi
          refine anyH_opW 12 rfl rfl ?_
          intro K hK
          refine wpl_appV (.string ByteArray.empty) 1 16 rfl un_strs made_str rfl (by omega) (by omega) (own_below HO.out hm.below) (Nat.le_trans HW.out.size hm.size) rfl rfl (hm.get 0 rfl) rfl (by simp [Value.oneCell']) (by omega) ?_
          intro v9 w9 ho9 hg9 hl9
          have HO9 : Hid (w9.ownsRow w.heap.size 9 1 v9 (i + 1) (strs ((List.range (i + 1)).map (keyN r)))) := by
            show World.ownsRow _ _ _ _ _ _ _
            rw [range_snoc]
            unfold strs
            rw [List.map_append]
            exact ho9
          have HW9 : Hid (Below w.heap.size w w9) := below_grown (below_next HW.out HW.out.size hm.below) (Nat.le_trans HW.out.size hm.size) (own_below HO.out hm.below) hg9
          clear ho9 hg9 hl9 hm
          refine wpList_nil ?_
          refine hK _ _ HW9.out ?_
          clear hK K
          refine anyH_take 13 (v := v9) rfl (by kernel_rfl) (by kernel_rfl) (by kernel_rfl) rfl (fun W _ => by go_simp) HW9.out ?_
          go_simp
          refine wpAnyH_done (by kernel_rfl) ?_ _
          simp only [endsIn]
          go_wp2_with fail
          go_roundw
          case rel => exact ⟨i + 1, by omega, by go_num, HO9.out, HW9.out⟩
          case measure => simp [intOf]; omega
        · refine anyH_opW 8 rfl rfl ?_
          intro K hK
          refine wpl_make _ un_bs _ made_u8 rfl r rfl rfl rfl rfl (by omega) hm ?_
          clear hm
          intro wb g8 hm
          rw [zeros_u8] at hm
          refine wpList_nil ?_
          refine hK _ _ (below_next HW.out HW.out.size hm.below) ?_
          clear hK K
          go_simp
          refine wpAnyH_all (rs := [4, 9]) (by kernel_rfl) (by simp) ?_
          intro i9 hi9
          simp only [List.mem_cons, List.not_mem_nil, or_false] at hi9
          rcases hi9 with rfl | rfl
          · refine anyH_opW 4 rfl rfl ?_
            intro K hK
            refine wpl_execG (.string (strOf [107, (i : Int)])) rfl (exec_tostr un_bs un_u8 un_strT [107, (i : Int)] rfl (old_all (hm.get 1 rfl) rfl (Nat.le_refl _))) ?_
            refine wpList_nil ?_
            refine hK _ _ (below_next HW.out HW.out.size hm.below) ?_
            clear hK K
            go_simp
            refine wpAnyH_all (rs := [9]) (by kernel_rfl) (by simp) ?_
            intro i9 hi9
            simp only [List.mem_cons, List.not_mem_nil, or_false] at hi9
            subst hi9
            refine anyH_opW 9 rfl rfl ?_
            intro K hK
            refine wpl_execG (.string (strOf (List.replicate r 0))) rfl (exec_tostr un_bs un_u8 un_strT (List.replicate r 0) rfl (old_all (hm.get 0 rfl) (by simp) (Nat.le_refl _))) ?_
            refine wpList_nil ?_
            refine hK _ _ (below_next HW.out HW.out.size hm.below) ?_
            clear hK K
            go_simp
            refine anyH_take 10 (v := .string (keyN r i)) rfl (by kernel_rfl) (by kernel_rfl) (by kernel_rfl) rfl (fun W _ => exec_adds [107, (i : Int)] (List.replicate r 0) rfl rfl (by simp; omega)) (below_next HW.out HW.out.size hm.below) ?_
            go_simp
            refine wpAnyH_all (rs := [11]) (by kernel_rfl) (by simp) ?_
            intro i hi
            simp only [List.mem_cons, List.not_mem_nil, or_false] at hi
            subst hi
            refine anyH_opW 11 rfl rfl ?_
            intro K hK
            refine wpl_bsl1 rfl (.string ByteArray.empty) (.string (keyN r i)) un_strs info_str rfl rfl rfl hm ?_
            clear hm
            intro wx gx hb9 hm
            clear hb9
            refine wpList_nil ?_
            refine hK _ _ (below_next HW.out HW.out.size hm.below) ?_
            clear hK K
            refine wpAnyH_all (rs := [12]) (by kernel_rfl) (by simp) ?_
            intro i hi
            simp only [List.mem_cons, List.not_mem_nil, or_false] at hi
            subst hi
            refine anyH_opW 12 rfl rfl ?_
            intro K hK
            refine wpl_appV (.string ByteArray.empty) 1 16 rfl un_strs made_str rfl (by omega) (by omega) (own_below HO.out hm.below) (Nat.le_trans HW.out.size hm.size) rfl rfl (hm.get 0 rfl) rfl (by simp [Value.oneCell']) (by omega) ?_
            intro v9 w9 ho9 hg9 hl9
            have HO9 : Hid (w9.ownsRow w.heap.size 9 1 v9 (i + 1) (strs ((List.range (i + 1)).map (keyN r)))) := by
              show World.ownsRow _ _ _ _ _ _ _
              rw [range_snoc]
              unfold strs
              rw [List.map_append]
              exact ho9
            have HW9 : Hid (Below w.heap.size w w9) := below_grown (below_next HW.out HW.out.size hm.below) (Nat.le_trans HW.out.size hm.size) (own_below HO.out hm.below) hg9
            clear ho9 hg9 hl9 hm
            refine wpList_nil ?_
            refine hK _ _ HW9.out ?_
            clear hK K
            refine anyH_take 13 (v := v9) rfl (by kernel_rfl) (by kernel_rfl) (by kernel_rfl) rfl (fun W _ => by go_simp) HW9.out ?_
            go_simp
            refine wpAnyH_done (by kernel_rfl) ?_ _
            simp only [endsIn]
            go_wp2_with fail
            go_roundw
            case rel => exact ⟨i + 1, by omega, by go_num, HO9.out, HW9.out⟩
            case measure => simp [intOf]; omega
          · refine anyH_opW 9 rfl rfl ?_
            intro K hK
            refine wpl_execG (.string (strOf (List.replicate r 0))) rfl (exec_tostr un_bs un_u8 un_strT (List.replicate r 0) rfl (old_all (hm.get 0 rfl) (by simp) (Nat.le_refl _))) ?_
            refine wpList_nil ?_
            refine hK _ _ (below_next HW.out HW.out.size hm.below) ?_
            clear hK K
            go_simp
            refine wpAnyH_all (rs := [4]) (by kernel_rfl) (by simp) ?_
            intro i9 hi9
            simp only [List.mem_cons, List.not_mem_nil, or_false] at hi9
            subst hi9
            refine anyH_opW 4 rfl rfl ?_
            intro K hK
            refine wpl_execG (.string (strOf [107, (i : Int)])) rfl (exec_tostr un_bs un_u8 un_strT [107, (i : Int)] rfl (old_all (hm.get 1 rfl) rfl (Nat.le_refl _))) ?_
            refine wpList_nil ?_
            refine hK _ _ (below_next HW.out HW.out.size hm.below) ?_
            clear hK K
            go_simp
            refine anyH_take 10 (v := .string (keyN r i)) rfl (by kernel_rfl) (by kernel_rfl) (by kernel_rfl) rfl (fun W _ => exec_adds [107, (i : Int)] (List.replicate r 0) rfl rfl (by simp; omega)) (below_next HW.out HW.out.size hm.below) ?_
            go_simp
            refine wpAnyH_all (rs := [11]) (by kernel_rfl) (by simp) ?_
            intro i hi
            simp only [List.mem_cons, List.not_mem_nil, or_false] at hi
            subst hi
            refine anyH_opW 11 rfl rfl ?_
            intro K hK
            refine wpl_bsl1 rfl (.string ByteArray.empty) (.string (keyN r i)) un_strs info_str rfl rfl rfl hm ?_
            clear hm
            intro wx gx hb9 hm
            clear hb9
            refine wpList_nil ?_
            refine hK _ _ (below_next HW.out HW.out.size hm.below) ?_
            clear hK K
            refine wpAnyH_all (rs := [12]) (by kernel_rfl) (by simp) ?_
            intro i hi
            simp only [List.mem_cons, List.not_mem_nil, or_false] at hi
            subst hi
            refine anyH_opW 12 rfl rfl ?_
            intro K hK
            refine wpl_appV (.string ByteArray.empty) 1 16 rfl un_strs made_str rfl (by omega) (by omega) (own_below HO.out hm.below) (Nat.le_trans HW.out.size hm.size) rfl rfl (hm.get 0 rfl) rfl (by simp [Value.oneCell']) (by omega) ?_
            intro v9 w9 ho9 hg9 hl9
            have HO9 : Hid (w9.ownsRow w.heap.size 9 1 v9 (i + 1) (strs ((List.range (i + 1)).map (keyN r)))) := by
              show World.ownsRow _ _ _ _ _ _ _
              rw [range_snoc]
              unfold strs
              rw [List.map_append]
              exact ho9
            have HW9 : Hid (Below w.heap.size w w9) := below_grown (below_next HW.out HW.out.size hm.below) (Nat.le_trans HW.out.size hm.size) (own_below HO.out hm.below) hg9
            clear ho9 hg9 hl9 hm
            refine wpList_nil ?_
            refine hK _ _ HW9.out ?_
            clear hK K
            refine anyH_take 13 (v := v9) rfl (by kernel_rfl) (by kernel_rfl) (by kernel_rfl) rfl (fun W _ => by go_simp) HW9.out ?_
            go_simp
            refine wpAnyH_done (by kernel_rfl) ?_ _
            simp only [endsIn]
            go_wp2_with fail
            go_roundw
            case rel => exact ⟨i + 1, by omega, by go_num, HO9.out, HW9.out⟩
            case measure => simp [intOf]; omega
      · refine anyH_opW 8 rfl rfl ?_
        intro K hK
        refine wpl_make _ un_bs _ made_u8 rfl r rfl rfl rfl rfl (by omega) hm ?_
        clear hm
        intro wb g8 hm
        rw [zeros_u8] at hm
        refine wpList_nil ?_
        refine hK _ _ (below_next HW.out HW.out.size hm.below) ?_
        clear hK K
        go_simp
        refine wpAnyH_all (rs := [3, 9]) (by kernel_rfl) (by simp) ?_
        intro i9 hi9
        simp only [List.mem_cons, List.not_mem_nil, or_false] at hi9
        rcases hi9 with rfl | rfl
        · refine anyH_opW 3 rfl rfl ?_
          intro K hK
          refine wpl_bsl2 (.int .u8 0) (.int .u8 107) (.int .u8 (i : Int)) un_bs info_u8 rfl rfl rfl rfl rfl hm ?_
          clear hm
          intro wa g3 hb9 hm
          clear hb9
          refine wpList_nil ?_
          refine hK _ _ (below_next HW.out HW.out.size hm.below) ?_
          clear hK K
          go_simp
          refine wpAnyH_all (rs := [4, 9]) (by kernel_rfl) (by simp) ?_
          intro i9 hi9
          simp only [List.mem_cons, List.not_mem_nil, or_false] at hi9
          rcases hi9 with rfl | rfl
          · refine anyH_opW 4 rfl rfl ?_
            intro K hK
            refine wpl_execG (.string (strOf [107, (i : Int)])) rfl (exec_tostr un_bs un_u8 un_strT [107, (i : Int)] rfl (old_all (hm.get 0 rfl) rfl (Nat.le_refl _))) ?_
            refine wpList_nil ?_
            refine hK _ _ (below_next HW.out HW.out.size hm.below) ?_
            clear hK K
            go_simp
            refine wpAnyH_all (rs := [9]) (by kernel_rfl) (by simp) ?_
            intro i9 hi9
            simp only [List.mem_cons, List.not_mem_nil, or_false] at hi9
            subst hi9
            refine anyH_opW 9 rfl rfl ?_
            intro K hK
            refine wpl_execG (.string (strOf (List.replicate r 0))) rfl (exec_tostr un_bs un_u8 un_strT (List.replicate r 0) rfl (old_all (hm.get 1 rfl) (by simp) (Nat.le_refl _))) ?_
            refine wpList_nil ?_
            refine hK _ _ (below_next HW.out HW.out.size hm.below) ?_
            clear hK K
            go_simp
            refine anyH_take 10 (v := .string (keyN r i)) rfl (by kernel_rfl) (by kernel_rfl) (by kernel_rfl) rfl (fun W _ => exec_adds [107, (i : Int)] (List.replicate r 0) rfl rfl (by simp; omega)) (below_next HW.out HW.out.size hm.below) ?_
            go_simp
            refine wpAnyH_all (rs := [11]) (by kernel_rfl) (by simp) ?_
            intro i hi
            simp only [List.mem_cons, List.not_mem_nil, or_false] at hi
            subst hi
            refine anyH_opW 11 rfl rfl ?_
            intro K hK
            refine wpl_bsl1 rfl (.string ByteArray.empty) (.string (keyN r i)) un_strs info_str rfl rfl rfl hm ?_
            clear hm
            intro wx gx hb9 hm
            clear hb9
            refine wpList_nil ?_
            refine hK _ _ (below_next HW.out HW.out.size hm.below) ?_
            clear hK K
            refine wpAnyH_all (rs := [12]) (by kernel_rfl) (by simp) ?_
            intro i hi
            simp only [List.mem_cons, List.not_mem_nil, or_false] at hi
            subst hi
            refine anyH_opW 12 rfl rfl ?_
            intro K hK
            refine wpl_appV (.string ByteArray.empty) 1 16 rfl un_strs made_str rfl (by omega) (by omega) (own_below HO.out hm.below) (Nat.le_trans HW.out.size hm.size) rfl rfl (hm.get 0 rfl) rfl (by simp [Value.oneCell']) (by omega) ?_
            intro v9 w9 ho9 hg9 hl9
            have HO9 : Hid (w9.ownsRow w.heap.size 9 1 v9 (i + 1) (strs ((List.range (i + 1)).map (keyN r)))) := by
              show World.ownsRow _ _ _ _ _ _ _
              rw [range_snoc]
              unfold strs
              rw [List.map_append]
              exact ho9
            have HW9 : Hid (Below w.heap.size w w9) := below_grown (below_next HW.out HW.out.size hm.below) (Nat.le_trans HW.out.size hm.size) (own_below HO.out hm.below) hg9
            clear ho9 hg9 hl9 hm
            refine wpList_nil ?_
            refine hK _ _ HW9.out ?_
            clear hK K
            refine anyH_take 13 (v := v9) rfl (by kernel_rfl) (by kernel_rfl) (by kernel_rfl) rfl (fun W _ => by go_simp) HW9.out ?_
            go_simp
            refine wpAnyH_done (by kernel_rfl) ?_ _
            simp only [endsIn]
            go_wp2_with fail
            go_roundw
            case rel => exact ⟨i + 1, by omega, by go_num, HO9.out, HW9.out⟩
            case measure => simp [intOf]; omega
          · refine anyH_opW 9 rfl rfl ?_
            intro K hK
            refine wpl_execG (.string (strOf (List.replicate r 0))) rfl (exec_tostr un_bs un_u8 un_strT (List.replicate r 0) rfl (old_all (hm.get 1 rfl) (by simp) (Nat.le_refl _))) ?_
            refine wpList_nil ?_
            refine hK _ _ (below_next HW.out HW.out.size hm.below) ?_
            clear hK K
            go_simp
            refine wpAnyH_all (rs := [4]) (by kernel_rfl) (by simp) ?_
            intro i9 hi9
            simp only [List.mem_cons, List.not_mem_nil, or_false] at hi9
            subst hi9
            refine anyH_opW 4 rfl rfl ?_
            intro K hK
            refine wpl_execG (.string (strOf [107, (i : Int)])) rfl (exec_tostr un_bs un_u8 un_strT [107, (i : Int)] rfl (old_all (hm.get 0 rfl) rfl (Nat.le_refl _))) ?_
            refine wpList_nil ?_
            refine hK _ _ (below_next HW.out HW.out.size hm.below) ?_
            clear hK K
            go_simp
            refine anyH_take 10 (v := .string (keyN r i)) rfl (by kernel_rfl) (by kernel_rfl) (by kernel_rfl) rfl (fun W _ => exec_adds [107, (i : Int)] (List.replicate r 0) rfl rfl (by simp; omega)) (below_next HW.out HW.out.size hm.below) ?_
            go_simp
            refine wpAnyH_all (rs := [11]) (by kernel_rfl) (by simp) ?_
            intro i hi
            simp only [List.mem_cons, List.not_mem_nil, or_false] at hi
            subst hi
            refine anyH_opW 11 rfl rfl ?_
            intro K hK
            refine wpl_bsl1 rfl (.string ByteArray.empty) (.string (keyN r i)) un_strs info_str rfl rfl rfl hm ?_
            clear hm
            intro wx gx hb9 hm
            clear hb9
            refine wpList_nil ?_
            refine hK _ _ (below_next HW.out HW.out.size hm.below) ?_
            clear hK K
            refine wpAnyH_all (rs := [12]) (by kernel_rfl) (by simp) ?_
            intro i hi
            simp only [List.mem_cons, List.not_mem_nil, or_false] at hi
            subst hi
            refine anyH_opW 12 rfl rfl ?_
            intro K hK
            refine wpl_appV (.string ByteArray.empty) 1 16 rfl un_strs made_str rfl (by omega) (by omega) (own_below HO.out hm.below) (Nat.le_trans HW.out.size hm.size) rfl rfl (hm.get 0 rfl) rfl (by simp [Value.oneCell']) (by omega) ?_
            intro v9 w9 ho9 hg9 hl9
            have HO9 : Hid (w9.ownsRow w.heap.size 9 1 v9 (i + 1) (strs ((List.range (i + 1)).map (keyN r)))) := by
              show World.ownsRow _ _ _ _ _ _ _
              rw [range_snoc]
              unfold strs
              rw [List.map_append]
              exact ho9
            have HW9 : Hid (Below w.heap.size w w9) := below_grown (below_next HW.out HW.out.size hm.below) (Nat.le_trans HW.out.size hm.size) (own_below HO.out hm.below) hg9
            clear ho9 hg9 hl9 hm
            refine wpList_nil ?_
            refine hK _ _ HW9.out ?_
            clear hK K
            refine anyH_take 13 (v := v9) rfl (by kernel_rfl) (by kernel_rfl) (by kernel_rfl) rfl (fun W _ => by go_simp) HW9.out ?_
            go_simp
            refine wpAnyH_done (by kernel_rfl) ?_ _
            simp only [endsIn]
            go_wp2_with fail
            go_roundw
            case rel => exact ⟨i + 1, by omega, by go_num, HO9.out, HW9.out⟩
            case measure => simp [intOf]; omega
        · refine anyH_opW 9 rfl rfl ?_
          intro K hK
          refine wpl_execG (.string (strOf (List.replicate r 0))) rfl (exec_tostr un_bs un_u8 un_strT (List.replicate r 0) rfl (old_all (hm.get 0 rfl) (by simp) (Nat.le_refl _))) ?_
          refine wpList_nil ?_
          refine hK _ _ (below_next HW.out HW.out.size hm.below) ?_
          clear hK K
          go_simp
          refine wpAnyH_all (rs := [3]) (by kernel_rfl) (by simp) ?_
          intro i9 hi9
          simp only [List.mem_cons, List.not_mem_nil, or_false] at hi9
          subst hi9
          refine anyH_opW 3 rfl rfl ?_
          intro K hK
          refine wpl_bsl2 (.int .u8 0) (.int .u8 107) (.int .u8 (i : Int)) un_bs info_u8 rfl rfl rfl rfl rfl hm ?_
          clear hm
          intro wa g3 hb9 hm
          clear hb9
          refine wpList_nil ?_
          refine hK _ _ (below_next HW.out HW.out.size hm.below) ?_
          clear hK K
          go_simp
          refine wpAnyH_all (rs := [4]) (by kernel_rfl) (by simp) ?_
          intro i9 hi9
          simp only [List.mem_cons, List.not_mem_nil, or_false] at hi9
          subst hi9
          refine anyH_opW 4 rfl rfl ?_
          intro K hK
          refine wpl_execG (.string (strOf [107, (i : Int)])) rfl (exec_tostr un_bs un_u8 un_strT [107, (i : Int)] rfl (old_all (hm.get 0 rfl) rfl (Nat.le_refl _))) ?_
          refine wpList_nil ?_
          refine hK _ _ (below_next HW.out HW.out.size hm.below) ?_
          clear hK K
          go_simp
          refine anyH_take 10 (v := .string (keyN r i)) rfl (by kernel_rfl) (by kernel_rfl) (by kernel_rfl) rfl (fun W _ => exec_adds [107, (i : Int)] (List.replicate r 0) rfl rfl (by simp; omega)) (below_next HW.out HW.out.size hm.below) ?_
          go_simp
          refine wpAnyH_all (rs := [11]) (by kernel_rfl) (by simp) ?_
          intro i hi
          simp only [List.mem_cons, List.not_mem_nil, or_false] at hi
          subst hi
          refine anyH_opW 11 rfl rfl ?_
          intro K hK
          refine wpl_bsl1 rfl (.string ByteArray.empty) (.string (keyN r i)) un_strs info_str rfl rfl rfl hm ?_
          clear hm
          intro wx gx hb9 hm
          clear hb9
          refine wpList_nil ?_
          refine hK _ _ (below_next HW.out HW.out.size hm.below) ?_
          clear hK K
          refine wpAnyH_all (rs := [12]) (by kernel_rfl) (by simp) ?_
          intro i hi
          simp only [List.mem_cons, List.not_mem_nil, or_false] at hi
          subst hi
          refine anyH_opW 12 rfl rfl ?_
          intro K hK
          refine wpl_appV (.string ByteArray.empty) 1 16 rfl un_strs made_str rfl (by omega) (by omega) (own_below HO.out hm.below) (Nat.le_trans HW.out.size hm.size) rfl rfl (hm.get 0 rfl) rfl (by simp [Value.oneCell']) (by omega) ?_
          intro v9 w9 ho9 hg9 hl9
          have HO9 : Hid (w9.ownsRow w.heap.size 9 1 v9 (i + 1) (strs ((List.range (i + 1)).map (keyN r)))) := by
            show World.ownsRow _ _ _ _ _ _ _
            rw [range_snoc]
            unfold strs
            rw [List.map_append]
            exact ho9
          have HW9 : Hid (Below w.heap.size w w9) := below_grown (below_next HW.out HW.out.size hm.below) (Nat.le_trans HW.out.size hm.size) (own_below HO.out hm.below) hg9
          clear ho9 hg9 hl9 hm
          refine wpList_nil ?_
          refine hK _ _ HW9.out ?_
          clear hK K
          refine anyH_take 13 (v := v9) rfl (by kernel_rfl) (by kernel_rfl) (by kernel_rfl) rfl (fun W _ => by go_simp) HW9.out ?_
          go_simp
          refine wpAnyH_done (by kernel_rfl) ?_ _
          simp only [endsIn]
          go_wp2_with fail
          go_roundw
          case rel => exact ⟨i + 1, by omega, by go_num, HO9.out, HW9.out⟩
          case measure => simp [intOf]; omega
    · have him : i = m - 1 := by omega
      have hni : ¬ (i : Int) < (m : Int) - 1 := by omega
      obtain ⟨C, hC⟩ : ∃ C, C = (m - 1) * (4 + r) := ⟨_, rfl⟩
      have HMU : Hid ((i : Int) * (4 + (r : Int)) = (C : Int)) := by show _ = _; rw [hC, him]; push_cast; rfl
      have hCb : C ≤ 1000 := by
        have h9 := Nat.mul_le_mul (show m - 1 ≤ 60 by omega) (show 4 + r ≤ 13 by omega)
        omega
      rw [← hC] at HCO HSB
      rw [← him] at HCO HSB
      have hss := ss_of (own_sl HO.out) (show ((List.range i).map (keyN r)).length = i by simp)
      have HSS : Hid (SlS wr (.slice pk i ck) ((List.range i).map (keyN r))) := hss
      have HLL : Hid (((List.range i).map (keyN r)).length ≤ 1000) := by show _ ≤ _; simp; omega
      obtain ⟨L, hL⟩ : ∃ L, (List.range i).map (keyN r) = L := ⟨_, rfl⟩
      rw [hL] at HSS HLL HCO HSB
      have hm := Mem.start wr
      clear hss hL him hC HO
      by_cases hbig : 480 < 3 + 4 * m + C
      · have HBC : Hid (∀ _ : Unit, branchCode L kids.length = 11) := fun _ => by rw [HKL.out, HCO.out, if_pos hbig]
        have hbi : 3 + (C : Int) + 4 * (m : Int) > 480 := by omega
        clear hbig
        go_wp2_with (first
          | (go_at_call 12; refine (branch_any L kids _ _ HLL.out HKB.out _ HSS.out (SlV.below HVI.out HW.out)).mono ?_; rintro e w3 ⟨v3, he, hs, hb⟩; rw [HBC.out ()] at he; subst he; replace hm := hm.call hb; clear hb hs)
          | ((with_reducible refine at_op (some 55) (.binOp .mul 3 (.tmp 50) (.tmp 54) 3) ?_); go_must (refine wpl_execG (.int .i64 (C : Int)) rfl (exec_mulI C rfl rfl HMU.out (by omega)) ?_)))
        go_ret
        exact ⟨rfl, below_next HW.out HW.out.size hm.below⟩
      · have hbc : branchCode L kids.length = 0 := by rw [HKL.out, HCO.out, if_neg hbig]
        have HBC : Hid (∀ _ : Unit, branchCode L kids.length = 0) := fun _ => hbc
        have HBO : Hid (∀ _ : Unit, branchOut L kids = branchB L kids) := fun _ => by rw [branchOut, if_pos hbc]
        obtain ⟨rb1, rb2, rb3⟩ := rb_back hbc HKB.out
        have HG1 : Hid (∀ _ : Unit, (if rbOk (branchB L kids) = true then (0 : Int) else 90) = 0) := fun _ => by rw [rb1]; rfl
        have HG2 : Hid (∀ _ : Unit, rbOutK (branchB L kids) = L) := fun _ => rb2
        have HG3 : Hid (∀ _ : Unit, rbOutI (branchB L kids) = kids) := fun _ => rb3
        have HBB : Hid (Bytes (branchB L kids)) := branchB_bytes _ _
        obtain ⟨S, hS⟩ : ∃ S, S = 3 + 4 * m + C := ⟨_, rfl⟩
        have HLS : Hid ((branchB L kids).length = S) := by show _ = _; rw [branchB_length, HKL.out, HSB.out, hS]
        have hSi : (S : Int) = 3 + (C : Int) + 4 * (m : Int) := by omega
        have hbi : ¬ (3 + (C : Int) + 4 * (m : Int) > 480) := by omega
        have HK4 : Hid (kids.length ≤ 1000) := by show _ ≤ _; rw [HKL.out]; omega
        clear hbig hbc rb1 rb2 rb3 hS
        go_wp2_with (first
          | (go_at_call 12; refine (branch_any L kids _ _ HLL.out HKB.out _ HSS.out (SlV.below HVI.out HW.out)).mono ?_; rintro e w3 ⟨v3, he, hs, hb⟩; rw [HBC.out ()] at he; rw [HBO.out ()] at hs; obtain ⟨p3, c3, hv3, _⟩ : ∃ p c, v3 = .slice p S c ∧ S ≤ c := HLS.out ▸ SlOld.len hs; subst hv3; subst he; have HA : Hid (SlOld w3 (.slice p3 S c3) (branchB L kids)) := hs; replace hm := hm.call hb; clear hb hs)
          | ((with_reducible refine at_op (some 55) (.binOp .mul 3 (.tmp 50) (.tmp 54) 3) ?_); go_must (refine wpl_execG (.int .i64 (C : Int)) rfl (exec_mulI C rfl rfl HMU.out (by omega)) ?_))
          | (go_at_call 18; refine (readBranch_any (branchB L kids) _ HBB.out _ HA.out).mono ?_; rintro e w4 ⟨va, ua, he, hs, hs2, hb⟩; rw [HG1.out ()] at he; rw [HG2.out ()] at hs; rw [HG3.out ()] at hs2; subst he; have HY1 : Hid (SlS w4 va L) := hs; have HY2 : Hid (SlU w4 ua kids) := hs2; replace hm := hm.call hb; clear hb hs hs2)
          | (go_at_call 21; refine (same_any L L kids kids _ _ _ _ HLL.out HK4.out _ HY1.out HY2.out (SlV.below HSS.out hm.below) (SlV.below HVI.out (below_next HW.out HW.out.size hm.below))).mono ?_; rintro e w5 ⟨hans, hb⟩; obtain ⟨rr, he, hrr⟩ := hans; rw [hrr.2 ⟨rfl, rfl⟩] at he; subst he; replace hm := hm.call hb; clear hb hrr))
        go_ret
        exact ⟨rfl, below_next HW.out HW.out.size hm.below⟩
set_option maxRecDepth 100000 in
theorem nodeKids_walk (N : Int) (kids : List Int) (u : Value) (hN : 0 ≤ N ∧ N < 256) (kb : ∀ x ∈ kids, 0 ≤ x ∧ x < 4294967296) (w : World) (vi : SlU w u kids) :
    Calls Try.prog 8 #[.int .u8 N, u] w fun e w' => e = .returned (.bool true) ∧ Below w.heap.size w w' := by
  obtain ⟨q, d, rfl, _⟩ := SlV.len vi
  by_cases h1 : kids.length < 2
  · exact kids_out_a N q _ d h1 w
  · by_cases h2 : 60 < kids.length
    · exact kids_out_b N q _ d h2 w
    · exact kids_go N (N % 10).toNat q _ d kids hN (by omega) (by omega) (by omega) rfl kb w vi
end Go.Proofs.Ytcfmpidibbbehaa
