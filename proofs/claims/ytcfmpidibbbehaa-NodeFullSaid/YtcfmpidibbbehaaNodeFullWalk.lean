/- The walk of the law NodeFull. -/
import Derived.Test.YtcfmpidibbbehaaNdRise
namespace Go.Proofs.Ytcfmpidibbbehaa
open Go Go.RowKit
def keyF (a j : Nat) : ByteArray := strOf ((j : Int) :: 1 :: List.replicate a 0)
def prF (a v j : Nat) : ByteArray × ByteArray := (keyF a j, zs v)
set_option maxRecDepth 100000 in
theorem keyF_size (a j : Nat) : (keyF a j).size = 2 + a := by rw [keyF, strOf_size]; simp; omega
set_option maxRecDepth 100000 in
theorem full_ok (a v n : Nat) (ha : a ≤ 57) (hv : v ≤ 150) (hn : n ≤ 130) : okPairs ((List.range n).map (prF a v)) n = true := by
  rw [okPairs_two, okVals_range (prF a v) n n (Nat.le_refl _) (fun j _ => by show (zs v).size ≤ 150; rw [zs_size]; exact hv), Bool.true_and, List.map_map]
  exact okKeys_range (Prod.fst ∘ prF a v) n n (Nat.le_refl _) (fun j _ => by show fitK (keyF a j) = true; rw [fitK, keyF_size]; simp; omega) (fun j hj => less_first _ _ (by omega) (by omega))
set_option maxRecDepth 100000 in
theorem full_size (a v n : Nat) : szP ((List.range n).map (prF a v)) = 3 + n * (6 + a + v) := by
  unfold szP
  rw [sum_const psz (prF a v) n (6 + a + v) (fun j => by show 4 + (keyF a j).size + (zs v).size = _; rw [keyF_size, zs_size]; omega)]
set_option maxRecDepth 100000 in
theorem full_code (a v n : Nat) (ha : a ≤ 57) (hv : v ≤ 150) (hn : n ≤ 130) : leafCode ((List.range n).map (prF a v)) = if 480 < 3 + n * (6 + a + v) then 11 else 0 := by
  rw [leafCode, List.length_map, List.length_range, if_neg (by rw [full_ok a v n ha hv hn]; simp), full_size]
set_option maxRecDepth 100000 in
theorem full_sizes (a v n : Nat) (ha : a ≤ 57) (hv : v ≤ 150) : ∀ p ∈ (List.range n).map (prF a v), p.1.size ≤ 1152921504606846976 ∧ p.2.size ≤ 1152921504606846976 := by
  intro p hp
  obtain ⟨j, _, rfl⟩ := List.mem_map.1 hp
  show (keyF a j).size ≤ _ ∧ (zs v).size ≤ _
  rw [keyF_size, zs_size]
  omega
set_option maxRecDepth 100000 in
theorem SlP.cut {w : World} {p : Option Addr} {n c : Nat} {l : List (ByteArray × ByteArray)} (h : SlP w (.slice p n c) l) (hn : l.length = n) : SlP w (.slice p n n) l := by
  subst hn
  obtain ⟨q, c', hv, _, hl, hs⟩ := h
  simp only [Value.slice.injEq] at hv
  obtain ⟨rfl, _, _⟩ := hv
  exact ⟨_, _, rfl, Nat.le_refl _, hl, hs⟩
set_option maxRecDepth 100000 in
theorem key_row (a : Nat) (i : Int) : ((List.replicate (a + 2) (Value.int .u8 0)).set 0 (.int .u8 i)).set 1 (.int .u8 1) = u8s (i :: 1 :: List.replicate a 0) := by
  simp [u8s, List.replicate_succ]
set_option maxHeartbeats 6000000 in
set_option maxRecDepth 100000 in
theorem full_go (K V : Int) (a v : Nat) (hK0 : 0 ≤ K) (hK1 : K < 256) (hV0 : 0 ≤ V) (hV1 : V < 256) (ha : K % 58 = (a : Int)) (hv : V % 151 = (v : Int)) (w : World) :
    Calls Try.prog 7 #[.int .u8 K, .int .u8 V] w fun e w' => e = .returned (.bool true) ∧ Below w.heap.size w w' := by
  have hm := Mem.start w
  have ha9 : a ≤ 57 := by omega
  have hv9 : v ≤ 150 := by omega
  have HAT : K.tmod 58 = (a : Int) := by rw [Int.tmod_eq_emod_of_nonneg hK0]; exact ha
  have HVT : V.tmod 151 = (v : Int) := by rw [Int.tmod_eq_emod_of_nonneg hV0]; exact hv
  have HWK : IntKind.i64.wrap K = K := wrapi K hK0 (by omega)
  have HWV : IntKind.i64.wrap V = V := wrapi V hV0 (by omega)
  go_enter Try.func7, Try.ntmps7
  go_wp2_with (first
    | (go_at_call 9; refine (known_any _).mono ?_; rintro e wk ⟨rfl, hb⟩; replace hm := hm.call hb; clear hb))
  have HBK : Hid (Below w.heap.size w wk) := hm.below
  clear hm
  go_loopw [7, 8] (fun vl vi wr => ∃ i : Nat, i ≤ 120 ∧ vi = .int .i64 (i : Int) ∧ (∃ (p : Option Addr) (c : Nat), vl = .slice p i c ∧ i ≤ c ∧ Hid (i = 0 → p = none) ∧ Hid (SlP wr (.slice p i c) ((List.range i).map (prF a v)))) ∧ Hid (Below w.heap.size w wr)) (fun _ vi _ => 120 - (intOf vi).toNat)
  case atStart => exact ⟨0, by omega, rfl, ⟨none, 0, rfl, Nat.le_refl _, fun _ => rfl, SlP.nil _⟩, HBK.out⟩
  case round =>
    clear HBK
    obtain ⟨i, hi, rfl, ⟨p, c, rfl, hic, HP0, HV⟩, HW⟩ := hrel
    by_cases hlt : i < 120
    · have hki : (i : Int) < 120 := by omega
      have HWB : IntKind.u8.wrap (i : Int) = (i : Int) := wrapb _ (by omega) (by omega)
      have HLI : Hid (((List.range i).map (prF a v)).length = i) := by show _ = _; simp
      have HPN : Hid (∀ q, p = some q → ∃ b o, q = ⟨b, o, none⟩) := by
        intro q hq
        by_cases h0 : i = 0
        · rw [HP0.out h0] at hq; cases hq
        · obtain ⟨b, o, hp⟩ := SlP.at HV.out HLI.out (by omega)
          rw [hp] at hq
          exact ⟨b, o, (Option.some.inj hq).symm⟩
      obtain ⟨C, hC⟩ : ∃ C, C = (i + 1) * (6 + a + v) := ⟨_, rfl⟩
      have HMUL : Hid (∀ x y : Int, x = (i : Int) + 1 → y = 4 + ((a : Int) + 2) + (v : Int) → x * y = (C : Int)) := by
        intro x y hx hy
        rw [hx, hy, hC, Int.natCast_mul]
        congr 1
        omega
      have hCb : C ≤ 100000 - 4 := by
        have h9 := Nat.mul_le_mul (show i + 1 ≤ 121 by omega) (show 6 + a + v ≤ 213 by omega)
        omega
      have hC1 : 6 + a + v ≤ C := by rw [hC, Nat.succ_mul]; omega
      have hC0 : i = 0 → C = 6 + a + v := by intro h; rw [hC, h]; omega
      have hcode := full_code a v (i + 1) ha9 hv9 (by omega)
      have hsize := full_size a v (i + 1)
      rw [← hC] at hcode hsize
      have HLZ : Hid (∀ p ∈ (List.range (i + 1)).map (prF a v), p.1.size ≤ 1152921504606846976 ∧ p.2.size ≤ 1152921504606846976) := full_sizes a v (i + 1) ha9 hv9
      have HLN : Hid (((List.range (i + 1)).map (prF a v)).length = i + 1) := by show _ = _; simp
      have HLL : Hid (((List.range (i + 1)).map (prF a v)).length ≤ 1000) := by show _ ≤ _; simp; omega
      have HMS : Hid (((min (szP ((List.range (i + 1)).map (prF a v))) 100000 : Nat) : Int) = 3 + (C : Int)) := by show _ = _; rw [hsize, Nat.min_eq_left (by omega)]; omega
      obtain ⟨L, hL⟩ : ∃ L, (List.range (i + 1)).map (prF a v) = L := ⟨_, rfl⟩
      have hm := Mem.start wr
      clear hsize
      by_cases hbig : 480 < 3 + C
      · have HLC : Hid (∀ _ : Unit, leafCode L = 11) := fun _ => by rw [← hL, hcode, if_pos hbig]
        have hi0 : 0 < i := by
          rcases Nat.eq_zero_or_pos i with h | h
          · have := hC0 h; omega
          · exact h
        have hi1 : (i : Int) > 0 := by omega
        have hbi : ¬ (3 + (C : Int) ≤ 480) := by omega
        rw [hL] at HLZ HLN HLL HMS
        clear hC hC0 hcode hbig hC1
        go_wp2_with (first
          | ((with_reducible refine at_op (some 28) (.makeSlice 26 (.tmp 27) (.tmp 27)) ?_); go_must (refine wpl_make _ un_bs _ made_u8 rfl (a + 2) rfl (by omega) rfl (by omega) (by omega) hm ?_); clear hm; intro w1 g9 hm)
          | ((with_reducible refine at_op none (.store 5 (.tmp 33) (.tmp 32)) ?_); refine wpl_stc 0 0 (.int .u8 (i : Int)) hm rfl rfl rfl sz_u8 (by simp) rfl rfl ?_; clear hm; intro w2 hm)
          | ((with_reducible refine at_op none (.store 5 (.tmp 34) (.const (.int .u8 1))) ?_); refine wpl_stc 0 1 (.int .u8 1) hm rfl rfl rfl sz_u8 (by simp) rfl rfl ?_; clear hm; intro w2b hm))
        have hm8 : Mem wr [] w2b [(g9, u8s ((i : Int) :: 1 :: List.replicate a 0), 5)] := by rw [← key_row]; exact hm
        clear hm
        have hm := hm8
        clear hm8
        refine wp_ends0 ?_
        refine anyH_start (T := fun W => Mem wr [] W [(g9, u8s ((i : Int) :: 1 :: List.replicate a 0), 5)]) (by kernel_rfl) hm ?_
        clear hm
        intro wq hm
        refine anyH_take 0 (v := .slice p i c) rfl (by kernel_rfl) (by kernel_rfl) (by kernel_rfl) rfl (fun W _ => by go_simp) hm ?_
        go_simp
        refine anyH_take 1 (v := .slice p i c) rfl (by kernel_rfl) (by kernel_rfl) (by kernel_rfl) rfl (fun W _ => by go_simp) hm ?_
        go_simp
        refine anyH_take 2 (v := .int .i64 (i : Int)) rfl (by kernel_rfl) (by kernel_rfl) (by kernel_rfl) rfl (fun W _ => by go_simp) hm ?_
        go_simp
        refine anyH_take 3 (v := .slice p i c) rfl (by kernel_rfl) (by kernel_rfl) (by kernel_rfl) rfl (fun W _ => by go_simp) hm ?_
        go_simp
        refine anyH_take 4 (v := .int .i64 (i : Int)) rfl (by kernel_rfl) (by kernel_rfl) (by kernel_rfl) rfl (fun W _ => by go_simp) hm ?_
        go_simp
        refine anyH_take 5 (v := .slice p i i) rfl (by kernel_rfl) (by kernel_rfl) (by kernel_rfl) rfl (fun W _ => exec_sl3P HPN.out hic rfl rfl rfl rfl rfl) hm ?_
        go_simp
        refine anyH_take 6 (v := .slice (some ⟨g9, 0, none⟩) (a + 2) (a + 2)) rfl (by kernel_rfl) (by kernel_rfl) (by kernel_rfl) rfl (fun W _ => by go_simp) hm ?_
        go_simp
        refine anyH_take 7 (v := .string (keyF a i)) rfl (by kernel_rfl) (by kernel_rfl) (by kernel_rfl) rfl (fun W hW => exec_tostr un_bs un_u8 un_strT ((i : Int) :: 1 :: List.replicate a 0) rfl (old_all (Mem.get hW 0 rfl) (by simp) (Nat.le_refl _))) hm ?_
        go_simp
        refine anyH_take 8 (v := .int .i64 (v : Int)) rfl (by kernel_rfl) (by kernel_rfl) (by kernel_rfl) rfl (fun W _ => by go_simp) hm ?_
        go_simp
        refine wpAnyH_all (rs := [9]) (by kernel_rfl) (by simp) ?_
        intro i hi
        simp only [List.mem_cons, List.not_mem_nil, or_false] at hi
        subst hi
        refine anyH_opW 9 rfl rfl ?_
        intro K hK
        refine wpl_make _ un_bs _ made_u8 rfl v rfl rfl rfl rfl (by omega) hm ?_
        clear hm
        intro wz gz hm
        rw [zeros_u8] at hm
        refine wpList_nil ?_
        refine hK _ _ hm.tail ?_
        clear hK K
        refine anyH_more (fun W => Mem wr [] W [(gz, u8s (List.replicate v 0), 5), (g9, u8s ((i : Int) :: 1 :: List.replicate a 0), 5)]) (fun W h => h.tail) _ _ _ _ ?_
        go_simp
        refine anyH_take 10 (v := .string (zs v)) rfl (by kernel_rfl) (by kernel_rfl) (by kernel_rfl) rfl (fun W hW => exec_tostr un_bs un_u8 un_strT (List.replicate v 0) rfl (old_all (Mem.get hW 0 rfl) (by simp) (Nat.le_refl _))) hm ?_
        go_simp
        refine anyH_take 11 (v := .agg [.string (keyF a i), .string (zs v)].toArray) rfl (by kernel_rfl) (by kernel_rfl) (by kernel_rfl) rfl (fun W _ => exec_pairKV (keyF a i) (zs v) rfl rfl) hm ?_
        go_simp
        refine wpAnyH_all (rs := [12]) (by kernel_rfl) (by simp) ?_
        intro i hi
        simp only [List.mem_cons, List.not_mem_nil, or_false] at hi
        subst hi
        refine anyH_opW 12 rfl rfl ?_
        intro K hK
        refine wpl_bslP (keyF a i) (zs v) rfl rfl hm ?_
        clear hm
        intro wx gx hm
        refine wpList_nil ?_
        refine hK _ _ hm.tail ?_
        clear hK K
        go_simp
        refine wpAnyH_all (rs := [13]) (by kernel_rfl) (by simp) ?_
        intro i hi
        simp only [List.mem_cons, List.not_mem_nil, or_false] at hi
        subst hi
        refine anyH_opW 13 rfl rfl ?_
        intro K hK
        refine wpl_appF (keyF a i) (zs v) rfl HLI.out HP0.out (by omega) (SlP.cut (SlV.below HV.out hm.below) HLI.out) rfl rfl (hm.get 0 rfl) ?_
        intro gn cn wn hbn hcn hsn
        have HN : Hid (SlP wn (.slice (some ⟨gn, 0, none⟩) (i + 1) cn) ((List.range (i + 1)).map (prF a v))) := by
          show SlP _ _ _
          rw [range_snoc]
          exact hsn
        replace hm := hm.tail.call hbn
        clear hsn hbn
        refine wpList_nil ?_
        refine hK _ _ hm ?_
        clear hK K
        refine anyH_take 14 (v := .slice (some ⟨gn, 0, none⟩) (i + 1) cn) rfl (by kernel_rfl) (by kernel_rfl) (by kernel_rfl) rfl (fun W _ => by go_simp) hm ?_
        go_simp
        refine wpAnyH_done (by kernel_rfl) ?_ _
        simp only [endsIn]
        rw [hL] at HN
        clear hL
        go_wp2_with (first
          | ((with_reducible refine at_op (some 55) (.binOp .mul 3 (.tmp 50) (.tmp 54) 3) ?_); go_must (refine wpl_execG (.int .i64 (C : Int)) rfl (exec_mulI C rfl rfl (HMUL.out _ _ (by first | rfl | omega | simp) (by first | rfl | omega)) (by omega)) ?_))
          | (go_at_call 10; refine (leaf_any L _ HLL.out HLZ.out _ HN.out).mono ?_; rintro e w3 ⟨v3, he, hs, hb⟩; rw [HLC.out ()] at he; subst he; have HN2 : Hid (SlP w3 (.slice (some ⟨gn, 0, none⟩) (i + 1) cn) L) := SlV.below HN.out hb; replace hm := hm.call hb; clear hb hs)
          | (go_at_call 14; refine (size_any L (i + 1) _ HLN.out (by omega) HLZ.out _ HN2.out).mono ?_; rintro e w4 ⟨he, hb⟩; rw [HMS.out] at he; subst he; have HN3 : Hid (SlP w4 (.slice (some ⟨gn, 0, none⟩) (i + 1) cn) L) := SlV.below HN2.out hb; replace hm := hm.call hb; clear hb))
        go_ret
        refine ⟨?_, below_next HW.out HW.out.size hm.below⟩
        first | rfl | (simp; omega)
      · have HLC : Hid (∀ _ : Unit, leafCode L = 0) := fun _ => by rw [← hL, hcode, if_neg hbig]
        have hbi : 3 + (C : Int) ≤ 480 := by omega
        rw [hL] at HLZ HLN HLL HMS
        clear hC hC0 hcode hbig hC1
        go_wp2_with (first
          | ((with_reducible refine at_op (some 28) (.makeSlice 26 (.tmp 27) (.tmp 27)) ?_); go_must (refine wpl_make _ un_bs _ made_u8 rfl (a + 2) rfl (by omega) rfl (by omega) (by omega) hm ?_); clear hm; intro w1 g9 hm)
          | ((with_reducible refine at_op none (.store 5 (.tmp 33) (.tmp 32)) ?_); refine wpl_stc 0 0 (.int .u8 (i : Int)) hm rfl rfl rfl sz_u8 (by simp) rfl rfl ?_; clear hm; intro w2 hm)
          | ((with_reducible refine at_op none (.store 5 (.tmp 34) (.const (.int .u8 1))) ?_); refine wpl_stc 0 1 (.int .u8 1) hm rfl rfl rfl sz_u8 (by simp) rfl rfl ?_; clear hm; intro w2b hm))
        have hm8 : Mem wr [] w2b [(g9, u8s ((i : Int) :: 1 :: List.replicate a 0), 5)] := by rw [← key_row]; exact hm
        clear hm
        have hm := hm8
        clear hm8
        refine wp_ends0 ?_
        refine anyH_start (T := fun W => Mem wr [] W [(g9, u8s ((i : Int) :: 1 :: List.replicate a 0), 5)]) (by kernel_rfl) hm ?_
        clear hm
        intro wq hm
        refine anyH_take 0 (v := .slice p i c) rfl (by kernel_rfl) (by kernel_rfl) (by kernel_rfl) rfl (fun W _ => by go_simp) hm ?_
        go_simp
        refine anyH_take 1 (v := .slice p i c) rfl (by kernel_rfl) (by kernel_rfl) (by kernel_rfl) rfl (fun W _ => by go_simp) hm ?_
        go_simp
        refine anyH_take 2 (v := .int .i64 (i : Int)) rfl (by kernel_rfl) (by kernel_rfl) (by kernel_rfl) rfl (fun W _ => by go_simp) hm ?_
        go_simp
        refine anyH_take 3 (v := .slice p i c) rfl (by kernel_rfl) (by kernel_rfl) (by kernel_rfl) rfl (fun W _ => by go_simp) hm ?_
        go_simp
        refine anyH_take 4 (v := .int .i64 (i : Int)) rfl (by kernel_rfl) (by kernel_rfl) (by kernel_rfl) rfl (fun W _ => by go_simp) hm ?_
        go_simp
        refine anyH_take 5 (v := .slice p i i) rfl (by kernel_rfl) (by kernel_rfl) (by kernel_rfl) rfl (fun W _ => exec_sl3P HPN.out hic rfl rfl rfl rfl rfl) hm ?_
        go_simp
        refine anyH_take 6 (v := .slice (some ⟨g9, 0, none⟩) (a + 2) (a + 2)) rfl (by kernel_rfl) (by kernel_rfl) (by kernel_rfl) rfl (fun W _ => by go_simp) hm ?_
        go_simp
        refine anyH_take 7 (v := .string (keyF a i)) rfl (by kernel_rfl) (by kernel_rfl) (by kernel_rfl) rfl (fun W hW => exec_tostr un_bs un_u8 un_strT ((i : Int) :: 1 :: List.replicate a 0) rfl (old_all (Mem.get hW 0 rfl) (by simp) (Nat.le_refl _))) hm ?_
        go_simp
        refine anyH_take 8 (v := .int .i64 (v : Int)) rfl (by kernel_rfl) (by kernel_rfl) (by kernel_rfl) rfl (fun W _ => by go_simp) hm ?_
        go_simp
        refine wpAnyH_all (rs := [9]) (by kernel_rfl) (by simp) ?_
        intro i hi
        simp only [List.mem_cons, List.not_mem_nil, or_false] at hi
        subst hi
        refine anyH_opW 9 rfl rfl ?_
        intro K hK
        refine wpl_make _ un_bs _ made_u8 rfl v rfl rfl rfl rfl (by omega) hm ?_
        clear hm
        intro wz gz hm
        rw [zeros_u8] at hm
        refine wpList_nil ?_
        refine hK _ _ hm.tail ?_
        clear hK K
        refine anyH_more (fun W => Mem wr [] W [(gz, u8s (List.replicate v 0), 5), (g9, u8s ((i : Int) :: 1 :: List.replicate a 0), 5)]) (fun W h => h.tail) _ _ _ _ ?_
        go_simp
        refine anyH_take 10 (v := .string (zs v)) rfl (by kernel_rfl) (by kernel_rfl) (by kernel_rfl) rfl (fun W hW => exec_tostr un_bs un_u8 un_strT (List.replicate v 0) rfl (old_all (Mem.get hW 0 rfl) (by simp) (Nat.le_refl _))) hm ?_
        go_simp
        refine anyH_take 11 (v := .agg [.string (keyF a i), .string (zs v)].toArray) rfl (by kernel_rfl) (by kernel_rfl) (by kernel_rfl) rfl (fun W _ => exec_pairKV (keyF a i) (zs v) rfl rfl) hm ?_
        go_simp
        refine wpAnyH_all (rs := [12]) (by kernel_rfl) (by simp) ?_
        intro i hi
        simp only [List.mem_cons, List.not_mem_nil, or_false] at hi
        subst hi
        refine anyH_opW 12 rfl rfl ?_
        intro K hK
        refine wpl_bslP (keyF a i) (zs v) rfl rfl hm ?_
        clear hm
        intro wx gx hm
        refine wpList_nil ?_
        refine hK _ _ hm.tail ?_
        clear hK K
        go_simp
        refine wpAnyH_all (rs := [13]) (by kernel_rfl) (by simp) ?_
        intro i hi
        simp only [List.mem_cons, List.not_mem_nil, or_false] at hi
        subst hi
        refine anyH_opW 13 rfl rfl ?_
        intro K hK
        refine wpl_appF (keyF a i) (zs v) rfl HLI.out HP0.out (by omega) (SlP.cut (SlV.below HV.out hm.below) HLI.out) rfl rfl (hm.get 0 rfl) ?_
        intro gn cn wn hbn hcn hsn
        have HN : Hid (SlP wn (.slice (some ⟨gn, 0, none⟩) (i + 1) cn) ((List.range (i + 1)).map (prF a v))) := by
          show SlP _ _ _
          rw [range_snoc]
          exact hsn
        replace hm := hm.tail.call hbn
        clear hsn hbn
        refine wpList_nil ?_
        refine hK _ _ hm ?_
        clear hK K
        refine anyH_take 14 (v := .slice (some ⟨gn, 0, none⟩) (i + 1) cn) rfl (by kernel_rfl) (by kernel_rfl) (by kernel_rfl) rfl (fun W _ => by go_simp) hm ?_
        go_simp
        refine wpAnyH_done (by kernel_rfl) ?_ _
        simp only [endsIn]
        rw [hL] at HN
        have HLE : Hid (∀ _ : Unit, (List.range (i + 1)).map (prF a v) = L) := fun _ => hL
        clear hL
        go_wp2_with (first
          | ((with_reducible refine at_op (some 55) (.binOp .mul 3 (.tmp 50) (.tmp 54) 3) ?_); go_must (refine wpl_execG (.int .i64 (C : Int)) rfl (exec_mulI C rfl rfl (HMUL.out _ _ (by first | rfl | omega | simp) (by first | rfl | omega)) (by omega)) ?_))
          | (go_at_call 10; refine (leaf_any L _ HLL.out HLZ.out _ HN.out).mono ?_; rintro e w3 ⟨v3, he, hs, hb⟩; rw [HLC.out ()] at he; subst he; have HN2 : Hid (SlP w3 (.slice (some ⟨gn, 0, none⟩) (i + 1) cn) L) := SlV.below HN.out hb; replace hm := hm.call hb; clear hb hs)
          | (go_at_call 14; refine (size_any L (i + 1) _ HLN.out (by omega) HLZ.out _ HN2.out).mono ?_; rintro e w4 ⟨he, hb⟩; rw [HMS.out] at he; subst he; have HN3 : Hid (SlP w4 (.slice (some ⟨gn, 0, none⟩) (i + 1) cn) L) := SlV.below HN2.out hb; replace hm := hm.call hb; clear hb))
        have HW9 : Hid (Below w.heap.size w w4) := below_next HW.out HW.out.size hm.below
        clear hm
        go_roundw
        case rel => exact ⟨i + 1, by omega, by go_num, ⟨some ⟨gn, 0, none⟩, cn, rfl, hcn, fun h => absurd h (by omega), by show SlP _ _ _; rw [HLE.out ()]; exact HN3.out⟩, HW9.out⟩
        case measure => simp [intOf]; omega
    · have hni : ¬ (i : Int) < 120 := by omega
      go_wp2_with fail
      go_ret
      exact ⟨rfl, HW.out⟩
set_option maxRecDepth 100000 in
theorem nodeFull_walk (K V : Int) (hk : 0 ≤ K ∧ K < 256) (hv : 0 ≤ V ∧ V < 256) (w : World) :
    Calls Try.prog 7 #[.int .u8 K, .int .u8 V] w fun e w' => e = .returned (.bool true) ∧ Below w.heap.size w w' :=
  full_go K V (K % 58).toNat (V % 151).toNat hk.1 hk.2 hv.1 hv.2 (by omega) (by omega) w
end Go.Proofs.Ytcfmpidibbbehaa
