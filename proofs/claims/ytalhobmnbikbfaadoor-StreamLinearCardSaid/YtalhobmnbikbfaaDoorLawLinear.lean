/- The walk of the law StreamLinear. -/
import Derived.Test.YtalhobmnbikbfaaDoorStKnown
namespace Go.Proofs.YtalhobmnbikbfaaDoor
open Go Go.RowKit

set_option maxHeartbeats 2000000 in
set_option maxRecDepth 100000 in
theorem streamLinear_walk (ks ns xs ys : List Int) (c : Int) (va vb : Value) (hkl : ks.length = 32) (hnl : ns.length = 12) (hkb : Bytes ks) (hnb : Bytes ns) (hc : Word c) (hbx : Bytes xs) (hby : Bytes ys) (w : World) (ht : QTab w) (hva : SlOld w va xs) (hvb : SlOld w vb ys) :
    Calls Tryd.prog 7 #[.agg (u8s ks).toArray, .agg (u8s ns).toArray, .int .u32 c, va, vb] w fun e w' => e = .returned (.bool true) ∧ Below w.heap.size w w' := by
  obtain ⟨pa, ca, rfl, hca⟩ := hva.len
  obtain ⟨pb, cb, rfl, hcb⟩ := hvb.len
  have hm := Mem.start w
  have HT : Hid _ := ht
  have HKB : Hid _ := hkb
  have HNB : Hid _ := hnb
  have HKL : Hid _ := hkl
  have HNL : Hid _ := hnl
  have HC : Hid _ := hc
  have HKU : Hid ((u8s ks).length = 32) := by show _ = _; rw [u8s_length]; exact hkl
  have HNU : Hid ((u8s ns).length = 12) := by show _ = _; rw [u8s_length]; exact hnl
  obtain ⟨hc0, hc1⟩ := hc
  clear ht hkb hnb hkl hnl
  have HXS : Hid (SlOld w (.slice pa xs.length ca) xs) := hva
  have HYS : Hid (SlOld w (.slice pb ys.length cb) ys) := hvb
  have HBX : Hid _ := hbx
  have HBY : Hid _ := hby
  clear hva hvb hbx hby
  by_cases h200 : 200 < xs.length
  · have h1i : (200 : Int) < (xs.length : Int) := by omega
    go_enter Tryd.func7, Tryd.ntmps7
    go_wp2_with (first
      | ((with_reducible refine at_op (some 5) (.box 24 (.tmp 0)) ?_); refine wpl_box (u8s ks) rfl hm ?_; clear hm; intro w1 g5 hm)
      | ((with_reducible refine at_op (some 6) (.box 26 (.tmp 1)) ?_); refine wpl_box (u8s ns) rfl hm ?_; clear hm; intro w2 g6 hm)
      | (go_at_call 8; refine (known4_any _ (QTab.mem HT.out hm (by simp))).mono ?_; rintro e w3 ⟨rfl, hb⟩; replace hm := hm.call hb; clear hb))
    go_ret
    exact ⟨rfl, hm.below⟩
  have h1i : ¬ (200 : Int) < (xs.length : Int) := by omega
  by_cases h201 : 200 < ys.length
  · have h2i : (200 : Int) < (ys.length : Int) := by omega
    go_enter Tryd.func7, Tryd.ntmps7
    go_wp2_with (first
      | ((with_reducible refine at_op (some 5) (.box 24 (.tmp 0)) ?_); refine wpl_box (u8s ks) rfl hm ?_; clear hm; intro w1 g5 hm)
      | ((with_reducible refine at_op (some 6) (.box 26 (.tmp 1)) ?_); refine wpl_box (u8s ns) rfl hm ?_; clear hm; intro w2 g6 hm)
      | (go_at_call 8; refine (known4_any _ (QTab.mem HT.out hm (by simp))).mono ?_; rintro e w3 ⟨rfl, hb⟩; replace hm := hm.call hb; clear hb))
    go_ret
    exact ⟨rfl, hm.below⟩
  have h2i : ¬ (200 : Int) < (ys.length : Int) := by omega
  go_enter Tryd.func7, Tryd.ntmps7
  go_wp2_with (first
    | ((with_reducible refine at_op (some 5) (.box 24 (.tmp 0)) ?_); refine wpl_box (u8s ks) rfl hm ?_; clear hm; intro w1 g5 hm)
    | ((with_reducible refine at_op (some 6) (.box 26 (.tmp 1)) ?_); refine wpl_box (u8s ns) rfl hm ?_; clear hm; intro w2 g6 hm)
    | (go_at_call 8; refine (known4_any _ (QTab.mem HT.out hm (by simp))).mono ?_; rintro e w3 ⟨rfl, hb⟩; replace hm := hm.call hb; clear hb))

  refine wp_ends0 ?_
  refine anyH_start (T := fun W => Mem w [] W [(g6, u8s ns, 26), (g5, u8s ks, 24)]) (by kernel_rfl) hm ?_
  clear hm
  intro w4 hm
  refine anyH_take 0 (v := .agg (u8s ks).toArray) rfl (by kernel_rfl) (by kernel_rfl) (by kernel_rfl) rfl (fun W hW => exec_lds 0 _ (Mem.get hW 1 rfl) rfl _ un_key rfl 32 sz_key (by rw [HKU.out]; omega) (by rw [List.drop_zero, List.take_of_length_le (Nat.le_of_eq HKU.out)])) hm ?_
  go_simp
  refine anyH_take 1 (v := .agg (u8s ns).toArray) rfl (by kernel_rfl) (by kernel_rfl) (by kernel_rfl) rfl (fun W hW => exec_lds 0 _ (Mem.get hW 0 rfl) rfl _ un_nce rfl 12 sz_nce (by rw [HNU.out]; omega) (by rw [List.drop_zero, List.take_of_length_le (Nat.le_of_eq HNU.out)])) hm ?_
  go_simp
  refine anyH_take 2 (v := .int .u32 c) rfl (by kernel_rfl) (by kernel_rfl) (by kernel_rfl) rfl (fun W _ => by go_simp) hm ?_
  go_simp
  refine anyH_take 3 (v := .slice pa xs.length ca) rfl (by kernel_rfl) (by kernel_rfl) (by kernel_rfl) rfl (fun W _ => by go_simp) hm ?_
  go_simp
  refine anyH_take 5 (v := .agg (u8s ks).toArray) rfl (by kernel_rfl) (by kernel_rfl) (by kernel_rfl) rfl (fun W hW => exec_lds 0 _ (Mem.get hW 1 rfl) rfl _ un_key rfl 32 sz_key (by rw [HKU.out]; omega) (by rw [List.drop_zero, List.take_of_length_le (Nat.le_of_eq HKU.out)])) hm ?_
  go_simp
  refine anyH_take 6 (v := .agg (u8s ns).toArray) rfl (by kernel_rfl) (by kernel_rfl) (by kernel_rfl) rfl (fun W hW => exec_lds 0 _ (Mem.get hW 0 rfl) rfl _ un_nce rfl 12 sz_nce (by rw [HNU.out]; omega) (by rw [List.drop_zero, List.take_of_length_le (Nat.le_of_eq HNU.out)])) hm ?_
  go_simp
  refine anyH_take 7 (v := .int .u32 c) rfl (by kernel_rfl) (by kernel_rfl) (by kernel_rfl) rfl (fun W _ => by go_simp) hm ?_
  go_simp
  refine anyH_take 8 (v := .slice pb ys.length cb) rfl (by kernel_rfl) (by kernel_rfl) (by kernel_rfl) rfl (fun W _ => by go_simp) hm ?_
  go_simp
  refine wpAnyH_all (rs := [4]) (by kernel_rfl) (by simp) ?_
  intro i hi
  simp only [List.mem_cons, List.not_mem_nil, or_false] at hi
  subst hi
  refine anyH_op 4 rfl rfl ?_
  intro K hK
  go_wp2_with (go_at_call 13; refine (xor_any ks ns xs c _ HKL.out HNL.out HKB.out HNB.out HC.out (by omega) _ (QTab.mem HT.out hm (by simp)) (SlOld.mem HXS.out hm)).mono ?_; rintro e w5 ⟨gx, rfl, hge, hr, hb⟩; replace hm := hm.callNew hb hr hge; clear hb hr hge)
  refine hK _ _ hm.tail ?_
  clear hK K
  refine wpAnyH_all (rs := [9]) (by kernel_rfl) (by simp) ?_
  intro i hi
  simp only [List.mem_cons, List.not_mem_nil, or_false] at hi
  subst hi
  refine anyH_op 9 rfl rfl ?_
  intro K hK
  go_wp2_with (go_at_call 13; refine (xor_any ks ns ys c _ HKL.out HNL.out HKB.out HNB.out HC.out (by omega) _ (QTab.mem HT.out hm (by simp)) (SlOld.mem HYS.out hm)).mono ?_; rintro e w6 ⟨gy, rfl, hge, hr, hb⟩; replace hm := hm.callNew hb hr hge; clear hb hr hge)
  refine hK _ _ hm.tail.tail ?_
  clear hK K
  refine anyH_take 10 (v := .slice (some ⟨gx, 0, none⟩) xs.length xs.length) rfl (by kernel_rfl) (by kernel_rfl) (by kernel_rfl) rfl (fun W _ => by go_simp) hm.tail.tail ?_
  go_simp
  refine anyH_take 11 (v := .slice (some ⟨gy, 0, none⟩) ys.length ys.length) rfl (by kernel_rfl) (by kernel_rfl) (by kernel_rfl) rfl (fun W _ => by go_simp) hm.tail.tail ?_
  go_simp
  refine wpAnyH_done (by kernel_rfl) ?_ _
  simp only [endsIn]
  go_wp2_with fail
  go_loopw [13] (fun vi wr => ∃ i : Nat, i ≤ xs.length ∧ i ≤ ys.length ∧ vi = .int .i64 i ∧ Mem w [] wr [(gy, u8s (xorOf ks ns c ys), 5), (gx, u8s (xorOf ks ns c xs), 5), (g6, u8s ns, 26), (g5, u8s ks, 24)]) (fun vi _ => xs.length - (intOf vi).toNat)
  case atStart => exact ⟨0, by omega, by omega, rfl, hm⟩
  case round =>
    clear hm
    obtain ⟨i, hi, hi2, rfl, hm⟩ := hrel
    by_cases hlx : i < xs.length
    · have hxi : (i : Int) < (xs.length : Int) := by omega
      by_cases hly : i < ys.length
      · have hyi : (i : Int) < (ys.length : Int) := by omega
        obtain ⟨ba, oa, rfl, hsa⟩ := HXS.out.src0.2.2 (by omega)
        obtain ⟨bb, ob, rfl, hsb⟩ := HYS.out.src0.2.2 (by omega)
        obtain ⟨A, hA⟩ : ∃ A, A = xs.getD i 0 := ⟨_, rfl⟩
        obtain ⟨B, hB⟩ : ∃ B, B = ys.getD i 0 := ⟨_, rfl⟩
        obtain ⟨X, hX⟩ : ∃ X, X = (xorOf ks ns c xs).getD i 0 := ⟨_, rfl⟩
        obtain ⟨Y, hY⟩ : ∃ Y, Y = (xorOf ks ns c ys).getD i 0 := ⟨_, rfl⟩
        have hxy : bits .xor .u8 X Y = bits .xor .u8 A B := by
          rw [hX, hY, hA, hB, xorOf_get _ _ _ _ _ hlx, xorOf_get _ _ _ _ _ hly]
          exact xor_both8 (Bytes.get HBX.out i) (Bytes.get HBY.out i) (keyAt_byte _ _ _ _)
        have ca1 : wr.cell? ⟨ba, oa + i, none⟩ = some (.int .u8 A) := by rw [hm.old (p := ⟨ba, oa + i, none⟩) (hsa.lt (by omega)) (by simp), hA]; exact hsa i hlx
        have cb1 : wr.cell? ⟨bb, ob + i, none⟩ = some (.int .u8 B) := by rw [hm.old (p := ⟨bb, ob + i, none⟩) (hsb.lt (by omega)) (by simp), hB]; exact hsb i hly
        have cx1 : wr.cell? ⟨gx, i, none⟩ = some (.int .u8 X) := by rw [hm.cell 1 rfl, u8s_get _ _ (by rw [xorOf_length]; exact hlx), hX]
        have cy1 : wr.cell? ⟨gy, i, none⟩ = some (.int .u8 Y) := by rw [hm.cell 0 rfl, u8s_get _ _ (by rw [xorOf_length]; exact hly), hY]
        have HM : Hid _ := hm
        clear hm hsa hsb hA hB hX hY
        go_wp2_with fail
        go_quiet (fail)
        go_wp2_with fail
        go_roundw
        case rel => exact ⟨i + 1, by omega, by omega, by go_num, HM.out.drewN _⟩
        case measure => simp [intOf]; omega
      · have hyi : ¬ (i : Int) < (ys.length : Int) := by omega
        go_wp2_with fail
        go_ret
        exact ⟨rfl, hm.below⟩
    · have hxi : ¬ (i : Int) < (xs.length : Int) := by omega
      go_wp2_with fail
      go_ret
      exact ⟨rfl, hm.below⟩
end Go.Proofs.YtalhobmnbikbfaaDoor
