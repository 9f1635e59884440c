/- The walk of the law StreamTells. -/
import Derived.Test.YtalhobmnbikbfaaDoorStKnown
import Derived.Test.YtalhobmnbikbfaaDoorStRefY
namespace Go.Proofs.YtalhobmnbikbfaaDoor
open Go Go.RowKit

theorem eg_b64 : Tryd.prog.eqGuardType Tryd.prog.depth 31 = false := by kernel_rfl
theorem exec_eqaB {P : Program} {ar : Act} {w : World} {dst : Option Tmp} {typ : TypeId} {pos : String} {aft : Array Edge} {gd : Option (Nat × Bool)} {t : TypeId} {x y : Operand} {rt : TypeId} (e : TypeId) (n : Nat) (k : IntKind) (xs ys : List Int) (v : Bool) (hv : decide (xs = ys) = v) (hx : ar.eval x = .agg (xs.map (Value.int k)).toArray) (hy : ar.eval y = .agg (ys.map (Value.int k)).toArray) (ht : P.underlying t = some (.array n e)) (he : P.underlying e = some (.int k)) (hs : (P.info? e).map (·.size) = some 1) (hm : P.eqGuardType P.depth t = false) (h1 : xs.length = n) (h2 : ys.length = n) :
    (execOp ar.eval { dst := dst, op := .binOp .eql t x y rt, type := typ, pos := pos, after := aft, guard := gd }).run P w = .ok (.value (.bool v)) w := by
  subst hv
  exact exec_eqa e n k xs ys hx hy ht he hs hm h1 h2
set_option maxHeartbeats 2000000 in
set_option maxRecDepth 100000 in
theorem streamTells_walk (a b c0 d : Int) (ks ns ms : List Int) (c : Int) (v : Value) (hkl : ks.length = 32) (hnl : ns.length = 12) (hkb : Bytes ks) (hnb : Bytes ns) (hc : Word c) (w : World) (ht : QTab w) (hv : SlOld w v ms) :
    Calls Tryd.prog 3 #[.int .u32 a, .int .u32 b, .int .u32 c0, .int .u32 d, .agg (u8s ks).toArray, .agg (u8s ns).toArray, .int .u32 c, v] w fun e w' => e = .returned (.bool true) ∧ Below w.heap.size w w' := by
  obtain ⟨p, cap, rfl, hcap⟩ := hv.len
  have hm := Mem.start w
  have HT : Hid _ := ht
  have HKB : Hid _ := hkb
  have HNB : Hid _ := hnb
  have HKL : Hid _ := hkl
  have HNL : Hid _ := hnl
  have HC : Hid _ := hc
  have HKU : Hid ((u8s ks).length = 32) := by show _ = _; rw [u8s_length]; exact hkl
  have HNU : Hid ((u8s ns).length = 12) := by show _ = _; rw [u8s_length]; exact hnl
  obtain ⟨hc0, hc1⟩ := hc
  clear ht hkb hnb hkl hnl
  have HV : Hid (SlOld w (.slice p ms.length cap) ms) := hv
  clear hv
  by_cases h300 : 300 < ms.length
  · have h1i : (300 : Int) < (ms.length : Int) := by omega
    go_enter Tryd.func3, Tryd.ntmps3
    go_wp2_with (first
      | ((with_reducible refine at_op (some 12) (.box 24 (.tmp 4)) ?_); refine wpl_box (u8s ks) rfl hm ?_; clear hm; intro w1 g12 hm)
      | ((with_reducible refine at_op (some 13) (.box 26 (.tmp 5)) ?_); refine wpl_box (u8s ns) rfl hm ?_; clear hm; intro w2 g13 hm)
      | (go_at_call 8; refine (known4_any _ (QTab.mem HT.out hm (by simp))).mono ?_; rintro e w3 ⟨rfl, hb⟩; replace hm := hm.call hb; clear hb))
    go_ret
    exact ⟨rfl, hm.below⟩
  have h1i : ¬ (300 : Int) < (ms.length : Int) := by omega
  obtain ⟨Y, hY⟩ : ∃ Y, Y = quart a b c0 d := ⟨_, rfl⟩
  obtain ⟨ya, yb, yc, yd⟩ := Y
  have HY : Hid (∀ _ : Unit, quart a b c0 d = (ya, yb, yc, yd)) := fun _ => hY.symm
  obtain ⟨X, hX⟩ : ∃ X, X = xorOf ks ns c ms := ⟨_, rfl⟩
  have HXE : Hid (∀ _ : Unit, xorOf ks ns c ms = X) := fun _ => hX.symm
  have HXL : Hid (X.length = ms.length) := by show _ = _; rw [hX, xorOf_length]
  obtain ⟨B, hB⟩ : ∃ B, B = blockOf ks ns c := ⟨_, rfl⟩
  have HBE : Hid (∀ _ : Unit, blockOf ks ns c = B) := fun _ => hB.symm
  have HBL : Hid (B.length = 64) := by show _ = _; rw [hB, blockOf_length]
  clear hY hX hB
  go_enter Tryd.func3, Tryd.ntmps3
  go_wp2_with (first
    | ((with_reducible refine at_op (some 12) (.box 24 (.tmp 4)) ?_); refine wpl_box (u8s ks) rfl hm ?_; clear hm; intro w1 g12 hm)
    | ((with_reducible refine at_op (some 13) (.box 26 (.tmp 5)) ?_); refine wpl_box (u8s ns) rfl hm ?_; clear hm; intro w2 g13 hm)
    | (go_at_call 8; refine (known4_any _ (QTab.mem HT.out hm (by simp))).mono ?_; rintro e w3 ⟨rfl, hb⟩; replace hm := hm.call hb; clear hb)
    | (go_at_call 9; refine (quarter_at _ _ _ _ ya yb yc yd (HY.out ()) _).mono ?_; rintro e w4 ⟨rfl, hw⟩; replace hw := hw.symm; subst hw)
    | (go_at_call 10; refine (quarterRef_at _ _ _ _ ya yb yc yd (HY.out ()) _).mono ?_; rintro e w5 ⟨rfl, hw⟩; replace hw := hw.symm; subst hw))

  refine wp_ends0 ?_
  refine anyH_start (T := fun W => Mem w [] W [(g13, u8s ns, 26), (g12, u8s ks, 24)]) (by kernel_rfl) hm ?_
  clear hm
  intro w6 hm
  refine anyH_take 0 (v := .int .u32 ya) rfl (by kernel_rfl) (by kernel_rfl) (by kernel_rfl) rfl (fun W _ => by go_simp) hm ?_
  go_simp
  refine anyH_take 1 (v := .int .u32 ya) rfl (by kernel_rfl) (by kernel_rfl) (by kernel_rfl) rfl (fun W _ => by go_simp) hm ?_
  go_simp
  refine anyH_take 2 (v := .bool true) rfl (by kernel_rfl) (by kernel_rfl) (by kernel_rfl) rfl (fun W _ => by go_simp) hm ?_
  go_simp
  refine anyH_take 3 (v := .bool true) rfl (by kernel_rfl) (by kernel_rfl) (by kernel_rfl) rfl (fun W _ => by go_simp) hm ?_
  go_simp
  refine anyH_takeG 4 (v := .int .u32 yb) rfl (by kernel_rfl) (by kernel_rfl) (by kernel_rfl) rfl (fun W _ => by go_simp) hm ?_
  go_simp
  refine anyH_takeG 5 (v := .int .u32 yb) rfl (by kernel_rfl) (by kernel_rfl) (by kernel_rfl) rfl (fun W _ => by go_simp) hm ?_
  go_simp
  refine anyH_takeG 6 (v := .bool true) rfl (by kernel_rfl) (by kernel_rfl) (by kernel_rfl) rfl (fun W _ => by go_simp) hm ?_
  go_simp
  refine anyH_take 7 (v := .bool true) rfl (by kernel_rfl) (by kernel_rfl) (by kernel_rfl) rfl (fun W _ => by go_simp) hm ?_
  go_simp
  refine anyH_take 8 (v := .bool true) rfl (by kernel_rfl) (by kernel_rfl) (by kernel_rfl) rfl (fun W _ => by go_simp) hm ?_
  go_simp
  refine anyH_takeG 9 (v := .int .u32 yc) rfl (by kernel_rfl) (by kernel_rfl) (by kernel_rfl) rfl (fun W _ => by go_simp) hm ?_
  go_simp
  refine anyH_takeG 10 (v := .int .u32 yc) rfl (by kernel_rfl) (by kernel_rfl) (by kernel_rfl) rfl (fun W _ => by go_simp) hm ?_
  go_simp
  refine anyH_takeG 11 (v := .bool true) rfl (by kernel_rfl) (by kernel_rfl) (by kernel_rfl) rfl (fun W _ => by go_simp) hm ?_
  go_simp
  refine anyH_take 12 (v := .bool true) rfl (by kernel_rfl) (by kernel_rfl) (by kernel_rfl) rfl (fun W _ => by go_simp) hm ?_
  go_simp
  refine anyH_take 13 (v := .bool true) rfl (by kernel_rfl) (by kernel_rfl) (by kernel_rfl) rfl (fun W _ => by go_simp) hm ?_
  go_simp
  refine anyH_takeG 14 (v := .int .u32 yd) rfl (by kernel_rfl) (by kernel_rfl) (by kernel_rfl) rfl (fun W _ => by go_simp) hm ?_
  go_simp
  refine anyH_takeG 15 (v := .int .u32 yd) rfl (by kernel_rfl) (by kernel_rfl) (by kernel_rfl) rfl (fun W _ => by go_simp) hm ?_
  go_simp
  refine anyH_takeG 16 (v := .bool true) rfl (by kernel_rfl) (by kernel_rfl) (by kernel_rfl) rfl (fun W _ => by go_simp) hm ?_
  go_simp
  refine anyH_take 17 (v := .bool true) rfl (by kernel_rfl) (by kernel_rfl) (by kernel_rfl) rfl (fun W _ => by go_simp) hm ?_
  go_simp
  refine anyH_take 18 (v := .bool true) rfl (by kernel_rfl) (by kernel_rfl) (by kernel_rfl) rfl (fun W _ => by go_simp) hm ?_
  go_simp
  refine anyH_takeG 19 (v := .agg (u8s ks).toArray) rfl (by kernel_rfl) (by kernel_rfl) (by kernel_rfl) rfl (fun W hW => exec_ldsG 0 _ (Mem.get hW 1 rfl) rfl _ un_key rfl 32 sz_key (by rw [HKU.out]; omega) (by rw [List.drop_zero, List.take_of_length_le (Nat.le_of_eq HKU.out)])) hm ?_
  go_simp
  refine anyH_takeG 20 (v := .agg (u8s ns).toArray) rfl (by kernel_rfl) (by kernel_rfl) (by kernel_rfl) rfl (fun W hW => exec_ldsG 0 _ (Mem.get hW 0 rfl) rfl _ un_nce rfl 12 sz_nce (by rw [HNU.out]; omega) (by rw [List.drop_zero, List.take_of_length_le (Nat.le_of_eq HNU.out)])) hm ?_
  go_simp
  refine anyH_takeG 21 (v := .int .u32 c) rfl (by kernel_rfl) (by kernel_rfl) (by kernel_rfl) rfl (fun W _ => by go_simp) hm ?_
  go_simp
  refine anyH_takeG 23 (v := .agg (u8s ks).toArray) rfl (by kernel_rfl) (by kernel_rfl) (by kernel_rfl) rfl (fun W hW => exec_ldsG 0 _ (Mem.get hW 1 rfl) rfl _ un_key rfl 32 sz_key (by rw [HKU.out]; omega) (by rw [List.drop_zero, List.take_of_length_le (Nat.le_of_eq HKU.out)])) hm ?_
  go_simp
  refine anyH_takeG 24 (v := .agg (u8s ns).toArray) rfl (by kernel_rfl) (by kernel_rfl) (by kernel_rfl) rfl (fun W hW => exec_ldsG 0 _ (Mem.get hW 0 rfl) rfl _ un_nce rfl 12 sz_nce (by rw [HNU.out]; omega) (by rw [List.drop_zero, List.take_of_length_le (Nat.le_of_eq HNU.out)])) hm ?_
  go_simp
  refine anyH_takeG 25 (v := .int .u32 c) rfl (by kernel_rfl) (by kernel_rfl) (by kernel_rfl) rfl (fun W _ => by go_simp) hm ?_
  go_simp
  refine wpAnyH_all (rs := [22]) (by kernel_rfl) (by simp) ?_
  intro i hi
  simp only [List.mem_cons, List.not_mem_nil, or_false] at hi
  subst hi
  refine anyH_opW 22 rfl rfl ?_
  intro K hK
  go_wp2_with (go_at_call 11; refine (block_any ks ns c HKL.out HNL.out HKB.out HNB.out _ (QTab.mem HT.out hm (by simp))).mono ?_; rintro e w7 ⟨he, hb⟩; rw [HBE.out ()] at he; subst he; replace hm := hm.call hb; clear hb)
  refine hK _ _ hm ?_
  clear hK K
  refine wpAnyH_all (rs := [26]) (by kernel_rfl) (by simp) ?_
  intro i hi
  simp only [List.mem_cons, List.not_mem_nil, or_false] at hi
  subst hi
  refine anyH_opW 26 rfl rfl ?_
  intro K hK
  go_wp2_with (go_at_call 12; refine (blockRef_any ks ns c HKL.out HNL.out HKB.out HNB.out _).mono ?_; rintro e w8 ⟨he, hb⟩; rw [HBE.out ()] at he; subst he; replace hm := hm.call hb; clear hb)
  refine hK _ _ hm ?_
  clear hK K
  refine anyH_takeG 27 (v := .bool true) rfl (by kernel_rfl) (by kernel_rfl) (by kernel_rfl) rfl (fun W _ => exec_eqaB _ 64 .u8 B B true (decide_eq_true rfl) rfl rfl un_b64 un_u8 sz_u8 eg_b64 HBL.out HBL.out) hm ?_
  go_simp
  refine anyH_take 28 (v := .bool true) rfl (by kernel_rfl) (by kernel_rfl) (by kernel_rfl) rfl (fun W _ => by go_simp) hm ?_
  go_simp
  refine anyH_take 29 (v := .bool true) rfl (by kernel_rfl) (by kernel_rfl) (by kernel_rfl) rfl (fun W _ => by go_simp) hm ?_
  go_simp
  refine anyH_takeG 30 (v := .agg (u8s ks).toArray) rfl (by kernel_rfl) (by kernel_rfl) (by kernel_rfl) rfl (fun W hW => exec_ldsG 0 _ (Mem.get hW 1 rfl) rfl _ un_key rfl 32 sz_key (by rw [HKU.out]; omega) (by rw [List.drop_zero, List.take_of_length_le (Nat.le_of_eq HKU.out)])) hm ?_
  go_simp
  refine anyH_takeG 31 (v := .agg (u8s ns).toArray) rfl (by kernel_rfl) (by kernel_rfl) (by kernel_rfl) rfl (fun W hW => exec_ldsG 0 _ (Mem.get hW 0 rfl) rfl _ un_nce rfl 12 sz_nce (by rw [HNU.out]; omega) (by rw [List.drop_zero, List.take_of_length_le (Nat.le_of_eq HNU.out)])) hm ?_
  go_simp
  refine anyH_takeG 32 (v := .int .u32 c) rfl (by kernel_rfl) (by kernel_rfl) (by kernel_rfl) rfl (fun W _ => by go_simp) hm ?_
  go_simp
  refine anyH_takeG 33 (v := .slice p ms.length cap) rfl (by kernel_rfl) (by kernel_rfl) (by kernel_rfl) rfl (fun W _ => by go_simp) hm ?_
  go_simp
  refine anyH_takeG 36 (v := .agg (u8s ks).toArray) rfl (by kernel_rfl) (by kernel_rfl) (by kernel_rfl) rfl (fun W hW => exec_ldsG 0 _ (Mem.get hW 1 rfl) rfl _ un_key rfl 32 sz_key (by rw [HKU.out]; omega) (by rw [List.drop_zero, List.take_of_length_le (Nat.le_of_eq HKU.out)])) hm ?_
  go_simp
  refine anyH_takeG 37 (v := .agg (u8s ns).toArray) rfl (by kernel_rfl) (by kernel_rfl) (by kernel_rfl) rfl (fun W hW => exec_ldsG 0 _ (Mem.get hW 0 rfl) rfl _ un_nce rfl 12 sz_nce (by rw [HNU.out]; omega) (by rw [List.drop_zero, List.take_of_length_le (Nat.le_of_eq HNU.out)])) hm ?_
  go_simp
  refine anyH_takeG 38 (v := .int .u32 c) rfl (by kernel_rfl) (by kernel_rfl) (by kernel_rfl) rfl (fun W _ => by go_simp) hm ?_
  go_simp
  refine anyH_takeG 39 (v := .slice p ms.length cap) rfl (by kernel_rfl) (by kernel_rfl) (by kernel_rfl) rfl (fun W _ => by go_simp) hm ?_
  go_simp
  refine wpAnyH_all (rs := [34]) (by kernel_rfl) (by simp) ?_
  intro i hi
  simp only [List.mem_cons, List.not_mem_nil, or_false] at hi
  subst hi
  refine anyH_opW 34 rfl rfl ?_
  intro K hK
  go_wp2_with (go_at_call 13; refine (xor_any ks ns ms c _ HKL.out HNL.out HKB.out HNB.out HC.out (by omega) _ (QTab.mem HT.out hm (by simp)) (SlOld.mem HV.out hm)).mono ?_; rintro e w10 ⟨gx, rfl, hge, hr, hb⟩; rw [HXE.out ()] at hr; replace hm := hm.callNew hb hr hge; clear hb hr hge)
  refine hK _ _ hm.tail ?_
  clear hK K
  refine wpAnyH_all (rs := [35, 40]) (by kernel_rfl) (by simp) ?_
  intro i hi
  simp only [List.mem_cons, List.not_mem_nil, or_false] at hi
  rcases hi with rfl | rfl
  · refine anyH_opW 35 rfl rfl ?_
    intro K hK
    refine wpl_execG (.string (strOf X)) rfl (exec_tostr un_bs un_u8 un_strT _ rfl (old_all (hm.get 0 rfl) HXL.out (Nat.le_refl _))) ?_
    refine wpList_nil ?_
    refine hK _ _ hm.tail ?_
    clear hK K
    refine wpAnyH_all (rs := [40]) (by kernel_rfl) (by simp) ?_
    intro i hi
    simp only [List.mem_cons, List.not_mem_nil, or_false] at hi
    subst hi
    refine anyH_opW 40 rfl rfl ?_
    intro K hK
    go_wp2_with (go_at_call 14; refine (xorRef4_any ks ns ms c _ HKL.out HNL.out HKB.out HNB.out HC.out (by omega) _ (SlOld.mem HV.out hm)).mono ?_; rintro e w9 ⟨v90, rfl, hs90, hb⟩; rw [HXE.out ()] at hs90; obtain ⟨p90, c90, rfl, _⟩ := hs90.len; have HS90 : Hid (SlOld w9 (.slice p90 X.length c90) X) := hs90; replace hm := hm.call hb; clear hb hs90)
    refine hK _ _ hm.tail ?_
    clear hK K
    refine wpAnyH_all (rs := [41]) (by kernel_rfl) (by simp) ?_
    intro i hi
    simp only [List.mem_cons, List.not_mem_nil, or_false] at hi
    subst hi
    refine anyH_opW 41 rfl rfl ?_
    intro K hK
    refine wpl_execG (.string (strOf X)) rfl (exec_tostr un_bs un_u8 un_strT _ rfl HS90.out) ?_
    refine wpList_nil ?_
    refine hK _ _ hm.tail ?_
    clear hK K
    refine anyH_takeG 42 (v := .bool true) rfl (by kernel_rfl) (by kernel_rfl) (by kernel_rfl) rfl (fun W _ => exec_eqsB (strOf X) (strOf X) true rfl rfl (beq_self_str _)) hm.tail ?_
    go_simp
    refine anyH_take 43 (v := .bool true) rfl (by kernel_rfl) (by kernel_rfl) (by kernel_rfl) rfl (fun W _ => by go_simp) hm.tail ?_
    go_simp
    refine anyH_take 44 (v := .bool true) rfl (by kernel_rfl) (by kernel_rfl) (by kernel_rfl) rfl (fun W _ => by go_simp) hm.tail ?_
    go_simp
    refine wpAnyH_done (by kernel_rfl) ?_ _
    simp only [endsIn]
    go_wp2_with fail
    go_ret
    exact ⟨rfl, hm.below⟩
  · refine anyH_opW 40 rfl rfl ?_
    intro K hK
    go_wp2_with (go_at_call 14; refine (xorRef4_any ks ns ms c _ HKL.out HNL.out HKB.out HNB.out HC.out (by omega) _ (SlOld.mem HV.out hm)).mono ?_; rintro e w9 ⟨v90, rfl, hs90, hb⟩; rw [HXE.out ()] at hs90; obtain ⟨p90, c90, rfl, _⟩ := hs90.len; have HS90 : Hid (SlOld w9 (.slice p90 X.length c90) X) := hs90; replace hm := hm.call hb; clear hb hs90)
    refine hK _ _ hm.tail ?_
    clear hK K
    refine wpAnyH_all (rs := [35, 41]) (by kernel_rfl) (by simp) ?_
    intro i hi
    simp only [List.mem_cons, List.not_mem_nil, or_false] at hi
    rcases hi with rfl | rfl
    · refine anyH_opW 35 rfl rfl ?_
      intro K hK
      refine wpl_execG (.string (strOf X)) rfl (exec_tostr un_bs un_u8 un_strT _ rfl (old_all (hm.get 0 rfl) HXL.out (Nat.le_refl _))) ?_
      refine wpList_nil ?_
      refine hK _ _ hm.tail ?_
      clear hK K
      refine wpAnyH_all (rs := [41]) (by kernel_rfl) (by simp) ?_
      intro i hi
      simp only [List.mem_cons, List.not_mem_nil, or_false] at hi
      subst hi
      refine anyH_opW 41 rfl rfl ?_
      intro K hK
      refine wpl_execG (.string (strOf X)) rfl (exec_tostr un_bs un_u8 un_strT _ rfl HS90.out) ?_
      refine wpList_nil ?_
      refine hK _ _ hm.tail ?_
      clear hK K
      refine anyH_takeG 42 (v := .bool true) rfl (by kernel_rfl) (by kernel_rfl) (by kernel_rfl) rfl (fun W _ => exec_eqsB (strOf X) (strOf X) true rfl rfl (beq_self_str _)) hm.tail ?_
      go_simp
      refine anyH_take 43 (v := .bool true) rfl (by kernel_rfl) (by kernel_rfl) (by kernel_rfl) rfl (fun W _ => by go_simp) hm.tail ?_
      go_simp
      refine anyH_take 44 (v := .bool true) rfl (by kernel_rfl) (by kernel_rfl) (by kernel_rfl) rfl (fun W _ => by go_simp) hm.tail ?_
      go_simp
      refine wpAnyH_done (by kernel_rfl) ?_ _
      simp only [endsIn]
      go_wp2_with fail
      go_ret
      exact ⟨rfl, hm.below⟩
    · refine anyH_opW 41 rfl rfl ?_
      intro K hK
      refine wpl_execG (.string (strOf X)) rfl (exec_tostr un_bs un_u8 un_strT _ rfl HS90.out) ?_
      refine wpList_nil ?_
      refine hK _ _ hm.tail ?_
      clear hK K
      refine wpAnyH_all (rs := [35]) (by kernel_rfl) (by simp) ?_
      intro i hi
      simp only [List.mem_cons, List.not_mem_nil, or_false] at hi
      subst hi
      refine anyH_opW 35 rfl rfl ?_
      intro K hK
      refine wpl_execG (.string (strOf X)) rfl (exec_tostr un_bs un_u8 un_strT _ rfl (old_all (hm.get 0 rfl) HXL.out (Nat.le_refl _))) ?_
      refine wpList_nil ?_
      refine hK _ _ hm.tail ?_
      clear hK K
      refine anyH_takeG 42 (v := .bool true) rfl (by kernel_rfl) (by kernel_rfl) (by kernel_rfl) rfl (fun W _ => exec_eqsB (strOf X) (strOf X) true rfl rfl (beq_self_str _)) hm.tail ?_
      go_simp
      refine anyH_take 43 (v := .bool true) rfl (by kernel_rfl) (by kernel_rfl) (by kernel_rfl) rfl (fun W _ => by go_simp) hm.tail ?_
      go_simp
      refine anyH_take 44 (v := .bool true) rfl (by kernel_rfl) (by kernel_rfl) (by kernel_rfl) rfl (fun W _ => by go_simp) hm.tail ?_
      go_simp
      refine wpAnyH_done (by kernel_rfl) ?_ _
      simp only [endsIn]
      go_wp2_with fail
      go_ret
      exact ⟨rfl, hm.below⟩
end Go.Proofs.YtalhobmnbikbfaaDoor
