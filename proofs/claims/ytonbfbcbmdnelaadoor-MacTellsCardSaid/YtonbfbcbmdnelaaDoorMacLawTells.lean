/- The walk of the law MacTells. -/
import Derived.Test.YtonbfbcbmdnelaaDoorMacRefD
import Derived.Test.YtonbfbcbmdnelaaDoorMacKnown
namespace Go.Proofs.YtonbfbcbmdnelaaDoor
open Go Go.RowKit

theorem exec_eqaK {P : Program} {ar : Act} {w : World} {dst : Option Tmp} {typ : TypeId} {pos : String} {aft : Array Edge} {gd : Option (Nat × Bool)} {t : TypeId} {x y : Operand} {rt : TypeId} (e : TypeId) (n : Nat) (k : IntKind) (xs ys : List Int) (v : Bool) (hv : decide (xs = ys) = v) (hx : ar.eval x = .agg (xs.map (Value.int k)).toArray) (hy : ar.eval y = .agg (ys.map (Value.int k)).toArray) (ht : P.underlying t = some (.array n e)) (he : P.underlying e = some (.int k)) (hs : (P.info? e).map (·.size) = some 1) (hm : P.eqGuardType P.depth t = false) (h1 : xs.length = n) (h2 : ys.length = n) :
    (execOp ar.eval { dst := dst, op := .binOp .eql t x y rt, type := typ, pos := pos, after := aft, guard := gd }).run P w = .ok (.value (.bool v)) w := by
  subst hv
  exact exec_eqa e n k xs ys hx hy ht he hs hm h1 h2
/-- Both answers at whatever number, one list. -/
theorem expand_pair (ks info : List Int) (M : Int) (hM : M < 100) (hkl : ks.length = 32) (hkb : Bytes ks) (hib : Bytes info) (hil : info.length ≤ 200) : ∃ (E : List Int) (L : Nat), E.length = L ∧
    (∀ (w : World) (v : Value), Tab w → SlOld w v info → Calls Tryd.prog 10 #[.agg (u8s ks).toArray, v, .int .i64 M] w fun e w' => ∃ g, e = .returned (.slice (some ⟨g, 0, none⟩) L L) ∧ w.heap.size ≤ g ∧ Row w' g (u8s E) 5 ∧ Below w.heap.size w w') ∧
    (∀ (w : World) (v : Value), SlOld w v info → Calls Tryd.prog 11 #[.agg (u8s ks).toArray, v, .int .i64 M] w fun e w' => ∃ v', e = .returned v' ∧ SlOld w' v' E ∧ Below w.heap.size w w') := by
  by_cases h0 : 0 ≤ M
  · obtain ⟨N, rfl⟩ : ∃ N : Nat, M = (N : Int) := ⟨M.toNat, by omega⟩
    exact ⟨expandOf ks info N, N, expandOf_length _ _ _, fun w v ht hv => expand_any ks info v N hkl hkb hib (by omega) (by omega) w ht hv, fun w v hv => expandRef_any ks info v N (by omega) hkl hkb hib (by omega) w hv⟩
  · exact ⟨[], 0, rfl, fun w v _ hv => expand_neg ks info v M (by omega) w hv, fun w v hv => expandRef_neg ks info v M (by omega) w hv⟩
set_option maxHeartbeats 4000000 in
set_option maxRecDepth 100000 in
theorem macTells_walk (xs ys ks : List Int) (va vb : Value) (s : ByteArray) (n most : Int) (hbx : Bytes xs) (hby : Bytes ys) (hkl : ks.length = 32) (hkb : Bytes ks) (hn : 0 ≤ n ∧ n < 4294967296) (hxm : xs.length ≤ 9223372036854775807) (w : World) (ht : Tab w) (hva : SlOld w va xs) (hvb : SlOld w vb ys) :
    Calls Tryd.prog 3 #[va, vb, .agg (u8s ks).toArray, .string s, .int .u32 n, .int .i64 most] w fun e w' => e = .returned (.bool true) ∧ Below w.heap.size w w' := by
  obtain ⟨pa, ca, rfl, hca⟩ := hva.len
  obtain ⟨pb, cb, rfl, hcb⟩ := hvb.len
  have hm := Mem.start w
  have HT : Hid _ := ht
  have HKL : Hid _ := hkl
  have HKB : Hid _ := hkb
  have HBX : Hid _ := hbx
  have HBY : Hid _ := hby
  have HXM : Hid _ := hxm
  have HN : Hid _ := hn
  have HA : Hid (SlOld w (.slice pa xs.length ca) xs) := hva
  have HB : Hid (SlOld w (.slice pb ys.length cb) ys) := hvb
  have HU : Hid ((u8s ks).length = 32) := by show _ = _; rw [u8s_length]; exact hkl
  by_cases h200 : 200 < xs.length
  · have h1i : (200 : Int) < (xs.length : Int) := by omega
    clear ht hkl hkb hbx hby hva hvb hn
    go_enter Tryd.func3, Tryd.ntmps3
    go_wp2_with (first
      | ((with_reducible refine at_op (some 8) (.box 24 (.tmp 2)) ?_); refine wpl_box (u8s ks) rfl hm ?_; clear hm; intro w1 g8 hm)
      | (go_at_call 6; refine (known_any _ (Tab.mem HT.out hm (by simp))).mono ?_; rintro e w3 ⟨rfl, hb⟩; replace hm := hm.call hb; clear hb))
    go_ret
    exact ⟨rfl, hm.below⟩
  have h1i : ¬ (200 : Int) < (xs.length : Int) := by omega
  by_cases h201 : 200 < ys.length
  · have h2i : (200 : Int) < (ys.length : Int) := by omega
    clear ht hkl hkb hbx hby hva hvb hn
    go_enter Tryd.func3, Tryd.ntmps3
    go_wp2_with (first
      | ((with_reducible refine at_op (some 8) (.box 24 (.tmp 2)) ?_); refine wpl_box (u8s ks) rfl hm ?_; clear hm; intro w1 g8 hm)
      | (go_at_call 6; refine (known_any _ (Tab.mem HT.out hm (by simp))).mono ?_; rintro e w3 ⟨rfl, hb⟩; replace hm := hm.call hb; clear hb))
    go_ret
    exact ⟨rfl, hm.below⟩
  have h2i : ¬ (200 : Int) < (ys.length : Int) := by omega
  by_cases h60 : 60 < s.size
  · have h3i : (60 : Int) < (s.size : Int) := by omega
    clear ht hkl hkb hbx hby hva hvb hn
    go_enter Tryd.func3, Tryd.ntmps3
    go_wp2_with (first
      | ((with_reducible refine at_op (some 8) (.box 24 (.tmp 2)) ?_); refine wpl_box (u8s ks) rfl hm ?_; clear hm; intro w1 g8 hm)
      | (go_at_call 6; refine (known_any _ (Tab.mem HT.out hm (by simp))).mono ?_; rintro e w3 ⟨rfl, hb⟩; replace hm := hm.call hb; clear hb))
    go_ret
    exact ⟨rfl, hm.below⟩
  have h3i : ¬ (60 : Int) < (s.size : Int) := by omega
  have HSZ : Hid (s.size ≤ 50000) := by show _ ≤ _; omega
  obtain ⟨M, hM⟩ : ∃ M, most.tmod 100 = M := ⟨_, rfl⟩
  have hMb : M < 100 := by rw [← hM]; exact Int.tmod_lt_of_pos _ (by omega)
  obtain ⟨E, LE, hEL, hE1, hE2⟩ := expand_pair ks xs M hMb hkl hkb hbx (by omega)
  have HEL : Hid (E.length = LE) := hEL
  have HEM : Hid _ := hE1
  have HER : Hid _ := hE2
  obtain ⟨Mc, hMc⟩ : ∃ m, m = macOf xs ys := ⟨_, rfl⟩
  have HME : Hid (∀ _ : Unit, macOf xs ys = Mc) := fun _ => hMc.symm
  have HML : Hid (Mc.length = 32) := by show _ = _; rw [hMc, macOf_length]
  obtain ⟨D, hD⟩ : ∃ D, D = deriveOf ks (strB s) n := ⟨_, rfl⟩
  have HDE : Hid (∀ _ : Unit, deriveOf ks (strB s) n = D) := fun _ => hD.symm
  have HDL : Hid (D.length = 32) := by show _ = _; rw [hD, deriveOf_length]
  obtain ⟨q, hq⟩ : ∃ q, q = decide (xs = ys) := ⟨_, rfl⟩
  have HQE : Hid (∀ _ : Unit, decide (xs = ys) = q) := fun _ => hq.symm
  have HQS : Hid (∀ _ : Unit, (strOf xs == strOf ys) = q) := by intro _; rw [hq]; exact strOf_eq hbx hby
  clear ht hkl hkb hbx hby hva hvb hn hEL hE1 hE2 hMc hD hq
  go_enter Tryd.func3, Tryd.ntmps3
  go_wp2_with (first
    | ((with_reducible refine at_op (some 8) (.box 24 (.tmp 2)) ?_); refine wpl_box (u8s ks) rfl hm ?_; clear hm; intro w1 g8 hm)
    | (go_at_call 6; refine (known_any _ (Tab.mem HT.out hm (by simp))).mono ?_; rintro e w3 ⟨rfl, hb⟩; replace hm := hm.call hb; clear hb)
    | (go_at_call 7; refine (extract_any xs ys _ _ HBX.out HBY.out (by omega) (by omega) _ (Tab.mem HT.out hm (by simp)) (SlOld.mem HA.out hm) (SlOld.mem HB.out hm)).mono ?_; rintro e w4 ⟨he, hb⟩; rw [HME.out ()] at he; subst he; replace hm := hm.call hb; clear hb)
    | ((with_reducible refine at_op (some 14) (.alloc 24) ?_); refine wpl_alloc _ zero_key hm ?_; clear hm; intro w5a g14 hm)
    | ((with_reducible refine at_op none (.store 24 (.tmp 14) (.tmp 34)) ?_); refine wpl_stw 0 (u8s Mc) hm rfl rfl rfl 32 sz_key (by simp [u8s_length]) (by rw [u8s_length]; exact HML.out) (u8s_one _) ?_; clear hm; intro w5b hm))

  refine wp_ends0 ?_
  refine anyH_start (T := fun W => Mem w [] W [(g14, u8s Mc, 24), (g8, u8s ks, 24)]) (by kernel_rfl) hm ?_
  clear hm
  intro w6 hm
  refine anyH_take 0 (v := .slice pa xs.length ca) rfl (by kernel_rfl) (by kernel_rfl) (by kernel_rfl) rfl (fun W _ => by go_simp) hm ?_
  go_simp
  refine anyH_take 1 (v := .slice pb ys.length cb) rfl (by kernel_rfl) (by kernel_rfl) (by kernel_rfl) rfl (fun W _ => by go_simp) hm ?_
  go_simp
  refine anyH_take 3 (v := .slice pa xs.length ca) rfl (by kernel_rfl) (by kernel_rfl) (by kernel_rfl) rfl (fun W _ => by go_simp) hm ?_
  go_simp
  refine anyH_take 4 (v := .slice pb ys.length cb) rfl (by kernel_rfl) (by kernel_rfl) (by kernel_rfl) rfl (fun W _ => by go_simp) hm ?_
  go_simp
  refine wpAnyH_all (rs := [2]) (by kernel_rfl) (by simp) ?_
  intro i hi
  simp only [List.mem_cons, List.not_mem_nil, or_false] at hi
  subst hi
  refine anyH_op 2 rfl rfl ?_
  intro K hK
  go_wp2_with (go_at_call 8; refine (mac_any xs ys _ _ HBX.out HBY.out (by omega) (by omega) _ (Tab.mem HT.out hm (by simp)) (SlOld.mem HA.out hm) (SlOld.mem HB.out hm)).mono ?_; rintro e w7 ⟨he, hb⟩; rw [HME.out ()] at he; subst he; replace hm := hm.call hb; clear hb)
  refine hK _ _ hm ?_
  clear hK K
  refine wpAnyH_all (rs := [5]) (by kernel_rfl) (by simp) ?_
  intro i hi
  simp only [List.mem_cons, List.not_mem_nil, or_false] at hi
  subst hi
  refine anyH_op 5 rfl rfl ?_
  intro K hK
  go_wp2_with (go_at_call 9; refine (macRef_any xs ys _ _ HBX.out HBY.out (by omega) (by omega) _ (SlOld.mem HA.out hm) (SlOld.mem HB.out hm)).mono ?_; rintro e w7b ⟨he, hb⟩; rw [HME.out ()] at he; subst he; replace hm := hm.call hb; clear hb)
  refine hK _ _ hm ?_
  clear hK K
  refine anyH_take 6 (v := .bool true) rfl (by kernel_rfl) (by kernel_rfl) (by kernel_rfl) rfl (fun W _ => exec_eqaK _ 32 .u8 Mc Mc true (decide_eq_true rfl) rfl rfl un_b32 un_u8 sz_u8 eg_b32 HML.out HML.out) hm ?_
  go_simp
  refine anyH_take 7 (v := .bool true) rfl (by kernel_rfl) (by kernel_rfl) (by kernel_rfl) rfl (fun W _ => by go_simp) hm ?_
  go_simp
  refine anyH_takeG 8 (v := .agg (u8s Mc).toArray) rfl (by kernel_rfl) (by kernel_rfl) (by kernel_rfl) rfl (fun W hW => exec_ldsG 0 _ (Mem.get hW 0 rfl) rfl _ un_key rfl 32 sz_key (by rw [u8s_length, HML.out]; omega) (by rw [List.drop_zero, List.take_of_length_le (by rw [u8s_length]; exact Nat.le_of_eq HML.out)])) hm ?_
  go_simp
  refine anyH_takeG 9 (v := .slice pa xs.length ca) rfl (by kernel_rfl) (by kernel_rfl) (by kernel_rfl) rfl (fun W _ => by go_simp) hm ?_
  go_simp
  refine anyH_takeG 10 (v := .slice pb ys.length cb) rfl (by kernel_rfl) (by kernel_rfl) (by kernel_rfl) rfl (fun W _ => by go_simp) hm ?_
  go_simp
  refine wpAnyH_all (rs := [11]) (by kernel_rfl) (by simp) ?_
  intro i hi
  simp only [List.mem_cons, List.not_mem_nil, or_false] at hi
  subst hi
  refine anyH_opW 11 rfl rfl ?_
  intro K hK
  go_wp2_with (go_at_call 9; refine (macRef_any xs ys _ _ HBX.out HBY.out (by omega) (by omega) _ (SlOld.mem HA.out hm) (SlOld.mem HB.out hm)).mono ?_; rintro e w7c ⟨he, hb⟩; rw [HME.out ()] at he; subst he; replace hm := hm.call hb; clear hb)
  refine hK _ _ hm ?_
  clear hK K
  refine anyH_takeG 12 (v := .bool true) rfl (by kernel_rfl) (by kernel_rfl) (by kernel_rfl) rfl (fun W _ => exec_eqaK _ 32 .u8 Mc Mc true (decide_eq_true rfl) rfl rfl un_key un_u8 sz_u8 eg_key HML.out HML.out) hm ?_
  go_simp
  refine anyH_take 13 (v := .bool true) rfl (by kernel_rfl) (by kernel_rfl) (by kernel_rfl) rfl (fun W _ => by go_simp) hm ?_
  go_simp
  refine anyH_take 14 (v := .bool true) rfl (by kernel_rfl) (by kernel_rfl) (by kernel_rfl) rfl (fun W _ => by go_simp) hm ?_
  go_simp
  refine anyH_takeG 15 (v := .agg (u8s ks).toArray) rfl (by kernel_rfl) (by kernel_rfl) (by kernel_rfl) rfl (fun W hW => exec_ldsG 0 _ (Mem.get hW 1 rfl) rfl _ un_key rfl 32 sz_key (by rw [HU.out]; omega) (by rw [List.drop_zero, List.take_of_length_le (Nat.le_of_eq HU.out)])) hm ?_
  go_simp
  refine anyH_takeG 16 (v := .slice pa xs.length ca) rfl (by kernel_rfl) (by kernel_rfl) (by kernel_rfl) rfl (fun W _ => by go_simp) hm ?_
  go_simp
  refine anyH_takeG 17 (v := .int .i64 M) rfl (by kernel_rfl) (by kernel_rfl) (by kernel_rfl) rfl (fun W _ => by go_simp) hm ?_
  go_simp
  refine anyH_takeG 20 (v := .agg (u8s ks).toArray) rfl (by kernel_rfl) (by kernel_rfl) (by kernel_rfl) rfl (fun W hW => exec_ldsG 0 _ (Mem.get hW 1 rfl) rfl _ un_key rfl 32 sz_key (by rw [HU.out]; omega) (by rw [List.drop_zero, List.take_of_length_le (Nat.le_of_eq HU.out)])) hm ?_
  go_simp
  refine anyH_takeG 21 (v := .slice pa xs.length ca) rfl (by kernel_rfl) (by kernel_rfl) (by kernel_rfl) rfl (fun W _ => by go_simp) hm ?_
  go_simp
  refine anyH_takeG 22 (v := .int .i64 M) rfl (by kernel_rfl) (by kernel_rfl) (by kernel_rfl) rfl (fun W _ => by go_simp) hm ?_
  go_simp
  refine wpAnyH_all (rs := [18]) (by kernel_rfl) (by simp) ?_
  intro i hi
  simp only [List.mem_cons, List.not_mem_nil, or_false] at hi
  subst hi
  refine anyH_opW 18 rfl rfl ?_
  intro K hK
  go_wp2_with (go_at_call 10; refine (HEM.out _ _ (Tab.mem HT.out hm (by simp)) (SlOld.mem HA.out hm)).mono ?_; rintro e w8 ⟨gx, rfl, hge, hr, hb⟩; replace hm := hm.callNew hb hr hge; clear hb hr hge)
  refine hK _ _ hm.tail ?_
  clear hK K
  refine wpAnyH_all (rs := [19, 23]) (by kernel_rfl) (by simp) ?_
  intro i hi
  simp only [List.mem_cons, List.not_mem_nil, or_false] at hi
  rcases hi with rfl | rfl
  · refine anyH_opW 19 rfl rfl ?_
    intro K hK
    refine wpl_execG (.string (strOf E)) rfl (exec_tostr un_bs un_u8 un_strT _ rfl (old_all (hm.get 0 rfl) HEL.out (Nat.le_refl _))) ?_
    refine wpList_nil ?_
    refine hK _ _ hm.tail ?_
    clear hK K
    refine wpAnyH_all (rs := [23]) (by kernel_rfl) (by simp) ?_
    intro i hi
    simp only [List.mem_cons, List.not_mem_nil, or_false] at hi
    subst hi
    refine anyH_opW 23 rfl rfl ?_
    intro K hK
    go_wp2_with (go_at_call 11; refine (HER.out _ _ (SlOld.mem HA.out hm)).mono ?_; rintro e w9 ⟨v58, rfl, hs58, hb⟩; obtain ⟨p58, c58, hv58, _⟩ := hs58.len; rw [HEL.out] at hv58; subst hv58; have HS58 : Hid (SlOld w9 (.slice p58 LE c58) E) := hs58; replace hm := hm.call hb; clear hb hs58)
    refine hK _ _ hm.tail ?_
    clear hK K
    refine wpAnyH_all (rs := [24]) (by kernel_rfl) (by simp) ?_
    intro i hi
    simp only [List.mem_cons, List.not_mem_nil, or_false] at hi
    subst hi
    refine anyH_opW 24 rfl rfl ?_
    intro K hK
    refine wpl_execG (.string (strOf E)) rfl (exec_tostr un_bs un_u8 un_strT _ rfl HS58.out) ?_
    refine wpList_nil ?_
    refine hK _ _ hm.tail ?_
    clear hK K
    refine anyH_takeG 25 (v := .bool true) rfl (by kernel_rfl) (by kernel_rfl) (by kernel_rfl) rfl (fun W _ => exec_eqsB (strOf E) (strOf E) true rfl rfl (beq_self_str _)) hm.tail ?_
    go_simp
    refine anyH_take 26 (v := .bool true) rfl (by kernel_rfl) (by kernel_rfl) (by kernel_rfl) rfl (fun W _ => by go_simp) hm.tail ?_
    go_simp
    refine anyH_take 27 (v := .bool true) rfl (by kernel_rfl) (by kernel_rfl) (by kernel_rfl) rfl (fun W _ => by go_simp) hm.tail ?_
    go_simp
    refine anyH_takeG 28 (v := .agg (u8s ks).toArray) rfl (by kernel_rfl) (by kernel_rfl) (by kernel_rfl) rfl (fun W hW => exec_ldsG 0 _ (Mem.get hW 1 rfl) rfl _ un_key rfl 32 sz_key (by rw [HU.out]; omega) (by rw [List.drop_zero, List.take_of_length_le (Nat.le_of_eq HU.out)])) hm.tail ?_
    go_simp
    refine anyH_takeG 29 (v := .string s) rfl (by kernel_rfl) (by kernel_rfl) (by kernel_rfl) rfl (fun W _ => by go_simp) hm.tail ?_
    go_simp
    refine anyH_takeG 30 (v := .int .u32 n) rfl (by kernel_rfl) (by kernel_rfl) (by kernel_rfl) rfl (fun W _ => by go_simp) hm.tail ?_
    go_simp
    refine anyH_takeG 32 (v := .agg (u8s ks).toArray) rfl (by kernel_rfl) (by kernel_rfl) (by kernel_rfl) rfl (fun W hW => exec_ldsG 0 _ (Mem.get hW 1 rfl) rfl _ un_key rfl 32 sz_key (by rw [HU.out]; omega) (by rw [List.drop_zero, List.take_of_length_le (Nat.le_of_eq HU.out)])) hm.tail ?_
    go_simp
    refine anyH_takeG 33 (v := .string s) rfl (by kernel_rfl) (by kernel_rfl) (by kernel_rfl) rfl (fun W _ => by go_simp) hm.tail ?_
    go_simp
    refine anyH_takeG 34 (v := .int .u32 n) rfl (by kernel_rfl) (by kernel_rfl) (by kernel_rfl) rfl (fun W _ => by go_simp) hm.tail ?_
    go_simp
    refine wpAnyH_all (rs := [31]) (by kernel_rfl) (by simp) ?_
    intro i hi
    simp only [List.mem_cons, List.not_mem_nil, or_false] at hi
    subst hi
    refine anyH_opW 31 rfl rfl ?_
    intro K hK
    go_wp2_with (go_at_call 12; refine (derive_any ks s n HKL.out HKB.out HSZ.out HN.out _ (Tab.mem HT.out hm (by simp))).mono ?_; rintro e w10 ⟨he, hb⟩; rw [HDE.out ()] at he; subst he; replace hm := hm.call hb; clear hb)
    refine hK _ _ hm.tail ?_
    clear hK K
    refine wpAnyH_all (rs := [35]) (by kernel_rfl) (by simp) ?_
    intro i hi
    simp only [List.mem_cons, List.not_mem_nil, or_false] at hi
    subst hi
    refine anyH_opW 35 rfl rfl ?_
    intro K hK
    go_wp2_with (go_at_call 13; refine (deriveRef_any ks s n HKL.out HKB.out HSZ.out HN.out _).mono ?_; rintro e w11 ⟨he, hb⟩; rw [HDE.out ()] at he; subst he; replace hm := hm.call hb; clear hb)
    refine hK _ _ hm.tail ?_
    clear hK K
    refine anyH_takeG 36 (v := .bool true) rfl (by kernel_rfl) (by kernel_rfl) (by kernel_rfl) rfl (fun W _ => exec_eqaK _ 32 .u8 D D true (decide_eq_true rfl) rfl rfl un_key un_u8 sz_u8 eg_key HDL.out HDL.out) hm.tail ?_
    go_simp
    refine anyH_take 37 (v := .bool true) rfl (by kernel_rfl) (by kernel_rfl) (by kernel_rfl) rfl (fun W _ => by go_simp) hm.tail ?_
    go_simp
    refine anyH_take 38 (v := .bool true) rfl (by kernel_rfl) (by kernel_rfl) (by kernel_rfl) rfl (fun W _ => by go_simp) hm.tail ?_
    go_simp
    refine anyH_takeG 39 (v := .slice pa xs.length ca) rfl (by kernel_rfl) (by kernel_rfl) (by kernel_rfl) rfl (fun W _ => by go_simp) hm.tail ?_
    go_simp
    refine anyH_takeG 40 (v := .slice pb ys.length cb) rfl (by kernel_rfl) (by kernel_rfl) (by kernel_rfl) rfl (fun W _ => by go_simp) hm.tail ?_
    go_simp
    refine anyH_takeG 42 (v := .slice pa xs.length ca) rfl (by kernel_rfl) (by kernel_rfl) (by kernel_rfl) rfl (fun W _ => by go_simp) hm.tail ?_
    go_simp
    refine anyH_takeG 43 (v := .string (strOf xs)) rfl (by kernel_rfl) (by kernel_rfl) (by kernel_rfl) rfl (fun W hW => exec_tostr un_bs un_u8 un_strT _ rfl (SlOld.mem HA.out hW)) hm.tail ?_
    go_simp
    refine anyH_takeG 44 (v := .slice pb ys.length cb) rfl (by kernel_rfl) (by kernel_rfl) (by kernel_rfl) rfl (fun W _ => by go_simp) hm.tail ?_
    go_simp
    refine anyH_takeG 45 (v := .string (strOf ys)) rfl (by kernel_rfl) (by kernel_rfl) (by kernel_rfl) rfl (fun W hW => exec_tostr un_bs un_u8 un_strT _ rfl (SlOld.mem HB.out hW)) hm.tail ?_
    go_simp
    refine anyH_takeG 46 (v := .bool q) rfl (by kernel_rfl) (by kernel_rfl) (by kernel_rfl) rfl (fun W _ => exec_eqsB (strOf xs) (strOf ys) q rfl rfl (HQS.out ())) hm.tail ?_
    go_simp
    refine wpAnyH_all (rs := [41]) (by kernel_rfl) (by simp) ?_
    intro i hi
    simp only [List.mem_cons, List.not_mem_nil, or_false] at hi
    subst hi
    refine anyH_opW 41 rfl rfl ?_
    intro K hK
    go_wp2_with (go_at_call 14; refine (equal_any xs ys _ _ HBX.out HBY.out HXM.out _ (SlOld.mem HA.out hm) (SlOld.mem HB.out hm)).mono ?_; rintro e w12 ⟨he, hb⟩; rw [HQE.out ()] at he; subst he; replace hm := hm.call hb; clear hb)
    refine hK _ _ hm.tail ?_
    clear hK K
    refine anyH_takeG 47 (v := .bool true) rfl (by kernel_rfl) (by kernel_rfl) (by kernel_rfl) rfl (fun W _ => by go_simp) hm.tail ?_
    go_simp
    refine anyH_take 48 (v := .bool true) rfl (by kernel_rfl) (by kernel_rfl) (by kernel_rfl) rfl (fun W _ => by go_simp) hm.tail ?_
    go_simp
    refine anyH_take 49 (v := .bool true) rfl (by kernel_rfl) (by kernel_rfl) (by kernel_rfl) rfl (fun W _ => by go_simp) hm.tail ?_
    go_simp
    refine wpAnyH_done (by kernel_rfl) ?_ _
    simp only [endsIn]
    go_wp2_with fail
    go_ret
    exact ⟨rfl, hm.below⟩
  · refine anyH_opW 23 rfl rfl ?_
    intro K hK
    go_wp2_with (go_at_call 11; refine (HER.out _ _ (SlOld.mem HA.out hm)).mono ?_; rintro e w9 ⟨v58, rfl, hs58, hb⟩; obtain ⟨p58, c58, hv58, _⟩ := hs58.len; rw [HEL.out] at hv58; subst hv58; have HS58 : Hid (SlOld w9 (.slice p58 LE c58) E) := hs58; replace hm := hm.call hb; clear hb hs58)
    refine hK _ _ hm.tail ?_
    clear hK K
    refine wpAnyH_all (rs := [19, 24]) (by kernel_rfl) (by simp) ?_
    intro i hi
    simp only [List.mem_cons, List.not_mem_nil, or_false] at hi
    rcases hi with rfl | rfl
    · refine anyH_opW 19 rfl rfl ?_
      intro K hK
      refine wpl_execG (.string (strOf E)) rfl (exec_tostr un_bs un_u8 un_strT _ rfl (old_all (hm.get 0 rfl) HEL.out (Nat.le_refl _))) ?_
      refine wpList_nil ?_
      refine hK _ _ hm.tail ?_
      clear hK K
      refine wpAnyH_all (rs := [24]) (by kernel_rfl) (by simp) ?_
      intro i hi
      simp only [List.mem_cons, List.not_mem_nil, or_false] at hi
      subst hi
      refine anyH_opW 24 rfl rfl ?_
      intro K hK
      refine wpl_execG (.string (strOf E)) rfl (exec_tostr un_bs un_u8 un_strT _ rfl HS58.out) ?_
      refine wpList_nil ?_
      refine hK _ _ hm.tail ?_
      clear hK K
      refine anyH_takeG 25 (v := .bool true) rfl (by kernel_rfl) (by kernel_rfl) (by kernel_rfl) rfl (fun W _ => exec_eqsB (strOf E) (strOf E) true rfl rfl (beq_self_str _)) hm.tail ?_
      go_simp
      refine anyH_take 26 (v := .bool true) rfl (by kernel_rfl) (by kernel_rfl) (by kernel_rfl) rfl (fun W _ => by go_simp) hm.tail ?_
      go_simp
      refine anyH_take 27 (v := .bool true) rfl (by kernel_rfl) (by kernel_rfl) (by kernel_rfl) rfl (fun W _ => by go_simp) hm.tail ?_
      go_simp
      refine anyH_takeG 28 (v := .agg (u8s ks).toArray) rfl (by kernel_rfl) (by kernel_rfl) (by kernel_rfl) rfl (fun W hW => exec_ldsG 0 _ (Mem.get hW 1 rfl) rfl _ un_key rfl 32 sz_key (by rw [HU.out]; omega) (by rw [List.drop_zero, List.take_of_length_le (Nat.le_of_eq HU.out)])) hm.tail ?_
      go_simp
      refine anyH_takeG 29 (v := .string s) rfl (by kernel_rfl) (by kernel_rfl) (by kernel_rfl) rfl (fun W _ => by go_simp) hm.tail ?_
      go_simp
      refine anyH_takeG 30 (v := .int .u32 n) rfl (by kernel_rfl) (by kernel_rfl) (by kernel_rfl) rfl (fun W _ => by go_simp) hm.tail ?_
      go_simp
      refine anyH_takeG 32 (v := .agg (u8s ks).toArray) rfl (by kernel_rfl) (by kernel_rfl) (by kernel_rfl) rfl (fun W hW => exec_ldsG 0 _ (Mem.get hW 1 rfl) rfl _ un_key rfl 32 sz_key (by rw [HU.out]; omega) (by rw [List.drop_zero, List.take_of_length_le (Nat.le_of_eq HU.out)])) hm.tail ?_
      go_simp
      refine anyH_takeG 33 (v := .string s) rfl (by kernel_rfl) (by kernel_rfl) (by kernel_rfl) rfl (fun W _ => by go_simp) hm.tail ?_
      go_simp
      refine anyH_takeG 34 (v := .int .u32 n) rfl (by kernel_rfl) (by kernel_rfl) (by kernel_rfl) rfl (fun W _ => by go_simp) hm.tail ?_
      go_simp
      refine wpAnyH_all (rs := [31]) (by kernel_rfl) (by simp) ?_
      intro i hi
      simp only [List.mem_cons, List.not_mem_nil, or_false] at hi
      subst hi
      refine anyH_opW 31 rfl rfl ?_
      intro K hK
      go_wp2_with (go_at_call 12; refine (derive_any ks s n HKL.out HKB.out HSZ.out HN.out _ (Tab.mem HT.out hm (by simp))).mono ?_; rintro e w10 ⟨he, hb⟩; rw [HDE.out ()] at he; subst he; replace hm := hm.call hb; clear hb)
      refine hK _ _ hm.tail ?_
      clear hK K
      refine wpAnyH_all (rs := [35]) (by kernel_rfl) (by simp) ?_
      intro i hi
      simp only [List.mem_cons, List.not_mem_nil, or_false] at hi
      subst hi
      refine anyH_opW 35 rfl rfl ?_
      intro K hK
      go_wp2_with (go_at_call 13; refine (deriveRef_any ks s n HKL.out HKB.out HSZ.out HN.out _).mono ?_; rintro e w11 ⟨he, hb⟩; rw [HDE.out ()] at he; subst he; replace hm := hm.call hb; clear hb)
      refine hK _ _ hm.tail ?_
      clear hK K
      refine anyH_takeG 36 (v := .bool true) rfl (by kernel_rfl) (by kernel_rfl) (by kernel_rfl) rfl (fun W _ => exec_eqaK _ 32 .u8 D D true (decide_eq_true rfl) rfl rfl un_key un_u8 sz_u8 eg_key HDL.out HDL.out) hm.tail ?_
      go_simp
      refine anyH_take 37 (v := .bool true) rfl (by kernel_rfl) (by kernel_rfl) (by kernel_rfl) rfl (fun W _ => by go_simp) hm.tail ?_
      go_simp
      refine anyH_take 38 (v := .bool true) rfl (by kernel_rfl) (by kernel_rfl) (by kernel_rfl) rfl (fun W _ => by go_simp) hm.tail ?_
      go_simp
      refine anyH_takeG 39 (v := .slice pa xs.length ca) rfl (by kernel_rfl) (by kernel_rfl) (by kernel_rfl) rfl (fun W _ => by go_simp) hm.tail ?_
      go_simp
      refine anyH_takeG 40 (v := .slice pb ys.length cb) rfl (by kernel_rfl) (by kernel_rfl) (by kernel_rfl) rfl (fun W _ => by go_simp) hm.tail ?_
      go_simp
      refine anyH_takeG 42 (v := .slice pa xs.length ca) rfl (by kernel_rfl) (by kernel_rfl) (by kernel_rfl) rfl (fun W _ => by go_simp) hm.tail ?_
      go_simp
      refine anyH_takeG 43 (v := .string (strOf xs)) rfl (by kernel_rfl) (by kernel_rfl) (by kernel_rfl) rfl (fun W hW => exec_tostr un_bs un_u8 un_strT _ rfl (SlOld.mem HA.out hW)) hm.tail ?_
      go_simp
      refine anyH_takeG 44 (v := .slice pb ys.length cb) rfl (by kernel_rfl) (by kernel_rfl) (by kernel_rfl) rfl (fun W _ => by go_simp) hm.tail ?_
      go_simp
      refine anyH_takeG 45 (v := .string (strOf ys)) rfl (by kernel_rfl) (by kernel_rfl) (by kernel_rfl) rfl (fun W hW => exec_tostr un_bs un_u8 un_strT _ rfl (SlOld.mem HB.out hW)) hm.tail ?_
      go_simp
      refine anyH_takeG 46 (v := .bool q) rfl (by kernel_rfl) (by kernel_rfl) (by kernel_rfl) rfl (fun W _ => exec_eqsB (strOf xs) (strOf ys) q rfl rfl (HQS.out ())) hm.tail ?_
      go_simp
      refine wpAnyH_all (rs := [41]) (by kernel_rfl) (by simp) ?_
      intro i hi
      simp only [List.mem_cons, List.not_mem_nil, or_false] at hi
      subst hi
      refine anyH_opW 41 rfl rfl ?_
      intro K hK
      go_wp2_with (go_at_call 14; refine (equal_any xs ys _ _ HBX.out HBY.out HXM.out _ (SlOld.mem HA.out hm) (SlOld.mem HB.out hm)).mono ?_; rintro e w12 ⟨he, hb⟩; rw [HQE.out ()] at he; subst he; replace hm := hm.call hb; clear hb)
      refine hK _ _ hm.tail ?_
      clear hK K
      refine anyH_takeG 47 (v := .bool true) rfl (by kernel_rfl) (by kernel_rfl) (by kernel_rfl) rfl (fun W _ => by go_simp) hm.tail ?_
      go_simp
      refine anyH_take 48 (v := .bool true) rfl (by kernel_rfl) (by kernel_rfl) (by kernel_rfl) rfl (fun W _ => by go_simp) hm.tail ?_
      go_simp
      refine anyH_take 49 (v := .bool true) rfl (by kernel_rfl) (by kernel_rfl) (by kernel_rfl) rfl (fun W _ => by go_simp) hm.tail ?_
      go_simp
      refine wpAnyH_done (by kernel_rfl) ?_ _
      simp only [endsIn]
      go_wp2_with fail
      go_ret
      exact ⟨rfl, hm.below⟩
    · refine anyH_opW 24 rfl rfl ?_
      intro K hK
      refine wpl_execG (.string (strOf E)) rfl (exec_tostr un_bs un_u8 un_strT _ rfl HS58.out) ?_
      refine wpList_nil ?_
      refine hK _ _ hm.tail ?_
      clear hK K
      refine wpAnyH_all (rs := [19]) (by kernel_rfl) (by simp) ?_
      intro i hi
      simp only [List.mem_cons, List.not_mem_nil, or_false] at hi
      subst hi
      refine anyH_opW 19 rfl rfl ?_
      intro K hK
      refine wpl_execG (.string (strOf E)) rfl (exec_tostr un_bs un_u8 un_strT _ rfl (old_all (hm.get 0 rfl) HEL.out (Nat.le_refl _))) ?_
      refine wpList_nil ?_
      refine hK _ _ hm.tail ?_
      clear hK K
      refine anyH_takeG 25 (v := .bool true) rfl (by kernel_rfl) (by kernel_rfl) (by kernel_rfl) rfl (fun W _ => exec_eqsB (strOf E) (strOf E) true rfl rfl (beq_self_str _)) hm.tail ?_
      go_simp
      refine anyH_take 26 (v := .bool true) rfl (by kernel_rfl) (by kernel_rfl) (by kernel_rfl) rfl (fun W _ => by go_simp) hm.tail ?_
      go_simp
      refine anyH_take 27 (v := .bool true) rfl (by kernel_rfl) (by kernel_rfl) (by kernel_rfl) rfl (fun W _ => by go_simp) hm.tail ?_
      go_simp
      refine anyH_takeG 28 (v := .agg (u8s ks).toArray) rfl (by kernel_rfl) (by kernel_rfl) (by kernel_rfl) rfl (fun W hW => exec_ldsG 0 _ (Mem.get hW 1 rfl) rfl _ un_key rfl 32 sz_key (by rw [HU.out]; omega) (by rw [List.drop_zero, List.take_of_length_le (Nat.le_of_eq HU.out)])) hm.tail ?_
      go_simp
      refine anyH_takeG 29 (v := .string s) rfl (by kernel_rfl) (by kernel_rfl) (by kernel_rfl) rfl (fun W _ => by go_simp) hm.tail ?_
      go_simp
      refine anyH_takeG 30 (v := .int .u32 n) rfl (by kernel_rfl) (by kernel_rfl) (by kernel_rfl) rfl (fun W _ => by go_simp) hm.tail ?_
      go_simp
      refine anyH_takeG 32 (v := .agg (u8s ks).toArray) rfl (by kernel_rfl) (by kernel_rfl) (by kernel_rfl) rfl (fun W hW => exec_ldsG 0 _ (Mem.get hW 1 rfl) rfl _ un_key rfl 32 sz_key (by rw [HU.out]; omega) (by rw [List.drop_zero, List.take_of_length_le (Nat.le_of_eq HU.out)])) hm.tail ?_
      go_simp
      refine anyH_takeG 33 (v := .string s) rfl (by kernel_rfl) (by kernel_rfl) (by kernel_rfl) rfl (fun W _ => by go_simp) hm.tail ?_
      go_simp
      refine anyH_takeG 34 (v := .int .u32 n) rfl (by kernel_rfl) (by kernel_rfl) (by kernel_rfl) rfl (fun W _ => by go_simp) hm.tail ?_
      go_simp
      refine wpAnyH_all (rs := [31]) (by kernel_rfl) (by simp) ?_
      intro i hi
      simp only [List.mem_cons, List.not_mem_nil, or_false] at hi
      subst hi
      refine anyH_opW 31 rfl rfl ?_
      intro K hK
      go_wp2_with (go_at_call 12; refine (derive_any ks s n HKL.out HKB.out HSZ.out HN.out _ (Tab.mem HT.out hm (by simp))).mono ?_; rintro e w10 ⟨he, hb⟩; rw [HDE.out ()] at he; subst he; replace hm := hm.call hb; clear hb)
      refine hK _ _ hm.tail ?_
      clear hK K
      refine wpAnyH_all (rs := [35]) (by kernel_rfl) (by simp) ?_
      intro i hi
      simp only [List.mem_cons, List.not_mem_nil, or_false] at hi
      subst hi
      refine anyH_opW 35 rfl rfl ?_
      intro K hK
      go_wp2_with (go_at_call 13; refine (deriveRef_any ks s n HKL.out HKB.out HSZ.out HN.out _).mono ?_; rintro e w11 ⟨he, hb⟩; rw [HDE.out ()] at he; subst he; replace hm := hm.call hb; clear hb)
      refine hK _ _ hm.tail ?_
      clear hK K
      refine anyH_takeG 36 (v := .bool true) rfl (by kernel_rfl) (by kernel_rfl) (by kernel_rfl) rfl (fun W _ => exec_eqaK _ 32 .u8 D D true (decide_eq_true rfl) rfl rfl un_key un_u8 sz_u8 eg_key HDL.out HDL.out) hm.tail ?_
      go_simp
      refine anyH_take 37 (v := .bool true) rfl (by kernel_rfl) (by kernel_rfl) (by kernel_rfl) rfl (fun W _ => by go_simp) hm.tail ?_
      go_simp
      refine anyH_take 38 (v := .bool true) rfl (by kernel_rfl) (by kernel_rfl) (by kernel_rfl) rfl (fun W _ => by go_simp) hm.tail ?_
      go_simp
      refine anyH_takeG 39 (v := .slice pa xs.length ca) rfl (by kernel_rfl) (by kernel_rfl) (by kernel_rfl) rfl (fun W _ => by go_simp) hm.tail ?_
      go_simp
      refine anyH_takeG 40 (v := .slice pb ys.length cb) rfl (by kernel_rfl) (by kernel_rfl) (by kernel_rfl) rfl (fun W _ => by go_simp) hm.tail ?_
      go_simp
      refine anyH_takeG 42 (v := .slice pa xs.length ca) rfl (by kernel_rfl) (by kernel_rfl) (by kernel_rfl) rfl (fun W _ => by go_simp) hm.tail ?_
      go_simp
      refine anyH_takeG 43 (v := .string (strOf xs)) rfl (by kernel_rfl) (by kernel_rfl) (by kernel_rfl) rfl (fun W hW => exec_tostr un_bs un_u8 un_strT _ rfl (SlOld.mem HA.out hW)) hm.tail ?_
      go_simp
      refine anyH_takeG 44 (v := .slice pb ys.length cb) rfl (by kernel_rfl) (by kernel_rfl) (by kernel_rfl) rfl (fun W _ => by go_simp) hm.tail ?_
      go_simp
      refine anyH_takeG 45 (v := .string (strOf ys)) rfl (by kernel_rfl) (by kernel_rfl) (by kernel_rfl) rfl (fun W hW => exec_tostr un_bs un_u8 un_strT _ rfl (SlOld.mem HB.out hW)) hm.tail ?_
      go_simp
      refine anyH_takeG 46 (v := .bool q) rfl (by kernel_rfl) (by kernel_rfl) (by kernel_rfl) rfl (fun W _ => exec_eqsB (strOf xs) (strOf ys) q rfl rfl (HQS.out ())) hm.tail ?_
      go_simp
      refine wpAnyH_all (rs := [41]) (by kernel_rfl) (by simp) ?_
      intro i hi
      simp only [List.mem_cons, List.not_mem_nil, or_false] at hi
      subst hi
      refine anyH_opW 41 rfl rfl ?_
      intro K hK
      go_wp2_with (go_at_call 14; refine (equal_any xs ys _ _ HBX.out HBY.out HXM.out _ (SlOld.mem HA.out hm) (SlOld.mem HB.out hm)).mono ?_; rintro e w12 ⟨he, hb⟩; rw [HQE.out ()] at he; subst he; replace hm := hm.call hb; clear hb)
      refine hK _ _ hm.tail ?_
      clear hK K
      refine anyH_takeG 47 (v := .bool true) rfl (by kernel_rfl) (by kernel_rfl) (by kernel_rfl) rfl (fun W _ => by go_simp) hm.tail ?_
      go_simp
      refine anyH_take 48 (v := .bool true) rfl (by kernel_rfl) (by kernel_rfl) (by kernel_rfl) rfl (fun W _ => by go_simp) hm.tail ?_
      go_simp
      refine anyH_take 49 (v := .bool true) rfl (by kernel_rfl) (by kernel_rfl) (by kernel_rfl) rfl (fun W _ => by go_simp) hm.tail ?_
      go_simp
      refine wpAnyH_done (by kernel_rfl) ?_ _
      simp only [endsIn]
      go_wp2_with fail
      go_ret
      exact ⟨rfl, hm.below⟩
end Go.Proofs.YtonbfbcbmdnelaaDoor
