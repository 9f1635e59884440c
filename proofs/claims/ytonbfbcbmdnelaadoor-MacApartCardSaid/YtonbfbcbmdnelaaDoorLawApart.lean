/- The walk of the law MacApart. -/
import Derived.Test.YtonbfbcbmdnelaaDoorMacApAux
import Derived.Test.YtonbfbcbmdnelaaDoorMacKnown
import Derived.Test.YtonbfbcbmdnelaaDoorAnyG
namespace Go.Proofs.YtonbfbcbmdnelaaDoor
open Go Go.RowKit
open Go.Maps
theorem wf_i64 (x : Int) (h0 : 0 ≤ x) (h1 : x < 4611686018427387904) : (Lit.int .i64 x).wf = true := by
  simp [Lit.wf, IntKind.min, IntKind.max, IntKind.signed, IntKind.bits]
  omega
set_option maxHeartbeats 4000000 in
set_option maxRecDepth 100000 in
theorem macApart_walk (ks : List Int) (p0 p1 : Option Addr) (L cap0 L1 cap1 b0 o0 b1 o1 : Nat) (S : Nat → ByteArray) (N : Nat → Int) (hkl : ks.length = 32) (hkb : Bytes ks) (w : World) (ht : Tab w)
    (hp0 : 0 < L → p0 = some ⟨b0, o0, none⟩) (hp1 : 0 < L1 → p1 = some ⟨b1, o1, none⟩) (hc0 : ∀ i, i < L → w.cell? ⟨b0, o0 + i, none⟩ = some (.string (S i)))
    (hc1 : ∀ i, i < L1 → w.cell? ⟨b1, o1 + i, none⟩ = some (.int .u32 (N i)) ∧ 0 ≤ N i ∧ N i < 4294967296) :
    Calls Tryd.prog 5 #[.agg (u8s ks).toArray, .slice p0 L cap0, .slice p1 L1 cap1] w fun e w' => e = .returned (.bool true) ∧ Below w.heap.size w w' := by
  have hm := Mem.start w
  have HT : Hid _ := ht
  have HKL : Hid _ := hkl
  have HKB : Hid _ := hkb
  have HP0 : Hid _ := hp0
  have HP1 : Hid _ := hp1
  have HC0 : Hid _ := hc0
  have HC1 : Hid _ := hc1
  have HU : Hid ((u8s ks).length = 32) := by show _ = _; rw [u8s_length]; exact hkl
  clear ht hkl hkb hp0 hp1 hc0 hc1
  by_cases h8 : 8 < L
  · have h8i : (8 : Int) < (L : Int) := by omega
    go_enter Tryd.func5, Tryd.ntmps5
    go_wp2_with (first
      | ((with_reducible refine at_op (some 3) (.box 24 (.tmp 0)) ?_); refine wpl_box (u8s ks) rfl hm ?_; clear hm; intro w1 g3 hm)
      | (go_at_call 6; refine (known_any _ (Tab.mem HT.out hm (by simp))).mono ?_; rintro e w3 ⟨rfl, hb⟩; replace hm := hm.call hb; clear hb))
    go_ret
    exact ⟨rfl, hm.below⟩
  have h8i : ¬ (8 : Int) < (L : Int) := by omega
  by_cases hll : L1 < L
  · have hlli : (L1 : Int) < (L : Int) := by omega
    go_enter Tryd.func5, Tryd.ntmps5
    go_wp2_with (first
      | ((with_reducible refine at_op (some 3) (.box 24 (.tmp 0)) ?_); refine wpl_box (u8s ks) rfl hm ?_; clear hm; intro w1 g3 hm)
      | (go_at_call 6; refine (known_any _ (Tab.mem HT.out hm (by simp))).mono ?_; rintro e w3 ⟨rfl, hb⟩; replace hm := hm.call hb; clear hb))
    go_ret
    exact ⟨rfl, hm.below⟩
  have hlli : ¬ (L1 : Int) < (L : Int) := by omega
  obtain ⟨ds, hds⟩ : ∃ f : Nat → List Int, f = fun i => deriveOf ks (strB (S i)) (N i) := ⟨_, rfl⟩
  have HDL : Hid (∀ i, (ds i).length = 32) := by intro i; rw [hds]; exact deriveOf_length _ _ _
  have hdb : ∀ i, Bytes (ds i) := by intro i; rw [hds]; exact deriveOf_bytes _ _ _
  have HDE : Hid (∀ i, deriveOf ks (strB (S i)) (N i) = ds i) := by intro i; rw [hds]
  obtain ⟨kl, hkk⟩ : ∃ kl : Nat → Lit, ∀ i, keyOf Tryd.prog 24 (.agg (u8s (ds i)).toArray) = some (kl i) := Classical.axiomOfChoice (fun i => key_of (ds i) (HDL.out i) (hdb i))
  have HKK : Hid _ := hkk
  clear hkk hdb hds
  go_enter Tryd.func5, Tryd.ntmps5
  go_wp2_with (first
    | ((with_reducible refine at_op (some 3) (.box 24 (.tmp 0)) ?_); refine wpl_box (u8s ks) rfl hm ?_; clear hm; intro w1 g3 hm)
    | (go_at_call 6; refine (known_any _ (Tab.mem HT.out hm (by simp))).mono ?_; rintro e w3 ⟨rfl, hb⟩; replace hm := hm.call hb; clear hb)
    | ((with_reducible refine at_op (some 25) (.makeMap 36 none) ?_); go_must (refine wpl_mkmap hm ?_); intro w5 m hmap hmn hm5; have HS0 : Hid (Ap w w5 m 0 (mapAt kl 0) 0 (.slice none 0 0) (flat ds 0) [(g3, u8s ks, 24)]) := Ap.start hm5 hmap hmn; clear hm hm5 hmap hmn))
  rw [show decide ((8 : Int) < (L : Int)) = false from decide_eq_false (by omega)]
  go_loopw [8, 9] (fun v8 vi wr => ∃ c : Nat, c ≤ L ∧ vi = .int .i64 (c : Int) ∧ Hid (∀ i, i < c → (S i).size ≤ 40) ∧ Hid (Ap w wr m c (mapAt kl c) c v8 (flat ds c) [(g3, u8s ks, 24)])) (fun _ vi _ => L - (intOf vi).toNat)
  case atStart => exact ⟨0, Nat.zero_le _, rfl, fun i hi => absurd hi (by omega), HS0.out⟩
  case round =>
    clear HS0
    obtain ⟨c, hc, rfl, HSM, HS⟩ := hrel
    by_cases hlt : c < L
    · obtain rfl := HP0.out (by omega)
      obtain rfl := HP1.out (by omega)
      obtain ⟨pv, cv, hv8, _⟩ := HS.out.slice
      subst hv8
      have hcs := HC0.out c hlt
      obtain ⟨hcn, hn0, hn1⟩ := HC1.out c (by omega)
      have hki : (c : Int) < (L : Int) := by omega
      have hki1 : (c : Int) < (L1 : Int) := by omega
      have HB0 : Hid (b0 < w.heap.size) := block_lt_of_cell hcs
      have HB1 : Hid (b1 < w.heap.size) := block_lt_of_cell hcn
      have HCS : Hid _ := hcs
      have HCN : Hid _ := hcn
      have HN : Hid (0 ≤ N c ∧ N c < 4294967296) := ⟨hn0, hn1⟩
      have hm := HS.out.mem
      clear hcs hcn hn0 hn1
      by_cases h40 : 40 < (S c).size
      · have h40i : (40 : Int) < ((S c).size : Int) := by omega
        go_wp2_with (first
          | ((with_reducible refine at_op (some 35) (.load 9 (.tmp 34)) ?_); go_must (refine wpl_ldx (.string (S c)) (((hm).old (p := ⟨b0, o0 + c, none⟩) HB0.out (by simp)).trans HCS.out) rfl ag_strT ?_)))
        go_ret
        exact ⟨rfl, hm.below⟩
      · have h40i : ¬ (40 : Int) < ((S c).size : Int) := by omega
        have HSZ : Hid ((S c).size ≤ 50000) := by show _ ≤ _; omega
        have HWF : Hid ((Lit.int .i64 ((c : Int) + 1)).wf = true) := wf_i64 _ (by omega) (by omega)
        have HSM2 : Hid (∀ i, i < c + 1 → (S i).size ≤ 40) := by
          intro i hi
          by_cases he : i = c
          · subst he; omega
          · exact HSM.out i (by omega)
        go_wp2_with (first
          | ((with_reducible refine at_op (some 35) (.load 9 (.tmp 34)) ?_); go_must (refine wpl_ldx (.string (S c)) (((hm).old (p := ⟨b0, o0 + c, none⟩) HB0.out (by simp)).trans HCS.out) rfl ag_strT ?_)))
        refine wp_ends0 ?_
        refine anyH_startA (T := fun W => Ap w W m c (mapAt kl c) c (.slice pv c cv) (flat ds c) [(g3, u8s ks, 24)]) (by kernel_rfl) HS.out ?_
        clear HS hm
        intro w6 st
        refine anyH_take 0 (v := .agg (u8s ks).toArray) rfl (by kernel_rfl) (by kernel_rfl) (by kernel_rfl) rfl (fun W hW => exec_lds 0 _ (Mem.get (Ap.mem hW) 0 rfl) rfl _ un_key rfl 32 sz_key (by rw [HU.out]; omega) (by rw [List.drop_zero, List.take_of_length_le (Nat.le_of_eq HU.out)])) st ?_
        go_simp
        refine anyH_take 1 (v := .slice (some ⟨b0, o0, none⟩) L cap0) rfl (by kernel_rfl) (by kernel_rfl) (by kernel_rfl) rfl (fun W _ => by go_simp) st ?_
        go_simp
        refine anyH_take 2 (v := .int .i64 (c : Int)) rfl (by kernel_rfl) (by kernel_rfl) (by kernel_rfl) rfl (fun W _ => by go_simp) st ?_
        go_simp
        refine anyH_take 3 (v := .pointer (some ⟨b0, o0 + c, none⟩)) rfl (by kernel_rfl) (by kernel_rfl) (by kernel_rfl) rfl (fun W _ => by go_simp) st ?_
        go_simp
        refine anyH_take 4 (v := .string (S c)) rfl (by kernel_rfl) (by kernel_rfl) (by kernel_rfl) rfl (fun W hW => exec_ldxG _ (((Ap.mem hW).old (p := ⟨b0, o0 + c, none⟩) HB0.out (by simp)).trans HCS.out) rfl ag_strT) st ?_
        go_simp
        refine anyH_take 5 (v := .slice (some ⟨b1, o1, none⟩) L1 cap1) rfl (by kernel_rfl) (by kernel_rfl) (by kernel_rfl) rfl (fun W _ => by go_simp) st ?_
        go_simp
        refine anyH_take 6 (v := .int .i64 (c : Int)) rfl (by kernel_rfl) (by kernel_rfl) (by kernel_rfl) rfl (fun W _ => by go_simp) st ?_
        go_simp
        refine anyH_take 7 (v := .pointer (some ⟨b1, o1 + c, none⟩)) rfl (by kernel_rfl) (by kernel_rfl) (by kernel_rfl) rfl (fun W _ => by go_simp) st ?_
        go_simp
        refine anyH_take 8 (v := .int .u32 (N c)) rfl (by kernel_rfl) (by kernel_rfl) (by kernel_rfl) rfl (fun W hW => exec_ldxG _ (((Ap.mem hW).old (p := ⟨b1, o1 + c, none⟩) HB1.out (by simp)).trans HCN.out) rfl ag_u32) st ?_
        go_simp
        refine wpAnyH_all (rs := [9, 10]) (by kernel_rfl) (by simp) ?_
        intro i hi
        simp only [List.mem_cons, List.not_mem_nil, or_false] at hi
        rcases hi with rfl | rfl
        · refine anyH_opW 9 rfl rfl ?_
          intro K hK
          go_wp2_with (go_at_call 12; refine (derive_any ks (S c) (N c) HKL.out HKB.out HSZ.out HN.out _ (Tab.mem HT.out st.mem (by simp))).mono ?_; rintro e w7 ⟨he, hb⟩; rw [HDE.out c] at he; subst he; replace st := st.below hb; clear hb)
          refine hK _ _ st ?_
          clear hK K
          refine wpAnyH_all (rs := [10]) (by kernel_rfl) (by simp) ?_
          intro i hi
          simp only [List.mem_cons, List.not_mem_nil, or_false] at hi
          subst hi
          refine anyH_opW 10 rfl rfl ?_
          intro K hK
          refine wpl_apAlloc st ?_
          clear st
          intro w8 g10 st
          refine wpList_nil ?_
          refine hK _ _ st.tail ?_
          clear hK K
          refine wpAnyH_all (rs := [11]) (by kernel_rfl) (by simp) ?_
          intro i hi
          simp only [List.mem_cons, List.not_mem_nil, or_false] at hi
          subst hi
          refine anyH_opW 11 rfl rfl ?_
          intro K hK
          refine wpl_apStore (ds c) st (by simp [u8s_length]) (HDL.out c) rfl rfl ?_
          clear st
          intro w9 st
          refine wpList_nil ?_
          refine hK _ _ st.tail ?_
          clear hK K
          refine wpAnyH_done (by kernel_rfl) ?_ _
          simp only [endsIn]
          go_wp2_with (first
            | ((with_reducible refine at_op (some 49) (.load 24 (.tmp 10)) ?_); refine wpl_ldw 0 st.mem rfl rfl _ un_key rfl 32 sz_key (by rw [u8s_length]; exact HDL.out c) ?_)
            | ((with_reducible refine at_op none (.mapUpdate 36 (.tmp 48) (.tmp 49) (.tmp 51)) ?_); go_must (refine wpList_mapUpdate_own _ rfl _ _ _ 36 rfl 24 3 key_law un_kmap (plainElem Tryd.prog 3) m c (mapAt kl c) rfl st.map (by unfold maxLen; omega) _ _ (kl c) rfl rfl (HKK.out c) (.lit (.int .i64 ((c : Int) + 1))) [] (plainElem_int un_intT HWF.out) ?_); intro w10 hown hg; have st2 := st.put hown hg; clear st hown hg; have st := st2; clear st2)
            | ((with_reducible refine at_op (some 53) (.load 24 (.tmp 10)) ?_); refine wpl_ldw 0 st.mem rfl rfl _ un_key rfl 32 sz_key (by rw [u8s_length]; exact HDL.out c) ?_)
            | ((with_reducible refine at_op (some 54) (.buildSlice 37 1 #[(0, .tmp 53)]) ?_); go_must (refine wpl_apBld (ds c) (HDL.out c) st rfl ?_); clear st; intro w11 g54 st)
            | ((with_reducible refine at_op (some 55) (.call { callee := .builtin .append, args := #[.tmp 52, .tmp 54], argTypes := #[37, 37] }) ?_); go_must (refine wpl_apApp (ds c) (HDL.out c) st (by omega) rfl rfl ?_); clear st; intro v9 w12 st))
          go_roundw
          case rel => exact ⟨c + 1, by omega, by go_num, HSM2.out, st.tail.tail⟩
          case measure => simp [intOf]; omega
        · refine anyH_opW 10 rfl rfl ?_
          intro K hK
          refine wpl_apAlloc st ?_
          clear st
          intro w8 g10 st
          refine wpList_nil ?_
          refine hK _ _ st.tail ?_
          clear hK K
          refine wpAnyH_all (rs := [9]) (by kernel_rfl) (by simp) ?_
          intro i hi
          simp only [List.mem_cons, List.not_mem_nil, or_false] at hi
          subst hi
          refine anyH_opW 9 rfl rfl ?_
          intro K hK
          go_wp2_with (go_at_call 12; refine (derive_any ks (S c) (N c) HKL.out HKB.out HSZ.out HN.out _ (Tab.mem HT.out st.mem (by simp))).mono ?_; rintro e w7 ⟨he, hb⟩; rw [HDE.out c] at he; subst he; replace st := st.below hb; clear hb)
          refine hK _ _ st.tail ?_
          clear hK K
          refine wpAnyH_all (rs := [11]) (by kernel_rfl) (by simp) ?_
          intro i hi
          simp only [List.mem_cons, List.not_mem_nil, or_false] at hi
          subst hi
          refine anyH_opW 11 rfl rfl ?_
          intro K hK
          refine wpl_apStore (ds c) st (by simp [u8s_length]) (HDL.out c) rfl rfl ?_
          clear st
          intro w9 st
          refine wpList_nil ?_
          refine hK _ _ st.tail ?_
          clear hK K
          refine wpAnyH_done (by kernel_rfl) ?_ _
          simp only [endsIn]
          go_wp2_with (first
            | ((with_reducible refine at_op (some 49) (.load 24 (.tmp 10)) ?_); refine wpl_ldw 0 st.mem rfl rfl _ un_key rfl 32 sz_key (by rw [u8s_length]; exact HDL.out c) ?_)
            | ((with_reducible refine at_op none (.mapUpdate 36 (.tmp 48) (.tmp 49) (.tmp 51)) ?_); go_must (refine wpList_mapUpdate_own _ rfl _ _ _ 36 rfl 24 3 key_law un_kmap (plainElem Tryd.prog 3) m c (mapAt kl c) rfl st.map (by unfold maxLen; omega) _ _ (kl c) rfl rfl (HKK.out c) (.lit (.int .i64 ((c : Int) + 1))) [] (plainElem_int un_intT HWF.out) ?_); intro w10 hown hg; have st2 := st.put hown hg; clear st hown hg; have st := st2; clear st2)
            | ((with_reducible refine at_op (some 53) (.load 24 (.tmp 10)) ?_); refine wpl_ldw 0 st.mem rfl rfl _ un_key rfl 32 sz_key (by rw [u8s_length]; exact HDL.out c) ?_)
            | ((with_reducible refine at_op (some 54) (.buildSlice 37 1 #[(0, .tmp 53)]) ?_); go_must (refine wpl_apBld (ds c) (HDL.out c) st rfl ?_); clear st; intro w11 g54 st)
            | ((with_reducible refine at_op (some 55) (.call { callee := .builtin .append, args := #[.tmp 52, .tmp 54], argTypes := #[37, 37] }) ?_); go_must (refine wpl_apApp (ds c) (HDL.out c) st (by omega) rfl rfl ?_); clear st; intro v9 w12 st))
          go_roundw
          case rel => exact ⟨c + 1, by omega, by go_num, HSM2.out, st.tail.tail⟩
          case measure => simp [intOf]; omega
    · have hcl : L = c := by omega
      subst hcl
      obtain ⟨p8, cap8, hv8, hp8⟩ := HS.out.slice
      subst hv8
      have HP8 : Hid _ := hp8
      clear hp8
      go_wp2_with fail
      go_loopw [11] (fun vi wr2 => ∃ i : Nat, i ≤ L ∧ vi = .int .i64 (i : Int) ∧ Hid (Ap w wr2 m L (mapAt kl L) L (.slice p8 L cap8) (flat ds L) [(g3, u8s ks, 24)])) (fun vi _ => L - (intOf vi).toNat)
      case atStart => exact ⟨0, Nat.zero_le _, rfl, HS.out⟩
      case round =>
        clear HS
        obtain ⟨i, hi, rfl, HA⟩ := hrel
        by_cases hil : i < L
        · obtain ⟨g8, rfl⟩ := HP8.out (by omega)
          obtain rfl := HP0.out (by omega)
          obtain rfl := HP1.out (by omega)
          obtain ⟨j, hij, hjL, hdj, hat⟩ := mapAt_at ds kl HKK.out (.lit (.int .i64 0)) L i hil
          have hcs := HC0.out j hjL
          obtain ⟨hcn, hn0, hn1⟩ := HC1.out j (by omega)
          have hii : (i : Int) < (L : Int) := by omega
          have hjj : (j : Int) < (L : Int) := by omega
          have hjj1 : (j : Int) < (L1 : Int) := by omega
          have hnlt : ¬ (j : Int) < (i : Int) := by omega
          have HB0 : Hid (b0 < w.heap.size) := block_lt_of_cell hcs
          have HB1 : Hid (b1 < w.heap.size) := block_lt_of_cell hcn
          have HCS : Hid _ := hcs
          have HCN : Hid _ := hcn
          have HN : Hid (0 ≤ N j ∧ N j < 4294967296) := ⟨hn0, hn1⟩
          have HSZ : Hid ((S j).size ≤ 50000) := by show _ ≤ _; have := HSM.out j hjL; omega
          have HAT : Hid (∀ _ : Unit, (mapAt kl L).atKey (kl i) (.lit (.int .i64 0)) = .lit (.int .i64 ((j : Int) + 1))) := fun _ => hat
          obtain ⟨d, hd⟩ : ∃ d, d = ds i := ⟨_, rfl⟩
          have HD32 : Hid (d.length = 32) := by show _ = _; rw [hd]; exact HDL.out i
          have HZI : Hid (∀ _ : Unit, ((flat ds L).drop (i * 32)).take 32 = d) := by intro _; rw [hd]; exact flat_at ds HDL.out L i hil
          have HZJ : Hid (∀ _ : Unit, ((flat ds L).drop (j * 32)).take 32 = d) := by intro _; rw [hd, ← hdj]; exact flat_at ds HDL.out L j hjL
          have HDJ : Hid (∀ _ : Unit, deriveOf ks (strB (S j)) (N j) = d) := by intro _; rw [hd, ← hdj]; exact HDE.out j
          have HKD : Hid (keyOf Tryd.prog 24 (.agg (u8s d).toArray) = some (kl i)) := by show _ = _; rw [hd]; exact HKK.out i
          have st := HA.out
          clear hcs hcn hn0 hn1 hat hdj hd HA
          go_wp2_with (first
            | ((with_reducible refine at_op (some 65) (.indexAddr 37 (.tmp 63) (.tmp 64)) ?_); go_must (refine wpl_execG (.pointer (some ⟨g8, i * 32, none⟩)) rfl (exec_ixk i rfl rfl rfl hil) ?_))
            | ((with_reducible refine at_op (some 66) (.load 24 (.tmp 65)) ?_); go_must (refine wpl_execG (.agg (u8s d).toArray) rfl (exec_ldk (i * 32) d rfl (st.at i (HZI.out ())) HD32.out) ?_))
            | ((with_reducible refine at_op (some 67) (.lookup 36 (.tmp 62) (.tmp 66) false) ?_); go_must (refine wpList_lookup_own_int _ rfl _ _ 36 rfl 24 3 .i64 key_law un_kmap un_intT (zero_intT _) m L (mapAt kl L) rfl st.map _ (kl i) rfl HKD.out ?_); intro cc hcc hwf; rw [HAT.out ()] at hcc; obtain rfl : cc = (j : Int) + 1 := (by simpa using hcc.symm); clear hcc hwf))
          refine wp_ends0 ?_
          refine anyH_startA (T := fun W => Ap w W m L (mapAt kl L) L (.slice (some ⟨g8, 0, none⟩) L cap8) (flat ds L) [(g3, u8s ks, 24)]) (by kernel_rfl) st ?_
          clear st
          intro w6 st
          refine anyH_take 0 (v := .int .i64 (j : Int)) rfl (by kernel_rfl) (by kernel_rfl) (by kernel_rfl) rfl (fun W _ => by go_simp) st ?_
          go_simp
          refine anyH_take 1 (v := .int .i64 (i : Int)) rfl (by kernel_rfl) (by kernel_rfl) (by kernel_rfl) rfl (fun W _ => by go_simp) st ?_
          go_simp
          refine anyH_take 2 (v := .bool false) rfl (by kernel_rfl) (by kernel_rfl) (by kernel_rfl) rfl (fun W _ => by go_simp) st ?_
          go_simp
          refine anyH_take 3 (v := .bool false) rfl (by kernel_rfl) (by kernel_rfl) (by kernel_rfl) rfl (fun W _ => by go_simp) st ?_
          go_simp
          refine anyH_takeG 4 (v := .slice (some ⟨g8, 0, none⟩) L cap8) rfl (by kernel_rfl) (by kernel_rfl) (by kernel_rfl) rfl (fun W _ => by go_simp) st ?_
          go_simp
          refine anyH_takeG 5 (v := .int .i64 (j : Int)) rfl (by kernel_rfl) (by kernel_rfl) (by kernel_rfl) rfl (fun W _ => by go_simp) st ?_
          go_simp
          refine anyH_takeG 6 (v := .pointer (some ⟨g8, j * 32, none⟩)) rfl (by kernel_rfl) (by kernel_rfl) (by kernel_rfl) rfl (fun W _ => exec_ixk j rfl rfl rfl hjL) st ?_
          go_simp
          refine anyH_takeG 7 (v := .agg (u8s d).toArray) rfl (by kernel_rfl) (by kernel_rfl) (by kernel_rfl) rfl (fun W hW => exec_ldk (j * 32) d rfl (Ap.at hW j (HZJ.out ())) HD32.out) st ?_
          go_simp
          refine anyH_takeG 8 (v := .slice (some ⟨g8, 0, none⟩) L cap8) rfl (by kernel_rfl) (by kernel_rfl) (by kernel_rfl) rfl (fun W _ => by go_simp) st ?_
          go_simp
          refine anyH_takeG 9 (v := .int .i64 (i : Int)) rfl (by kernel_rfl) (by kernel_rfl) (by kernel_rfl) rfl (fun W _ => by go_simp) st ?_
          go_simp
          refine anyH_takeG 10 (v := .pointer (some ⟨g8, i * 32, none⟩)) rfl (by kernel_rfl) (by kernel_rfl) (by kernel_rfl) rfl (fun W _ => exec_ixk i rfl rfl rfl hil) st ?_
          go_simp
          refine anyH_takeG 11 (v := .agg (u8s d).toArray) rfl (by kernel_rfl) (by kernel_rfl) (by kernel_rfl) rfl (fun W hW => exec_ldk (i * 32) d rfl (Ap.at hW i (HZI.out ())) HD32.out) st ?_
          go_simp
          refine anyH_takeG 12 (v := .bool false) rfl (by kernel_rfl) (by kernel_rfl) (by kernel_rfl) rfl (fun W _ => exec_nek d HD32.out rfl rfl) st ?_
          go_simp
          refine anyH_take 13 (v := .bool false) rfl (by kernel_rfl) (by kernel_rfl) (by kernel_rfl) rfl (fun W _ => by go_simp) st ?_
          go_simp
          refine anyH_take 14 (v := .bool false) rfl (by kernel_rfl) (by kernel_rfl) (by kernel_rfl) rfl (fun W _ => by go_simp) st ?_
          go_simp
          refine anyH_takeG 15 (v := .agg (u8s ks).toArray) rfl (by kernel_rfl) (by kernel_rfl) (by kernel_rfl) rfl (fun W hW => exec_ldsG 0 _ (Mem.get (Ap.mem hW) 0 rfl) rfl _ un_key rfl 32 sz_key (by rw [HU.out]; omega) (by rw [List.drop_zero, List.take_of_length_le (Nat.le_of_eq HU.out)])) st ?_
          go_simp
          refine anyH_takeG 16 (v := .slice (some ⟨b0, o0, none⟩) L cap0) rfl (by kernel_rfl) (by kernel_rfl) (by kernel_rfl) rfl (fun W _ => by go_simp) st ?_
          go_simp
          refine anyH_takeG 17 (v := .int .i64 (j : Int)) rfl (by kernel_rfl) (by kernel_rfl) (by kernel_rfl) rfl (fun W _ => by go_simp) st ?_
          go_simp
          refine anyH_takeG 18 (v := .pointer (some ⟨b0, o0 + j, none⟩)) rfl (by kernel_rfl) (by kernel_rfl) (by kernel_rfl) rfl (fun W _ => by go_simp) st ?_
          go_simp
          refine anyH_takeG 19 (v := .string (S j)) rfl (by kernel_rfl) (by kernel_rfl) (by kernel_rfl) rfl (fun W hW => exec_ldxG _ (((Ap.mem hW).old (p := ⟨b0, o0 + j, none⟩) HB0.out (by simp)).trans HCS.out) rfl ag_strT) st ?_
          go_simp
          refine anyH_takeG 20 (v := .slice (some ⟨b1, o1, none⟩) L1 cap1) rfl (by kernel_rfl) (by kernel_rfl) (by kernel_rfl) rfl (fun W _ => by go_simp) st ?_
          go_simp
          refine anyH_takeG 21 (v := .int .i64 (j : Int)) rfl (by kernel_rfl) (by kernel_rfl) (by kernel_rfl) rfl (fun W _ => by go_simp) st ?_
          go_simp
          refine anyH_takeG 22 (v := .pointer (some ⟨b1, o1 + j, none⟩)) rfl (by kernel_rfl) (by kernel_rfl) (by kernel_rfl) rfl (fun W _ => by go_simp) st ?_
          go_simp
          refine anyH_takeG 23 (v := .int .u32 (N j)) rfl (by kernel_rfl) (by kernel_rfl) (by kernel_rfl) rfl (fun W hW => exec_ldxG _ (((Ap.mem hW).old (p := ⟨b1, o1 + j, none⟩) HB1.out (by simp)).trans HCN.out) rfl ag_u32) st ?_
          go_simp
          refine anyH_takeG 25 (v := .slice (some ⟨g8, 0, none⟩) L cap8) rfl (by kernel_rfl) (by kernel_rfl) (by kernel_rfl) rfl (fun W _ => by go_simp) st ?_
          go_simp
          refine anyH_takeG 26 (v := .int .i64 (i : Int)) rfl (by kernel_rfl) (by kernel_rfl) (by kernel_rfl) rfl (fun W _ => by go_simp) st ?_
          go_simp
          refine anyH_takeG 27 (v := .pointer (some ⟨g8, i * 32, none⟩)) rfl (by kernel_rfl) (by kernel_rfl) (by kernel_rfl) rfl (fun W _ => exec_ixk i rfl rfl rfl hil) st ?_
          go_simp
          refine anyH_takeG 28 (v := .agg (u8s d).toArray) rfl (by kernel_rfl) (by kernel_rfl) (by kernel_rfl) rfl (fun W hW => exec_ldk (i * 32) d rfl (Ap.at hW i (HZI.out ())) HD32.out) st ?_
          go_simp
          refine wpAnyH_all (rs := [24]) (by kernel_rfl) (by simp) ?_
          intro i hi
          simp only [List.mem_cons, List.not_mem_nil, or_false] at hi
          subst hi
          refine anyH_opW 24 rfl rfl ?_
          intro K hK
          go_wp2_with (go_at_call 12; refine (derive_any ks (S j) (N j) HKL.out HKB.out HSZ.out HN.out _ (Tab.mem HT.out st.mem (by simp))).mono ?_; rintro e w7 ⟨he, hb⟩; rw [HDJ.out ()] at he; subst he; replace st := st.below hb; clear hb)
          refine hK _ _ st ?_
          clear hK K
          refine anyH_takeG 29 (v := .bool false) rfl (by kernel_rfl) (by kernel_rfl) (by kernel_rfl) rfl (fun W _ => exec_nek d HD32.out rfl rfl) st ?_
          go_simp
          refine anyH_take 30 (v := .bool false) rfl (by kernel_rfl) (by kernel_rfl) (by kernel_rfl) rfl (fun W _ => by go_simp) st ?_
          go_simp
          refine wpAnyH_done (by kernel_rfl) ?_ _
          simp only [endsIn]
          go_wp2_with fail
          go_roundw
          case rel => exact ⟨i + 1, by omega, by go_num, st⟩
          case measure => simp [intOf]; omega
        · have hil2 : L = i := by omega
          subst hil2
          have hm := HA.out.mem
          go_wp2_with fail
          go_ret
          exact ⟨rfl, hm.below⟩
end Go.Proofs.YtonbfbcbmdnelaaDoor
