/- Package node: Branch. -/
import Derived.Test.YtnahflppggoplaaNdBSize
import Derived.Test.YtnahflppggoplaaNdPut
namespace Go.Proofs.Ytnahflppggoplaa
open Go Go.RowKit
set_option maxHeartbeats 1000000 in
set_option maxRecDepth 100000 in
theorem branch_bad (ks : List ByteArray) (n m cap cap2 : Nat) (p q : Option Addr) (hn : ks.length = n) (hnl : n ≤ 1000) (hok : okBr ks m = false) (w : World) (hv : SlS w (.slice p n cap) ks) :
    Calls Try.prog 13 #[.slice p n cap, .slice q m cap2] w fun e w' => e = .returned (.tuple #[.slice none 0 0, .int .i64 90]) ∧ w' = w := by
  have HV : Hid (SlS w (.slice p n cap) ks) := hv
  have HN : Hid (ks.length = n) := hn
  have HOK : Hid (okBr ks m = false) := hok
  clear hv hn hok
  go_enter Try.func13, Try.ntmps13
  go_wp2_with (first
    | (go_at_call 28; refine (fitBranch_any ks n m cap cap2 p q HN.out hnl _ HV.out).mono ?_; rintro e w1 ⟨he, hw⟩; rw [HOK.out] at he; subst he; replace hw := hw.symm; subst hw))
  go_ret2
  exact ⟨rfl, rfl⟩
set_option maxHeartbeats 1000000 in
set_option maxRecDepth 100000 in
theorem branch_long (ks : List ByteArray) (n m cap cap2 : Nat) (p q : Option Addr) (hn : ks.length = n) (hnl : n ≤ 1000) (hok : okBr ks m = true) (hs : 480 < szB ks m) (w : World) (hv : SlS w (.slice p n cap) ks) :
    Calls Try.prog 13 #[.slice p n cap, .slice q m cap2] w fun e w' => e = .returned (.tuple #[.slice none 0 0, .int .i64 11]) ∧ w' = w := by
  have HV : Hid (SlS w (.slice p n cap) ks) := hv
  have HN : Hid (ks.length = n) := hn
  have HOK : Hid (okBr ks m = true) := hok
  have hok2 := hok
  simp only [okBr, Bool.and_eq_true, decide_eq_true_eq] at hok2
  have HPS : Hid (∀ i, i < n → (ks.getD i noStr).size ≤ 60) := fun i hi => key_size hok2.2 i (by omega)
  have hml : m ≤ 2000 := by omega
  obtain ⟨N, hN⟩ : ∃ N : Nat, N = szB ks m := ⟨_, rfl⟩
  have HNN : Hid (szB ks m = N) := hN.symm
  have hsi : (480 : Int) < (N : Int) := by omega
  clear hv hn hok hok2 hs hN
  go_enter Try.func13, Try.ntmps13
  go_wp2_with (first
    | (go_at_call 28; refine (fitBranch_any ks n m cap cap2 p q HN.out hnl _ HV.out).mono ?_; rintro e w1 ⟨he, hw⟩; rw [HOK.out] at he; subst he; replace hw := hw.symm; subst hw)
    | (go_at_call 29; refine (branchSize_any ks n m cap cap2 p q HN.out hnl hml HPS.out _ HV.out).mono ?_; rintro e w2 ⟨he, hw⟩; rw [HNN.out] at he; subst he; replace hw := hw.symm; subst hw))
  go_ret2
  exact ⟨rfl, rfl⟩
set_option maxHeartbeats 3000000 in
set_option maxRecDepth 100000 in
theorem branch_good (ks : List ByteArray) (kids : List Int) (n m cap cap2 : Nat) (p q : Option Addr) (hn : ks.length = n) (hnl : n ≤ 1000) (hkl : kids.length = m) (hkb : ∀ x ∈ kids, 0 ≤ x ∧ x < 4294967296) (hok : okBr ks m = true) (hs : szB ks m ≤ 480) (w : World) (hv : SlS w (.slice p n cap) ks) (hvk : SlU w (.slice q m cap2) kids) :
    Calls Try.prog 13 #[.slice p n cap, .slice q m cap2] w fun e w' => ∃ g, e = .returned (.tuple #[.slice (some ⟨g, 0, none⟩) (szB ks m) (szB ks m), .int .i64 0]) ∧ w.heap.size ≤ g ∧ Row w' g (u8s (branchB ks kids)) 5 ∧ Below w.heap.size w w' := by
  have HV : Hid (SlS w (.slice p n cap) ks) := hv
  have HN : Hid (ks.length = n) := hn
  have HOK : Hid (okBr ks m = true) := hok
  have hok2 := hok
  simp only [okBr, Bool.and_eq_true, decide_eq_true_eq] at hok2
  have HPS : Hid (∀ i, i < n → (ks.getD i noStr).size ≤ 60) := fun i hi => key_size hok2.2 i (by omega)
  have hml : m ≤ 2000 := by omega
  obtain ⟨N, hN⟩ : ∃ N : Nat, N = szB ks m := ⟨_, rfl⟩
  have HNN : Hid (szB ks m = N) := hN.symm
  have HK : Hid (SlU w (.slice q m cap2) kids) := hvk
  have HKL : Hid (kids.length = m) := hkl
  have HKB : Hid (∀ x ∈ kids, 0 ≤ x ∧ x < 4294967296) := hkb
  have HSB : Hid (N = 3 + 4 * m + ksz ks) := hN
  have h3 := ksz_len ks
  have hN3 : 3 ≤ N := by rw [hN]; unfold szB; omega
  have hN4 : N ≤ 480 := by omega
  have hsi : ¬ ((480 : Int) < (N : Int)) := by omega
  have hn6 : n ≤ 65535 := by omega
  obtain ⟨L0, hL0⟩ : ∃ L0 : Nat, L0 = N - 3 := ⟨_, rfl⟩
  have HL0 : Hid (N = 3 + L0) := by show _ = _; omega
  have HL00 : Hid (N = 3 + ksz (ks.take 0) + L0) := by show _ = _; simp [ksz]; omega
  have HZE : Hid (List.replicate N (Value.int .u8 0) = u8s ([] ++ List.replicate N 0)) := by show _ = _; simp [u8s]
  have hm := Mem.start w
  rw [← hN]
  clear hv hn hok hok2 hs h3 hN hL0 hvk hkl hkb
  go_enter Try.func13, Try.ntmps13
  go_wp2_with (first
    | (go_at_call 28; refine (fitBranch_any ks n m cap cap2 p q HN.out hnl _ HV.out).mono ?_; rintro e w1 ⟨he, hw⟩; rw [HOK.out] at he; subst he; replace hw := hw.symm; subst hw)
    | (go_at_call 29; refine (branchSize_any ks n m cap cap2 p q HN.out hnl hml HPS.out _ HV.out).mono ?_; rintro e w2 ⟨he, hw⟩; rw [HNN.out] at he; subst he; replace hw := hw.symm; subst hw)
    | ((with_reducible refine at_op (some 23) (.makeSlice 22 (.tmp 22) (.tmp 22)) ?_); go_must (refine wpl_make _ un_bs _ made_u8 rfl N rfl (by first | rfl | omega | go_num) rfl (by first | rfl | omega | go_num) (by omega) hm ?_); clear hm; intro w3 g hm; rw [HZE.out] at hm)
    | (go_at_call 26; refine (head_any 2 n hn6 _).mono ?_; rintro e w4 ⟨gh, rfl, hge, hr, hb⟩; replace hm := hm.callNew hb hr hge; clear hge hr hb)
    | (go_at_call 25; refine (put_any g 0 N L0 3 ([]) ([2] ++ be2 n) _ HL0.out rfl (by omega) (fun _ => rfl) _ (hm.get 1 rfl) (old_all (hm.get 0 rfl) rfl (Nat.le_refl _))).mono ?_; rintro e w5 ⟨o0, rfl, ho2, hr2, hu2⟩; have HOo0 : Hid (0 < L0 → o0 = (([]) ++ ([2] ++ be2 n)).length) := ho2; replace hm := hm.upd 1 rfl hu2 hr2; clear ho2 hr2 hu2))
  replace hm := hm.tail
  rw [List.nil_append] at HOo0
  go_loopw [8, 31] (fun vr vi wr => ∃ k : Nat, k ≤ n ∧ vi = .int .i64 (k : Int) ∧ (∃ o L : Nat, vr = .slice (some ⟨g, o, none⟩) L L ∧ Hid (N = 3 + ksz (ks.take k) + L) ∧ Hid (0 < L → o = ([2] ++ be2 n ++ keysB (ks.take k)).length) ∧ Hid (Mem w [] wr [(g, u8s (([2] ++ be2 n ++ keysB (ks.take k)) ++ List.replicate L 0), 5)]))) (fun _ vi _ => n - (intOf vi).toNat)
  case atStart => exact ⟨0, by omega, rfl, o0, L0, rfl, HL00.out, by show 0 < L0 → _; simpa [keysB] using HOo0.out, by show Mem _ _ _ _; simpa [keysB] using hm⟩
  case round =>
    clear HOo0 HL0 HL00 hm
    obtain ⟨k, hk, rfl, o, L, rfl, HL, HO, HM⟩ := hrel
    by_cases hlt : k < n
    · have hki : (k : Int) < (n : Int) := by omega
      have hm := HM.out
      obtain ⟨b, off, hp⟩ := SlS.at HV.out HN.out (by omega)
      subst hp
      have HV2 : Hid (SlS wr (.slice (some ⟨b, off, none⟩) n cap) ks) := SlV.below HV.out hm.below
      have c0 := SlS.cells HN.out HV2.out k hlt
      have hs1 := HPS.out k hlt
      obtain ⟨kk, hkk⟩ : ∃ x, x = ks.getD k noStr := ⟨_, rfl⟩
      have hle := ksz_take_le ks (k + 1)
      have hst := ksz_take ks k (by rw [HN.out]; exact hlt)
      have HTX : Hid (keysB (ks.take (k + 1)) = keysB (ks.take k) ++ textB kk) := by
        show _ = _
        rw [take_snoc ks k noStr (by rw [HN.out]; exact hlt), keysB_append, keysB_one, hkk]
      rw [← hkk] at c0 hs1 hst
      have hsb := HSB.out
      have hLL := HL.out
      have HK60 : Hid (kk.size ≤ 300) := by show _ ≤ _; omega
      obtain ⟨L1, hL1⟩ : ∃ L1 : Nat, L1 = L - (2 + kk.size) := ⟨_, rfl⟩
      have HL1 : Hid (L = (2 + kk.size) + L1) := by show _ = _; omega
      have HLS : Hid (N = 3 + ksz (ks.take (k + 1)) + L1) := by show _ = _; omega
      clear hkk hle hst hs1 hL1 hLL hsb HM
      go_wp2_with (first
        | (go_at_call 27; refine (text_any kk HK60.out _).mono ?_; rintro e w8 ⟨gt, rfl, hge, hr, hb⟩; replace hm := hm.callNew hb hr hge; clear hge hr hb)
        | (go_at_call 25; refine (put_any g o L L1 (2 + kk.size) ([2] ++ be2 n ++ keysB (ks.take k)) (textB kk) _ HL1.out (textB_length kk) (by omega) HO.out _ (hm.get 1 rfl) (old_all (hm.get 0 rfl) (textB_length kk) (Nat.le_refl _))).mono ?_; rintro e w9 ⟨o1, rfl, ho2, hr2, hu2⟩; have HOo1 : Hid (0 < L1 → o1 = (([2] ++ be2 n ++ keysB (ks.take k)) ++ (textB kk)).length) := ho2; replace hm := hm.upd 1 rfl hu2 hr2; clear ho2 hr2 hu2))
      replace hm := hm.tail
      have hdd : ([2] ++ be2 n ++ keysB (ks.take k)) ++ textB kk = [2] ++ be2 n ++ keysB (ks.take (k + 1)) := by rw [HTX.out]; simp only [List.append_assoc]
      have HOF : Hid (0 < L1 → o1 = ([2] ++ be2 n ++ keysB (ks.take (k + 1))).length) := by rw [← hdd]; exact HOo1.out
      have HMF : Hid (Mem w [] w9 [(g, u8s (([2] ++ be2 n ++ keysB (ks.take (k + 1))) ++ List.replicate L1 0), 5)]) := by rw [← hdd]; exact hm
      clear hdd hm
      go_roundw
      case rel => exact ⟨k + 1, by omega, by go_num, o1, L1, rfl, HLS.out, HOF.out, HMF.out⟩
      case measure => simp [intOf]; omega
    · have hkn : n = k := by omega
      subst hkn
      have hni : ¬ (n : Int) < (n : Int) := by omega
      have HT : Hid (ks.take n = ks) := by show _ = _; rw [List.take_of_length_le (by rw [HN.out]; exact Nat.le_refl _)]
      rw [HT.out] at HL HO HM
      have HLK : Hid (N = 3 + ksz ks + 4 * 0 + L) := by show _ = _; have := HL.out; omega
      have HOK2 : Hid (0 < L → o = ([2] ++ be2 n ++ keysB ks ++ kidsB (kids.take 0)).length) := by show 0 < L → _; simpa [kidsB] using HO.out
      have HMK : Hid (Mem w [] wr [(g, u8s (([2] ++ be2 n ++ keysB ks ++ kidsB (kids.take 0)) ++ List.replicate L 0), 5)]) := by show Mem _ _ _ _; simpa [kidsB] using HM.out
      clear HL HO HM
      go_wp2_with fail
      go_loopw [8, 42] (fun vr vi wr2 => ∃ j : Nat, j ≤ m ∧ vi = .int .i64 (j : Int) ∧ (∃ o L : Nat, vr = .slice (some ⟨g, o, none⟩) L L ∧ Hid (N = 3 + ksz ks + 4 * j + L) ∧ Hid (0 < L → o = ([2] ++ be2 n ++ keysB ks ++ kidsB (kids.take j)).length) ∧ Hid (Mem w [] wr2 [(g, u8s (([2] ++ be2 n ++ keysB ks ++ kidsB (kids.take j)) ++ List.replicate L 0), 5)]))) (fun _ vi _ => m - (intOf vi).toNat)
      case atStart => exact ⟨0, by omega, rfl, o, L, rfl, HLK.out, HOK2.out, HMK.out⟩
      case round =>
        clear HLK HOK2 HMK
        obtain ⟨j, hj, rfl, o, L, rfl, HL, HO, HM⟩ := hrel
        by_cases hlt : j < m
        · have hki : (j : Int) < (m : Int) := by omega
          have hm := HM.out
          obtain ⟨b, off, hp⟩ := SlU.at HK.out HKL.out (by omega)
          subst hp
          have HV2 : Hid (SlU wr (.slice (some ⟨b, off, none⟩) m cap2) kids) := SlV.below HK.out hm.below
          have c0 := SlU.cells HKL.out HV2.out j hlt
          have hmem : kids.getD j 0 ∈ kids := by
            have h9 := HKL.out
            simp [show j < kids.length by omega]
          obtain ⟨hx0, hx1⟩ := HKB.out _ hmem
          obtain ⟨x, hx⟩ : ∃ x, x = kids.getD j 0 := ⟨_, rfl⟩
          have HTX : Hid (kidsB (kids.take (j + 1)) = kidsB (kids.take j) ++ be4 x) := by
            show _ = _
            rw [take_snoc kids j 0 (by rw [HKL.out]; exact hlt), kidsB_append, kidsB_one, hx]
          rw [← hx] at c0 hx0 hx1
          have HWX : IntKind.u64.wrap x = x := by simp [IntKind.wrap, IntKind.signed, IntKind.bits]; omega
          have hsb := HSB.out
          have hLL := HL.out
          obtain ⟨L1, hL1⟩ : ∃ L1 : Nat, L1 = L - 4 := ⟨_, rfl⟩
          have HL1 : Hid (L = 4 + L1) := by show _ = _; omega
          have HLS : Hid (N = 3 + ksz ks + 4 * (j + 1) + L1) := by show _ = _; omega
          clear hx hmem hL1 hLL hsb HM
          go_wp2_with (first
            | (go_at_call 30; refine (put_four [] _ x (by simp) _ ⟨none, 0, rfl, Nat.le_refl _, fun h => absurd h (by simp)⟩).mono ?_; rintro e w8 ⟨gt, he, hge, hr, hb⟩; rw [show ([] : List Int).length + 4 = 4 from rfl] at he; subst he; rw [List.nil_append] at hr; replace hm := hm.callNew hb hr hge; clear hge hr hb)
            | (go_at_call 25; refine (put_any g o L L1 4 ([2] ++ be2 n ++ keysB ks ++ kidsB (kids.take j)) (be4 x) _ HL1.out rfl (by omega) HO.out _ (hm.get 1 rfl) (old_all (hm.get 0 rfl) rfl (Nat.le_refl _))).mono ?_; rintro e w9 ⟨o1, rfl, ho2, hr2, hu2⟩; have HOo1 : Hid (0 < L1 → o1 = (([2] ++ be2 n ++ keysB ks ++ kidsB (kids.take j)) ++ (be4 x)).length) := ho2; replace hm := hm.upd 1 rfl hu2 hr2; clear ho2 hr2 hu2))
          replace hm := hm.tail
          have hdd : ([2] ++ be2 n ++ keysB ks ++ kidsB (kids.take j)) ++ be4 x = [2] ++ be2 n ++ keysB ks ++ kidsB (kids.take (j + 1)) := by rw [HTX.out]; simp only [List.append_assoc]
          have HOF : Hid (0 < L1 → o1 = ([2] ++ be2 n ++ keysB ks ++ kidsB (kids.take (j + 1))).length) := by rw [← hdd]; exact HOo1.out
          have HMF : Hid (Mem w [] w9 [(g, u8s (([2] ++ be2 n ++ keysB ks ++ kidsB (kids.take (j + 1))) ++ List.replicate L1 0), 5)]) := by rw [← hdd]; exact hm
          clear hdd hm
          go_roundw
          case rel => exact ⟨j + 1, by omega, by go_num, o1, L1, rfl, HLS.out, HOF.out, HMF.out⟩
          case measure => simp [intOf]; omega
        · have hjm : m = j := by omega
          subst hjm
          have hnj : ¬ (m : Int) < (m : Int) := by omega
          have HT2 : Hid (kids.take m = kids) := by show _ = _; rw [List.take_of_length_le (by rw [HKL.out]; exact Nat.le_refl _)]
          have hm := HM.out
          have hL := HL.out
          have hsb := HSB.out
          rw [HT2.out] at hm
          have hL0 : L = 0 := by omega
          have HR : Hid (Row wr g (u8s (branchB ks kids)) 5) := by
            have h9 := hm.get 0 rfl
            rw [hL0, List.replicate_zero, List.append_nil] at h9
            show Row _ _ _ _
            unfold branchB
            rw [HN.out]
            exact h9
          have hf := hm.fresh _ (List.mem_cons_self ..)
          have HF : Hid (w.heap.size ≤ g) := by show _ ≤ _; simpa using hf
          have HB : Hid (Below w.heap.size w wr) := hm.below
          clear hL hL0 hf hm HM HL HO hsb
          go_wp2_with fail
          go_ret2
          exact ⟨g, rfl, HF.out, HR.out, HB.out⟩
set_option maxRecDepth 100000 in
theorem branch_any (ks : List ByteArray) (kids : List Int) (u v : Value) (hnl : ks.length ≤ 1000) (hkb : ∀ x ∈ kids, 0 ≤ x ∧ x < 4294967296) (w : World) (hu : SlS w u ks) (hv : SlU w v kids) :
    Calls Try.prog 13 #[u, v] w fun e w' => ∃ v', e = .returned (.tuple #[v', .int .i64 (branchCode ks kids.length)]) ∧ SlOld w' v' (branchOut ks kids) ∧ Below w.heap.size w w' := by
  obtain ⟨p, cap, rfl, _⟩ := SlV.len hu
  obtain ⟨q, cap2, rfl, _⟩ := SlV.len hv
  cases hok : okBr ks kids.length with
  | false =>
    have hc : branchCode ks kids.length = 90 := by rw [branchCode, if_pos hok]
    refine (branch_bad ks ks.length kids.length cap cap2 p q rfl hnl hok w hu).mono fun e w' ⟨he, hw⟩ => ⟨_, by rw [hc]; exact he, ?_, by rw [hw]; exact Below.refl _ _⟩
    rw [branchOut, hc, if_neg (by decide)]
    exact ⟨none, 0, rfl, Nat.le_refl _, fun h => absurd h (by simp)⟩
  | true =>
    by_cases hs : 480 < szB ks kids.length
    · have hc : branchCode ks kids.length = 11 := by rw [branchCode, if_neg (by rw [hok]; simp), if_pos hs]
      refine (branch_long ks ks.length kids.length cap cap2 p q rfl hnl hok hs w hu).mono fun e w' ⟨he, hw⟩ => ⟨_, by rw [hc]; exact he, ?_, by rw [hw]; exact Below.refl _ _⟩
      rw [branchOut, hc, if_neg (by decide)]
      exact ⟨none, 0, rfl, Nat.le_refl _, fun h => absurd h (by simp)⟩
    · have hc : branchCode ks kids.length = 0 := by rw [branchCode, if_neg (by rw [hok]; simp), if_neg hs]
      refine (branch_good ks kids ks.length kids.length cap cap2 p q rfl hnl rfl hkb hok (by omega) w hu hv).mono fun e w' ⟨g, he, hg, hr, hb⟩ => ⟨_, by rw [hc]; exact he, ?_, hb⟩
      rw [branchOut, if_pos hc]
      exact old_all hr (branchB_length ks kids) (Nat.le_refl _)
end Go.Proofs.Ytnahflppggoplaa
