/- Package node: Leaf. -/
import Derived.Test.YtnahflppggoplaaNdFit
import Derived.Test.YtnahflppggoplaaNdSize
import Derived.Test.YtnahflppggoplaaNdPut
namespace Go.Proofs.Ytnahflppggoplaa
open Go Go.RowKit
set_option maxHeartbeats 1000000 in
set_option maxRecDepth 100000 in
theorem leaf_bad (l : List (ByteArray × ByteArray)) (n : Nat) (v : Value) (hn : l.length = n) (hnl : n ≤ 1000) (hok : okPairs l n = false) (w : World) (hv : SlP w v l) :
    Calls Try.prog 12 #[v] w fun e w' => e = .returned (.tuple #[.slice none 0 0, .int .i64 90]) ∧ Below w.heap.size w w' := by
  obtain ⟨p, cap, rfl, hcap⟩ := SlV.len hv
  have HV : Hid (SlP w (.slice p l.length cap) l) := hv
  have HN : Hid (l.length = n) := hn
  rw [hn] at hcap HV ⊢
  have hm := Mem.start w
  have HOK : Hid (okPairs l n = false) := hok
  clear hv hn hok
  go_enter Try.func12, Try.ntmps12
  go_wp2_with (first
    | (go_at_call 24; refine (fitLeaf_any l n _ HN.out hnl _ HV.out).mono ?_; rintro e w1 ⟨he, hb⟩; rw [HOK.out] at he; subst he; replace hm := hm.call hb; clear hb))
  go_ret2
  exact ⟨rfl, hm.below⟩
set_option maxHeartbeats 1000000 in
set_option maxRecDepth 100000 in
theorem leaf_long (l : List (ByteArray × ByteArray)) (n : Nat) (v : Value) (hn : l.length = n) (hnl : n ≤ 1000) (hsz : ∀ p ∈ l, p.1.size ≤ 1152921504606846976 ∧ p.2.size ≤ 1152921504606846976) (hok : okPairs l n = true) (hs : 480 < szP l) (w : World) (hv : SlP w v l) :
    Calls Try.prog 12 #[v] w fun e w' => e = .returned (.tuple #[.slice none 0 0, .int .i64 11]) ∧ Below w.heap.size w w' := by
  obtain ⟨p, cap, rfl, hcap⟩ := SlV.len hv
  have HV : Hid (SlP w (.slice p l.length cap) l) := hv
  have HN : Hid (l.length = n) := hn
  rw [hn] at hcap HV ⊢
  have hm := Mem.start w
  have HOK : Hid (okPairs l n = true) := hok
  have HSZ : Hid (∀ p ∈ l, p.1.size ≤ 1152921504606846976 ∧ p.2.size ≤ 1152921504606846976) := hsz
  obtain ⟨s, hsm⟩ : ∃ s : Nat, s = min (szP l) 100000 := ⟨_, rfl⟩
  have hsi : (480 : Int) < (s : Int) := by omega
  have HMS : Hid (min (szP l) 100000 = s) := hsm.symm
  clear hv hn hok hsz hs hsm
  go_enter Try.func12, Try.ntmps12
  go_wp2_with (first
    | (go_at_call 24; refine (fitLeaf_any l n _ HN.out hnl _ HV.out).mono ?_; rintro e w1 ⟨he, hb⟩; rw [HOK.out] at he; subst he; replace hm := hm.call hb; clear hb)
    | (go_at_call 14; refine (size_any l n _ HN.out hnl HSZ.out _ (SlV.below HV.out hm.below)).mono ?_; rintro e w2 ⟨he, hb⟩; rw [HMS.out] at he; subst he; replace hm := hm.call hb; clear hb))
  go_ret2
  exact ⟨rfl, hm.below⟩
set_option maxHeartbeats 2000000 in
set_option maxRecDepth 100000 in
theorem leaf_good (l : List (ByteArray × ByteArray)) (n : Nat) (v : Value) (hn : l.length = n) (hnl : n ≤ 1000) (hok : okPairs l n = true) (hs : szP l ≤ 480) (w : World) (hv : SlP w v l) :
    Calls Try.prog 12 #[v] w fun e w' => ∃ g, e = .returned (.tuple #[.slice (some ⟨g, 0, none⟩) (szP l) (szP l), .int .i64 0]) ∧ w.heap.size ≤ g ∧ Row w' g (u8s (leafB l)) 5 ∧ Below w.heap.size w w' := by
  obtain ⟨p, cap, rfl, hcap⟩ := SlV.len hv
  have HV : Hid (SlP w (.slice p l.length cap) l) := hv
  have HN : Hid (l.length = n) := hn
  rw [hn] at hcap HV ⊢
  have hm := Mem.start w
  have HOK : Hid (okPairs l n = true) := hok
  have hps := fun i hi => pair_sizes (l := l) (by rw [hn]; exact hok) i hi
  have HPS : Hid (∀ i, i < n → (l.getD i (noStr, noStr)).1.size ≤ 60 ∧ (l.getD i (noStr, noStr)).2.size ≤ 150) := fun i hi => hps i (by omega)
  have HSZ : Hid (∀ p ∈ l, p.1.size ≤ 1152921504606846976 ∧ p.2.size ≤ 1152921504606846976) := by
    intro p hp
    obtain ⟨i, hi, he⟩ := List.getElem_of_mem hp
    have h1 := hps i hi
    have h2 : l.getD i (noStr, noStr) = p := by rw [← he]; simp [hi]
    rw [h2] at h1
    omega
  have h3 := szP_len l
  obtain ⟨N, hN⟩ : ∃ N : Nat, N = szP l := ⟨_, rfl⟩
  have HNN : Hid (szP l = N) := hN.symm
  have HMS : Hid (min (szP l) 100000 = N) := by show _ = _; omega
  have hN3 : 3 ≤ N := by omega
  have hN4 : N ≤ 480 := by omega
  have hsi : ¬ ((480 : Int) < (N : Int)) := by omega
  have hn6 : n ≤ 65535 := by omega
  obtain ⟨L0, hL0⟩ : ∃ L0 : Nat, L0 = N - 3 := ⟨_, rfl⟩
  have HL0 : Hid (N = 3 + L0) := by show _ = _; omega
  have HZE : Hid (List.replicate N (Value.int .u8 0) = u8s ([] ++ List.replicate N 0)) := by show _ = _; simp [u8s]
  rw [← hN]
  clear hv hn hok hs hps h3 hN hL0
  go_enter Try.func12, Try.ntmps12
  go_wp2_with (first
    | (go_at_call 24; refine (fitLeaf_any l n _ HN.out hnl _ HV.out).mono ?_; rintro e w1 ⟨he, hb⟩; rw [HOK.out] at he; subst he; replace hm := hm.call hb; clear hb)
    | (go_at_call 14; refine (size_any l n _ HN.out hnl HSZ.out _ (SlV.below HV.out hm.below)).mono ?_; rintro e w2 ⟨he, hb⟩; rw [HMS.out] at he; subst he; replace hm := hm.call hb; clear hb)
    | ((with_reducible refine at_op (some 17) (.makeSlice 22 (.tmp 16) (.tmp 16)) ?_); go_must (refine wpl_make _ un_bs _ made_u8 rfl N rfl (by first | rfl | omega | go_num) rfl (by first | rfl | omega | go_num) (by omega) hm ?_); clear hm; intro w3 g hm; rw [HZE.out] at hm)
    | (go_at_call 26; refine (head_any 1 n hn6 _).mono ?_; rintro e w4 ⟨gh, rfl, hge, hr, hb⟩; replace hm := hm.callNew hb hr hge; clear hge hr hb)
    | (go_at_call 25; refine (put_any g 0 N L0 3 ([]) ([1] ++ be2 n) _ HL0.out rfl (by omega) (fun _ => rfl) _ (hm.get 1 rfl) (old_all (hm.get 0 rfl) rfl (Nat.le_refl _))).mono ?_; rintro e w5 ⟨o0, rfl, ho2, hr2, hu2⟩; have HOo0 : Hid (0 < L0 → o0 = (([]) ++ ([1] ++ be2 n)).length) := ho2; replace hm := hm.upd 1 rfl hu2 hr2; clear ho2 hr2 hu2))
  replace hm := hm.tail
  rw [List.nil_append] at HOo0
  go_loopw [6, 25] (fun vr vi wr => ∃ k : Nat, k ≤ n ∧ vi = .int .i64 (k : Int) ∧ (∃ o L : Nat, vr = .slice (some ⟨g, o, none⟩) L L ∧ Hid (N = szP (l.take k) + L) ∧ Hid (0 < L → o = ([1] ++ be2 n ++ texts (l.take k)).length) ∧ Hid (Mem w [] wr [(g, u8s (([1] ++ be2 n ++ texts (l.take k)) ++ List.replicate L 0), 5)]))) (fun _ vi _ => n - (intOf vi).toNat)
  case atStart => exact ⟨0, by omega, rfl, o0, L0, rfl, HL0.out, by show 0 < L0 → _; simpa [texts] using HOo0.out, by show Mem _ _ _ _; simpa [texts] using hm⟩
  case round =>
    clear HOo0 HL0 hm
    obtain ⟨k, hk, rfl, o, L, rfl, HL, HO, HM⟩ := hrel
    by_cases hlt : k < n
    · have hki : (k : Int) < (n : Int) := by omega
      have hm := HM.out
      obtain ⟨b, off, hp⟩ := SlP.at HV.out HN.out (by omega)
      subst hp
      have HV2 : Hid (SlP wr (.slice (some ⟨b, off, none⟩) n cap) l) := SlV.below HV.out hm.below
      obtain ⟨c0, c1⟩ := SlP.cells HN.out HV2.out k hlt
      obtain ⟨hs1, hs2⟩ := HPS.out k hlt
      obtain ⟨kk, hkk⟩ : ∃ x, x = (l.getD k (noStr, noStr)).1 := ⟨_, rfl⟩
      obtain ⟨vv, hvv⟩ : ∃ x, x = (l.getD k (noStr, noStr)).2 := ⟨_, rfl⟩
      have hle := szP_take_le l (k + 1)
      have hst := szP_take l k (by rw [HN.out]; exact hlt)
      have HTX : Hid (texts (l.take (k + 1)) = texts (l.take k) ++ (textB kk ++ textB vv)) := by
        show _ = _
        rw [take_snoc l k (noStr, noStr) (by rw [HN.out]; exact hlt), texts_append, texts_one, hkk, hvv]
      rw [← hkk] at c0 hs1
      rw [← hvv] at c1 hs2
      rw [psz, ← hkk, ← hvv] at hst
      rw [HNN.out] at hle
      have hLL := HL.out
      have HK60 : Hid (kk.size ≤ 300) := by show _ ≤ _; omega
      have HV150 : Hid (vv.size ≤ 300) := by show _ ≤ _; omega
      obtain ⟨L1, hL1⟩ : ∃ L1 : Nat, L1 = L - (2 + kk.size) := ⟨_, rfl⟩
      obtain ⟨L2, hL2⟩ : ∃ L2 : Nat, L2 = L1 - (2 + vv.size) := ⟨_, rfl⟩
      have HL1 : Hid (L = (2 + kk.size) + L1) := by show _ = _; omega
      have HL2 : Hid (L1 = (2 + vv.size) + L2) := by show _ = _; omega
      have HLS : Hid (N = szP (l.take (k + 1)) + L2) := by show _ = _; omega
      have HC0 : Hid (wr.cell? ⟨b, off + k * 2, none⟩ = some (.string kk)) := c0
      have HC1 : Hid (wr.cell? ⟨b, off + k * 2 + 1, none⟩ = some (.string vv)) := c1
      have tk1 : Nat := 0
      have tk2 : Nat := 0
      clear c0 c1 hkk hvv hle hst hs1 hs2 hL1 hL2 hLL HM
      go_wp2_with (first
        | ((with_reducible refine at_op (some 27) (.indexAddr 24 (.tmp 23) (.tmp 25)) ?_); go_must (refine wpl_execG (.pointer (some ⟨b, off + k * 2, none⟩)) rfl (exec_ixP k rfl rfl rfl hlt) ?_))
        | ((with_reducible refine at_op (some 28) (.load 45 (.tmp 27)) ?_); go_must (refine wpl_execG (.agg [.string kk, .string vv].toArray) rfl (exec_ldP kk vv rfl HC0.out HC1.out) ?_))
        | ((with_reducible refine at_op (some 8) (.alloc 45) ?_); refine wpl_alloc _ zero_pair hm ?_; clear hm; intro w6 g8 hm)
        | ((with_reducible refine at_op none (.store 45 (.tmp 8) (.tmp 28)) ?_); refine wpl_stw 0 [.string kk, .string vv] hm rfl rfl rfl 2 sz_pair (rfl) (rfl) (by simp [Value.oneCell']) ?_; clear hm; intro w7 hm)
        | ((with_reducible refine at_op (some 31) (.load 9 (.tmp 30)) ?_); refine wpl_ldc 0 0 (.string kk) hm rfl rfl ag_str rfl ?_)
        | (go_at_call 27; clear tk1; refine (text_any kk HK60.out _).mono ?_; rintro e w8 ⟨gt, rfl, hge, hr, hb⟩; replace hm := hm.callNew hb hr hge; clear hge hr hb)
        | (go_at_call 25; clear tk2; refine (put_any g o L L1 (2 + kk.size) ([1] ++ be2 n ++ texts (l.take k)) (textB kk) _ HL1.out (textB_length kk) (by omega) HO.out _ (hm.get 2 rfl) (old_all (hm.get 0 rfl) (textB_length kk) (Nat.le_refl _))).mono ?_; rintro e w9 ⟨o1, rfl, ho2, hr2, hu2⟩; have HOo1 : Hid (0 < L1 → o1 = (([1] ++ be2 n ++ texts (l.take k)) ++ (textB kk)).length) := ho2; replace hm := hm.upd 2 rfl hu2 hr2; clear ho2 hr2 hu2)
        | ((with_reducible refine at_op (some 36) (.load 9 (.tmp 35)) ?_); refine wpl_ldc 1 1 (.string vv) hm rfl rfl ag_str rfl ?_)
        | (go_at_call 27; refine (text_any vv HV150.out _).mono ?_; rintro e w10 ⟨gu, rfl, hge, hr, hb⟩; replace hm := hm.callNew hb hr hge; clear hge hr hb)
        | (go_at_call 25; refine (put_any g o1 L1 L2 (2 + vv.size) (([1] ++ be2 n ++ texts (l.take k)) ++ textB kk) (textB vv) _ HL2.out (textB_length vv) (by omega) HOo1.out _ (hm.get 3 rfl) (old_all (hm.get 0 rfl) (textB_length vv) (Nat.le_refl _))).mono ?_; rintro e w11 ⟨o2, rfl, ho2, hr2, hu2⟩; have HOo2 : Hid (0 < L2 → o2 = ((([1] ++ be2 n ++ texts (l.take k)) ++ textB kk) ++ (textB vv)).length) := ho2; replace hm := hm.upd 3 rfl hu2 hr2; clear ho2 hr2 hu2))
      replace hm := hm.tail.tail.tail
      have hdd : ([1] ++ be2 n ++ texts (l.take k)) ++ textB kk ++ textB vv = [1] ++ be2 n ++ texts (l.take (k + 1)) := by rw [HTX.out]; simp only [List.append_assoc]
      have HOF : Hid (0 < L2 → o2 = ([1] ++ be2 n ++ texts (l.take (k + 1))).length) := by rw [← hdd]; exact HOo2.out
      have HMF : Hid (Mem w [] w11 [(g, u8s (([1] ++ be2 n ++ texts (l.take (k + 1))) ++ List.replicate L2 0), 5)]) := by rw [← hdd]; exact hm
      clear hdd hm
      go_roundw
      case rel => exact ⟨k + 1, by omega, by go_num, o2, L2, rfl, HLS.out, HOF.out, HMF.out⟩
      case measure => simp [intOf]; omega
    · have hkn : n = k := by omega
      subst hkn
      have hni : ¬ (n : Int) < (n : Int) := by omega
      have HT : Hid (l.take n = l) := by show _ = _; rw [List.take_of_length_le (by rw [HN.out]; exact Nat.le_refl _)]
      have hm := HM.out
      have hL := HL.out
      rw [HT.out] at hL hm
      rw [HNN.out] at hL
      have hL0 : L = 0 := by omega
      have HR : Hid (Row wr g (u8s (leafB l)) 5) := by
        have h9 := hm.get 0 rfl
        rw [hL0, List.replicate_zero, List.append_nil] at h9
        show Row _ _ _ _
        unfold leafB
        rw [HN.out]
        exact h9
      have hf := hm.fresh _ (List.mem_cons_self ..)
      have HF : Hid (w.heap.size ≤ g) := by show _ ≤ _; simpa using hf
      have HB : Hid (Below w.heap.size w wr) := hm.below
      clear hL hL0 hf hm HM HL HO
      go_wp2_with fail
      go_ret2
      exact ⟨g, rfl, HF.out, HR.out, HB.out⟩
set_option maxRecDepth 100000 in
theorem leaf_any (l : List (ByteArray × ByteArray)) (v : Value) (hnl : l.length ≤ 1000) (hsz : ∀ p ∈ l, p.1.size ≤ 1152921504606846976 ∧ p.2.size ≤ 1152921504606846976) (w : World) (hv : SlP w v l) :
    Calls Try.prog 12 #[v] w fun e w' => ∃ v', e = .returned (.tuple #[v', .int .i64 (leafCode l)]) ∧ SlOld w' v' (leafOut l) ∧ Below w.heap.size w w' := by
  cases hok : okPairs l l.length with
  | false =>
    have hc : leafCode l = 90 := by rw [leafCode, if_pos hok]
    refine (leaf_bad l l.length v rfl hnl hok w hv).mono fun e w' ⟨he, hb⟩ => ⟨_, by rw [hc]; exact he, ?_, hb⟩
    rw [leafOut, hc, if_neg (by decide)]
    exact ⟨none, 0, rfl, Nat.le_refl _, fun h => absurd h (by simp)⟩
  | true =>
    by_cases hs : 480 < szP l
    · have hc : leafCode l = 11 := by rw [leafCode, if_neg (by rw [hok]; simp), if_pos hs]
      refine (leaf_long l l.length v rfl hnl hsz hok hs w hv).mono fun e w' ⟨he, hb⟩ => ⟨_, by rw [hc]; exact he, ?_, hb⟩
      rw [leafOut, hc, if_neg (by decide)]
      exact ⟨none, 0, rfl, Nat.le_refl _, fun h => absurd h (by simp)⟩
    · have hc : leafCode l = 0 := leafCode_of hok (by omega)
      refine (leaf_good l l.length v rfl hnl hok (by omega) w hv).mono fun e w' ⟨g, he, hg, hr, hb⟩ => ⟨_, by rw [hc]; exact he, ?_, hb⟩
      rw [leafOut, if_pos hc]
      exact old_all hr (leafB_length l) (Nat.le_refl _)
end Go.Proofs.Ytnahflppggoplaa
