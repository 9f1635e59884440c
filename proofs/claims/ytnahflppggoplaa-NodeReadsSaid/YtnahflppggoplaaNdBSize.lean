/- Package node: branchSize, fitBranch. -/
import Derived.Test.YtnahflppggoplaaNdFit
namespace Go.Proofs.Ytnahflppggoplaa
open Go Go.RowKit
set_option maxHeartbeats 1000000 in
set_option maxRecDepth 100000 in
theorem branchSize_any (ks : List ByteArray) (n m cap cap2 : Nat) (p q : Option Addr) (hn : ks.length = n) (hnl : n ≤ 1000) (hml : m ≤ 2000) (hsz : ∀ i, i < n → (ks.getD i noStr).size ≤ 60) (w : World) (hv : SlS w (.slice p n cap) ks) :
    Calls Try.prog 29 #[.slice p n cap, .slice q m cap2] w fun e w' => e = .returned (.int .i64 (szB ks m : Nat)) ∧ w' = w := by
  have HV : Hid (SlS w (.slice p n cap) ks) := hv
  have HSZ : Hid (∀ i, i < n → (ks.getD i noStr).size ≤ 60) := hsz
  have HN : Hid (ks.length = n) := hn
  have hkb : ∀ k, k ≤ n → ksz (ks.take k) ≤ 62 * k := by
    intro k
    induction k with
    | zero => intro _; exact Nat.le_refl _
    | succ k ih =>
      intro hk
      have h1 := ih (by omega)
      have h2 := hsz k (by omega)
      rw [ksz_take ks k (by omega)]
      omega
  have HKB : Hid (∀ k, k ≤ n → ksz (ks.take k) ≤ 62 * k) := hkb
  clear hv hsz hn hkb
  go_enter Try.func29, Try.ntmps29
  go_wp2_with fail
  go_loopw [5, 14] (fun vs vi wr => ∃ k s : Nat, k ≤ n ∧ vi = .int .i64 (k : Int) ∧ vs = .int .i64 (s : Int) ∧ Hid (s = 3 + 4 * m + ksz (ks.take k)) ∧ wr = w) (fun _ vi _ => n - (intOf vi).toNat)
  case atStart => exact ⟨0, 3 + 4 * m, by omega, rfl, by simp, by simp [ksz, Hid], rfl⟩
  case round =>
    obtain ⟨k, s, hk, rfl, rfl, HS, rfl⟩ := hrel
    by_cases hlt : k < n
    · have hki : (k : Int) < (n : Int) := by omega
      obtain ⟨b, off, hp⟩ := SlS.at HV.out HN.out (by omega)
      subst hp
      have c0 := SlS.cells HN.out HV.out k hlt
      have h60 := HSZ.out k hlt
      obtain ⟨kk, hkk⟩ : ∃ x, x = ks.getD k noStr := ⟨_, rfl⟩
      rw [← hkk] at c0 h60
      have HST : Hid (s + (2 + kk.size) = 3 + 4 * m + ksz (ks.take (k + 1))) := by
        show _ = _
        rw [ksz_take ks k (by rw [HN.out]; exact hlt), HS.out, ← hkk]
        omega
      have hsb : s ≤ 1000000 := by have h1 := HS.out; have h2 := HKB.out k (by omega); omega
      have HK : Hid (kk.size ≤ 1152921504606846976) := by show _ ≤ _; omega
      clear hkk HS
      go_wp2_with (first
        | (go_at_call 31; refine (textSize_any kk HK.out _).mono ?_; rintro e w2 ⟨rfl, rfl⟩))
      go_roundw
      case rel => exact ⟨k + 1, s + (2 + kk.size), by omega, by go_num, by go_num, HST.out, trivial⟩
      case measure => simp [intOf]; omega
    · have hkn : n = k := by omega
      subst hkn
      have hni : ¬ (n : Int) < (n : Int) := by omega
      have HT : Hid (szB ks m = s) := by
        show _ = _
        rw [HS.out, List.take_of_length_le (by rw [HN.out]; exact Nat.le_refl _)]
        unfold szB; omega
      go_wp2_with fail
      go_ret
      exact ⟨by rw [HT.out]; rfl, rfl⟩
set_option maxHeartbeats 2000000 in
set_option maxRecDepth 100000 in
theorem fitKeys_any (ks : List ByteArray) (n cap cap2 : Nat) (p q : Option Addr) (hn : ks.length = n) (h0 : 0 < n) (hnl : n ≤ 1000) (w : World) (hv : SlS w (.slice p n cap) ks) :
    Calls Try.prog 28 #[.slice p n cap, .slice q (n + 1) cap2] w fun e w' => e = .returned (.bool (okKeys ks n)) ∧ w' = w := by
  have HV : Hid (SlS w (.slice p n cap) ks) := hv
  have HN : Hid (ks.length = n) := hn
  have HA : Hid (((n + 1 : Nat) : Int) = (n : Int) + 1) := rfl
  have h0i : ¬ ((n : Int) = 0) := by omega
  have HBQ : Hid (((n : Int) == 0) = false) := by show _ = _; simp; omega
  clear hv hn
  go_enter Try.func28, Try.ntmps28
  go_wp2_with fail
  rw [HBQ.out]
  go_loopw [20] (fun vi wr => ∃ k : Nat, k ≤ n ∧ vi = .int .i64 (k : Int) ∧ Hid (okKeys ks k = true) ∧ wr = w) (fun vi _ => n - (intOf vi).toNat)
  case atStart => exact ⟨0, by omega, rfl, rfl, rfl⟩
  case round =>
    obtain ⟨k, hk, rfl, HO, rfl⟩ := hrel
    by_cases hlt : k < n
    · have hki : (k : Int) < (n : Int) := by omega
      obtain ⟨b, off, hp⟩ := SlS.at HV.out HN.out (by omega)
      subst hp
      have c0 := SlS.cells HN.out HV.out k hlt
      obtain ⟨kk, hkk⟩ : ∃ x, x = ks.getD k noStr := ⟨_, rfl⟩
      rw [← hkk] at c0
      have HOP : Hid (okKeys ks (k + 1) = (fitK kk && (decide (k = 0) || less (ks.getD (k - 1) noStr) kk))) := by
        show _ = _
        rw [okKeys, HO.out, okKey, Bool.true_and, ← hkk]
      clear hkk
      cases hf : fitK kk with
      | false =>
        have HF : Hid (fitK kk = false) := hf
        have HF2 : Hid (okKeys ks n = false) := okKeys_le (show k + 1 ≤ n by omega) (by rw [HOP.out, hf]; rfl)
        clear hf
        go_wp2_with (first
          | (go_at_call 39; refine (fitKey_is kk false HF.out _).mono ?_; rintro e w2 ⟨rfl, rfl⟩))
        go_ret
        exact ⟨by rw [HF2.out]; rfl, rfl⟩
      | true =>
        have HF : Hid (fitK kk = true) := hf
        by_cases hk0 : k = 0
        · have HO2 : Hid (okKeys ks (k + 1) = true) := by show _ = _; rw [HOP.out, hf, decide_eq_true hk0]; rfl
          have HK0 : Hid ((k : Int) ≤ 0) := by show _ ≤ _; omega
          clear hf HOP HO hk0
          go_wp2_with (first
            | (go_at_call 39; refine (fitKey_is kk true HF.out _).mono ?_; rintro e w2 ⟨rfl, rfl⟩)
            | ((with_reducible refine at_opG (some 30) (.binOp .gtr 3 (.tmp 29) (.const (.int .i64 0)) 3) (some (3, false)) ?_); go_must (refine wpl_execG (.bool false) rfl (exec_gt0 HK0.out rfl) ?_)))
          go_roundw
          case rel => exact ⟨k + 1, by omega, by go_num, HO2.out, trivial⟩
          case measure => simp [intOf]; omega
        · obtain ⟨j, rfl⟩ : ∃ j, k = j + 1 := ⟨k - 1, by omega⟩
          have d0 := SlS.cells HN.out HV.out j (by omega)
          obtain ⟨pk, hpk⟩ : ∃ x, x = ks.getD j noStr := ⟨_, rfl⟩
          rw [← hpk] at d0
          have HWJ : IntKind.i64.wrap (j : Int) = (j : Int) := wrap_nat j (by omega)
          have hji : (j : Int) < (n : Int) := by omega
          cases hl : less pk kk with
          | false =>
            have HF2 : Hid (okKeys ks n = false) := okKeys_le (show j + 1 + 1 ≤ n by omega) (by rw [HOP.out, Nat.add_sub_cancel, ← hpk, hl, decide_eq_false hk0]; simp)
            have HLS : Hid (less pk kk = false) := hl
            clear hf hl hpk hk0
            go_wp2_with (first
              | (go_at_call 39; refine (fitKey_is kk true HF.out _).mono ?_; rintro e w2 ⟨rfl, rfl⟩)
              | ((with_reducible refine at_opG (some 38) (.binOp .geq 9 (.tmp 36) (.tmp 37) 9) (some (6, true)) ?_); go_must (refine wpl_execG (.bool true) rfl (exec_geqs pk kk false rfl rfl HLS.out) ?_)))
            go_ret
            exact ⟨by rw [HF2.out]; rfl, rfl⟩
          | true =>
            have HO2 : Hid (okKeys ks (j + 1 + 1) = true) := by show _ = _; rw [HOP.out, hf, Nat.add_sub_cancel, ← hpk, hl]; simp
            have HLS : Hid (less pk kk = true) := hl
            clear hf hl hpk hk0
            go_wp2_with (first
              | (go_at_call 39; refine (fitKey_is kk true HF.out _).mono ?_; rintro e w2 ⟨rfl, rfl⟩)
              | ((with_reducible refine at_opG (some 38) (.binOp .geq 9 (.tmp 36) (.tmp 37) 9) (some (6, true)) ?_); go_must (refine wpl_execG (.bool false) rfl (exec_geqs pk kk true rfl rfl HLS.out) ?_)))
            go_roundw
            case rel => exact ⟨j + 1 + 1, by omega, by go_num, HO2.out, trivial⟩
            case measure => simp [intOf]; omega
    · have hkn : n = k := by omega
      subst hkn
      have hni : ¬ (n : Int) < (n : Int) := by omega
      go_wp2_with fail
      go_ret
      exact ⟨by rw [HO.out]; rfl, rfl⟩
set_option maxHeartbeats 1000000 in
set_option maxRecDepth 100000 in
theorem fitNone_any (cap m cap2 : Nat) (p q : Option Addr) (w : World) :
    Calls Try.prog 28 #[.slice p 0 cap, .slice q m cap2] w fun e w' => e = .returned (.bool false) ∧ w' = w := by
  go_enter Try.func28, Try.ntmps28
  go_wp2
  go_ret
  exact ⟨rfl, rfl⟩
set_option maxHeartbeats 1000000 in
set_option maxRecDepth 100000 in
theorem fitKids_any (n m cap cap2 : Nat) (p q : Option Addr) (h0 : 0 < n) (hnl : n ≤ 1000) (hm : ¬ m = n + 1) (w : World) :
    Calls Try.prog 28 #[.slice p n cap, .slice q m cap2] w fun e w' => e = .returned (.bool false) ∧ w' = w := by
  have h0i : ¬ ((n : Int) = 0) := by omega
  have hmi : ((m : Int) != (n : Int) + 1) = true := by simp; omega
  go_enter Try.func28, Try.ntmps28
  go_wp2
  go_ret
  exact ⟨rfl, rfl⟩
set_option maxRecDepth 100000 in
theorem fitBranch_any (ks : List ByteArray) (n m cap cap2 : Nat) (p q : Option Addr) (hn : ks.length = n) (hnl : n ≤ 1000) (w : World) (hv : SlS w (.slice p n cap) ks) :
    Calls Try.prog 28 #[.slice p n cap, .slice q m cap2] w fun e w' => e = .returned (.bool (okBr ks m)) ∧ w' = w := by
  unfold okBr
  rw [hn]
  by_cases h0 : n = 0
  · subst h0
    exact fitNone_any cap m cap2 p q w
  · by_cases hm : m = n + 1
    · subst hm
      rw [decide_eq_true h0, decide_eq_true rfl]
      exact fitKeys_any ks n cap cap2 p q hn (by omega) hnl w hv
    · rw [decide_eq_true h0, decide_eq_false hm]
      exact fitKids_any n m cap cap2 p q (by omega) hnl hm w
end Go.Proofs.Ytnahflppggoplaa
