/- Package node: Size. -/
import Derived.Test.YtnahflppggoplaaNdSmall
namespace Go.Proofs.Ytnahflppggoplaa
open Go Go.RowKit
set_option maxHeartbeats 1000000 in
set_option maxRecDepth 100000 in
theorem size_any (l : List (ByteArray × ByteArray)) (n : Nat) (v : Value) (hn : l.length = n) (hnl : n ≤ 1000) (hsz : ∀ p ∈ l, p.1.size ≤ 1152921504606846976 ∧ p.2.size ≤ 1152921504606846976) (w : World) (hv : SlP w v l) :
    Calls Try.prog 14 #[v] w fun e w' => e = .returned (.int .i64 ((min (szP l) 100000 : Nat) : Int)) ∧ Below w.heap.size w w' := by
  obtain ⟨p, cap, rfl, hcap⟩ := SlV.len hv
  have HV : Hid (SlP w (.slice p l.length cap) l) := hv
  have HSZ : Hid (∀ p ∈ l, p.1.size ≤ 1152921504606846976 ∧ p.2.size ≤ 1152921504606846976) := hsz
  have HN : Hid (l.length = n) := hn
  rw [hn] at hcap HV ⊢
  clear hv hsz hn
  go_enter Try.func14, Try.ntmps14
  go_wp2_with fail
  go_loopw [3, 8] (fun vs vi wr => ∃ k : Nat, k ≤ n ∧ vi = .int .i64 (k : Int) ∧ (∃ s : Nat, s < 100000 ∧ vs = .int .i64 (s : Int) ∧ Hid (szP (l.take k) = s)) ∧ Hid (Below w.heap.size w wr)) (fun _ vi _ => n - (intOf vi).toNat)
  case atStart => exact ⟨0, by omega, rfl, ⟨3, by omega, rfl, rfl⟩, Below.refl _ _⟩
  case round =>
    obtain ⟨k, hk, rfl, ⟨s, hs, rfl, HS⟩, HB⟩ := hrel
    by_cases hlt : k < n
    · have hki : (k : Int) < (n : Int) := by omega
      obtain ⟨b, off, hp⟩ := SlP.at HV.out HN.out (by omega)
      subst hp
      have HV2 : Hid (SlP wr (.slice (some ⟨b, off, none⟩) n cap) l) := SlV.below HV.out HB.out
      obtain ⟨c0, c1⟩ := SlP.cells HN.out HV2.out k hlt
      obtain ⟨kk, hkk⟩ : ∃ x, x = (l.getD k (noStr, noStr)).1 := ⟨_, rfl⟩
      obtain ⟨vv, hvv⟩ : ∃ x, x = (l.getD k (noStr, noStr)).2 := ⟨_, rfl⟩
      have hmem : l.getD k (noStr, noStr) ∈ l := by
        have h9 := HN.out
        simp [show k < l.length by omega]
      obtain ⟨hz1, hz2⟩ := HSZ.out _ hmem
      have HST : Hid (szP (l.take (k + 1)) = s + (4 + kk.size + vv.size)) := by
        show _ = _
        rw [szP_take l k (by rw [HN.out]; exact hlt), HS.out, hkk, hvv]
        rfl
      rw [← hkk] at c0 hz1
      rw [← hvv] at c1 hz2
      have HC0 : Hid (wr.cell? ⟨b, off + k * 2, none⟩ = some (.string kk)) := c0
      have HC1 : Hid (wr.cell? ⟨b, off + k * 2 + 1, none⟩ = some (.string vv)) := c1
      have hm := Mem.start wr
      clear c0 c1 hkk hvv hmem
      go_wp2_with (first
        | ((with_reducible refine at_op (some 10) (.indexAddr 24 (.tmp 6) (.tmp 8)) ?_); go_must (refine wpl_execG (.pointer (some ⟨b, off + k * 2, none⟩)) rfl (exec_ixP k rfl rfl rfl hlt) ?_))
        | ((with_reducible refine at_op (some 11) (.load 45 (.tmp 10)) ?_); go_must (refine wpl_execG (.agg [.string kk, .string vv].toArray) rfl (exec_ldP kk vv rfl HC0.out HC1.out) ?_))
        | ((with_reducible refine at_op (some 5) (.alloc 45) ?_); refine wpl_alloc _ zero_pair hm ?_; clear hm; intro w2 g5 hm)
        | ((with_reducible refine at_op none (.store 45 (.tmp 5) (.tmp 11)) ?_); refine wpl_stw 0 [.string kk, .string vv] hm rfl rfl rfl 2 sz_pair (rfl) (rfl) (by simp [Value.oneCell']) ?_; clear hm; intro w3 hm))
      have ca : w3.cell? ⟨g5, 0, none⟩ = some (.string kk) := ((hm.get 0 rfl).cell 0).trans rfl
      have cb : w3.cell? ⟨g5, 1, none⟩ = some (.string vv) := ((hm.get 0 rfl).cell 1).trans rfl
      go_quiet (first | (go_at_call 31; refine Calls.quiet_of_same (textSize_any _ (by omega) _)))
      obtain ⟨wc, hwc⟩ : ∃ v, v = World.drewN w3 nq := ⟨_, rfl⟩
      replace hm := Mem.drewN hm nq
      rw [← hwc] at hm ⊢
      clear hwc ca cb
      have HB2 : Hid (Below w.heap.size w wc) := HB.out.trans (hm.below.mono HB.out.size)
      obtain ⟨tt, htt⟩ : ∃ tt : Nat, tt = s + (4 + kk.size + vv.size) := ⟨_, rfl⟩
      rw [show IntKind.i64.wrap (2 + (kk.size : Int) + (2 + (vv.size : Int))) = (2 + (kk.size : Int) + (2 + (vv.size : Int))) from wrapi _ (by omega) (by omega), show IntKind.i64.wrap ((s : Int) + (2 + (kk.size : Int) + (2 + (vv.size : Int)))) = (tt : Int) from (wrapi _ (by omega) (by omega)).trans (by omega)]
      rw [← htt] at HST
      have HTT : Hid (tt = s + (4 + kk.size + vv.size)) := htt
      clear hz1 hz2 htt HS
      by_cases hge : tt < 100000
      · have hgi : ¬ (tt : Int) ≥ 100000 := by omega
        go_wp2_with fail
        go_roundw
        case rel => exact ⟨k + 1, by omega, by go_num, ⟨tt, hge, rfl, HST.out⟩, HB2.out⟩
        case measure => simp [intOf]; omega
      · have hgi : (tt : Int) ≥ 100000 := by omega
        have HL : Hid (min (szP l) 100000 = 100000) := by
          show _ = _
          have h9 := szP_take_le l (k + 1)
          rw [HST.out] at h9
          exact Nat.min_eq_right (by omega)
        go_wp2_with fail
        go_ret
        exact ⟨by rw [HL.out]; rfl, HB2.out⟩
    · have hkn : n = k := by omega
      subst hkn
      have hni : ¬ (n : Int) < (n : Int) := by omega
      have HT : Hid (szP l = s) := by show _ = _; rw [← HS.out, List.take_of_length_le (by rw [HN.out]; exact Nat.le_refl _)]
      go_wp2_with fail
      go_ret
      exact ⟨by rw [HT.out, Nat.min_eq_left (by omega)]; rfl, HB.out⟩
end Go.Proofs.Ytnahflppggoplaa
