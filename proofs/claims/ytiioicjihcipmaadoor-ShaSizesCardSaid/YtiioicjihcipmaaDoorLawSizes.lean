/- The walk of the law ShaSizes. -/
import Derived.Test.YtiioicjihcipmaaDoorEqs
namespace Go.Proofs.YtiioicjihcipmaaDoor
open Go Go.RowKit

set_option maxHeartbeats 1000000 in
set_option maxRecDepth 100000 in
theorem shaSizes_walk (n c : Int) (hn : 0 ≤ n ∧ n ≤ 255) (hc : 0 ≤ c ∧ c ≤ 255) (w : World) (ht : Tab w) :
    Calls Tryd.prog 7 #[.int .u8 n, .int .u8 c] w fun e w' => e = .returned (.bool true) ∧ Below w.heap.size w w' := by
  obtain ⟨hn0, hn1⟩ := hn
  obtain ⟨hc0, hc1⟩ := hc
  obtain ⟨N, hN⟩ : ∃ N : Nat, (N : Int) = n % 140 := ⟨(n % 140).toNat, by omega⟩
  have hN140 : N < 140 := by omega
  have hm := Mem.start w
  have HT : Hid _ := ht
  have HN : Hid _ := hN
  clear ht hN
  go_enter Tryd.func7, Tryd.ntmps7
  go_wp2_with (first
    | (go_at_call 8; refine (known_any _ (Tab.mem HT.out hm (by simp))).mono ?_; rintro e w3 ⟨rfl, hb⟩; replace hm := hm.call hb; clear hb)
    | ((with_reducible refine at_op (some 14) (.makeSlice 22 (.tmp 13) (.tmp 13)) ?_); refine wpl_make _ un_bs _ made_u8 rfl N rfl HN.out.symm rfl HN.out.symm (by omega) hm ?_; clear hm; intro w4 g5 hm))

  rw [show List.replicate N (Value.int .u8 0) = u8s (List.replicate N 0) by simp [u8s]] at hm
  go_loopw [6] (fun vi wr => ∃ (k : Nat) (bs : List Int), k ≤ N ∧ vi = .int .i64 k ∧ Hid (bs.length = N) ∧ Hid (Bytes bs) ∧ Mem w [] wr [(g5, u8s bs, 5)]) (fun vi _ => N - (intOf vi).toNat)
  case atStart => exact ⟨0, List.replicate N 0, by omega, rfl, by show _ = _; simp, Bytes.zeros N, hm⟩
  case round =>
    clear hm
    obtain ⟨k, bs, hk, rfl, HL, HB, hm⟩ := hrel
    by_cases hlt : k < N
    · have hki : (k : Int) < (N : Int) := by omega
      go_wp2_with (first
        | ((with_reducible refine at_op none (.store 5 (.tmp 27) (.tmp 26)) ?_); refine wpl_stc 0 k (.int .u8 ((c + k) % 256)) hm rfl (rfl) rfl sz_u8 (by rw [u8s_length]; have := HL.out; omega) rfl rfl ?_; clear hm; intro w5 hm; rw [u8s_set] at hm))

      go_roundw
      case rel => exact ⟨k + 1, bs.set k ((c + k) % 256), by omega, by go_num, by show _ = _; rw [List.length_set]; exact HL.out, Bytes.set HB.out k _ (by omega), hm⟩
      case measure => simp [intOf]; omega
    · have hkN : k = N := by omega
      subst hkN
      go_wp2_with (first
        | (go_at_call 11; refine (new_any _).mono ?_; rintro e w6 ⟨g, rfl, hge, hr, hb⟩; rw [new_row] at hr; have HGT : Hid _ := Nat.ne_of_lt (Nat.lt_of_lt_of_le (Tab.lt (Tab.mem HT.out hm (by simp))) hge); replace hm := hm.callNew hb hr hge; clear hb hr hge))

      replace hm : Mem w [] w6 [(g, hrow (wsOf (bs.take 0)) (restOf (bs.take 0)) ((bs.take 0).length : Int), 49), (g5, u8s bs, 5)] := hm
      go_loopw [8] (fun vi wr => ∃ j : Nat, j ≤ k ∧ vi = .int .i64 j ∧ Mem w [] wr [(g, hrow (wsOf (bs.take j)) (restOf (bs.take j)) ((bs.take j).length : Int), 49), (g5, u8s bs, 5)]) (fun vi _ => k - (intOf vi).toNat)
      case atStart => exact ⟨0, by omega, rfl, hm⟩
      case round =>
        clear hm
        obtain ⟨j, hj, rfl, hm⟩ := hrel
        by_cases hlt2 : j < k
        · have hji : (j : Int) < (k : Int) := by omega
          have hgg : g5 ≠ g := fun h => hm.ne 0 rfl h.symm
          have hx1 : bs.take j ++ [bs.getD j 0] = bs.take (j + 1) := by
            have hjl : j < bs.length := by have := HL.out; omega
            rw [List.take_succ_eq_append_getElem hjl]; simp [hjl]
          have hsg : Seg wr g5 j [bs.getD j 0] := by
            intro i hi
            have hi0 : i = 0 := by simpa using hi
            subst hi0
            have h := Seg.row (hm.get 1 rfl) j (by have := HL.out; omega)
            rw [Nat.zero_add] at h
            exact h
          have hbx : Bytes [bs.getD j 0] := by
            intro x hx
            have hx0 : x = bs.getD j 0 := by simpa using hx
            rw [hx0]
            exact Bytes.get HB.out j
          have hll : (bs.take j).length + [bs.getD j 0].length ≤ 1099511627776 := by simp; omega
          have HBX : Hid _ := hbx
          have HLL : Hid _ := hll
          clear hbx hll
          have HGG : Hid _ := hgg
          have HX1 : Hid _ := hx1
          have HSG : Hid (Seg wr g5 j [bs.getD j 0]) := hsg
          clear hgg hx1 hsg
          go_wp2_with (first
            | ((with_reducible refine at_op (some 40) (.slice 22 (.tmp 36) (some (.tmp 37)) (some (.tmp 39)) none) ?_); refine wpl_slh un_bs sz_u8 j 1 (by omega) hlt2 rfl rfl rfl rfl rfl ?_)
            | (go_at_call 12; refine (write_any g (bs.take j) [bs.getD j 0] _ (Bytes.take HB.out j) HBX.out HLL.out _ (Tab.mem HT.out hm (by simp)) HGT.out (hm.get 0 rfl) ⟨_, _, rfl, by simp; omega, fun _ => ⟨g5, j, rfl, HGG.out, HSG.out⟩⟩).mono ?_; rintro e w7 ⟨rfl, hr, hu⟩; rw [HX1.out] at hr; replace hm := hm.upd 0 rfl hu hr; clear hr hu))

          go_roundw
          case rel => exact ⟨j + 1, by omega, by go_num, hm⟩
          case measure => simp [intOf]; omega
        · have hjk : j = k := by omega
          subst hjk
          rw [List.take_of_length_le (by have := HL.out; omega)] at hm
          have hlen : bs.length ≤ 1099511627776 := by have := HL.out; omega
          have heq := eq_self32 (shaOf bs) (shaOf_length _)
          have hlb : (bs.length : Int) = (j : Int) := by have := HL.out; omega
          have HLB : Hid _ := hlb
          have HLEN : Hid _ := hlen
          clear hlb hlen
          go_wp2_with (first
            | (go_at_call 13; refine (hashSum_any g bs HB.out HLEN.out _ (Tab.mem HT.out hm (by simp)) (hm.get 0 rfl)).mono ?_; rintro e w8 ⟨rfl, hb⟩; replace hm := hm.call hb; clear hb)
            | (go_at_call 9; refine (sum_any bs _ HB.out HLEN.out _ (Tab.mem HT.out hm (by simp)) ⟨_, _, by rw [HL.out], by have := HL.out; omega, fun _ => ⟨g5, 0, rfl, Seg.row (hm.get 1 rfl)⟩⟩).mono ?_; rintro e w9 ⟨rfl, hb⟩; replace hm := hm.call hb; clear hb)
            | (go_at_call 15; refine (len_any g (wsOf bs) (restOf bs) _ (wsOf_length _) (restOf_length _) _ (hm.get 0 rfl)).mono ?_; rintro e w10 ⟨rfl, rfl⟩; rw [HLB.out]))

          go_ret
          exact ⟨rfl, hm.below⟩
end Go.Proofs.YtiioicjihcipmaaDoor
