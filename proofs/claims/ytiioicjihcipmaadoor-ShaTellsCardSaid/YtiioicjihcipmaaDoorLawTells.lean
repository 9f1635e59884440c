/- The walk of the law ShaTells. -/
import Derived.Test.YtiioicjihcipmaaDoorEqs
import Derived.Test.YtiioicjihcipmaaDoorSumRef
namespace Go.Proofs.YtiioicjihcipmaaDoor
open Go Go.RowKit

def cnt (k : Nat) : List Int := (List.range k).map (fun i : Nat => (i : Int))
theorem cnt_length (k : Nat) : (cnt k).length = k := by simp [cnt]
theorem cnt_succ (k : Nat) : cnt (k + 1) = cnt k ++ [(k : Int)] := by simp [cnt, List.range_succ]
theorem cnt_bytes (k : Nat) (h : k ≤ 200) : Bytes (cnt k) := by
  intro x hx
  obtain ⟨i, hi, rfl⟩ := List.mem_map.1 hx
  have := List.mem_range.1 hi
  omega
set_option maxHeartbeats 2000000 in
set_option maxRecDepth 100000 in
theorem shaTells_walk (v : Value) (cs : List Int) (n : Int) (bn : 0 ≤ n ∧ n ≤ 65535) (w : World) (ht : Tab w) (hbc : Bytes cs) (hsl : SlOld w v cs) :
    Calls Tryd.prog 3 #[v, .int .u16 n] w fun e w' => e = .returned (.bool true) ∧ Below w.heap.size w w' := by
  have hs0 := hsl
  obtain ⟨p, cap, rfl, hcap, _⟩ := hs0
  obtain ⟨bn0, bn1⟩ := bn
  have hm := Mem.start w
  have HT : Hid _ := ht
  have HB : Hid _ := hbc
  have HV : Hid (SlOld w (.slice p cs.length cap) cs) := hsl
  clear ht hbc hsl
  by_cases h300 : 300 < cs.length
  · have h300i : (300 : Int) < (cs.length : Int) := by omega
    go_enter Tryd.func3, Tryd.ntmps3
    go_wp2_with (first
      | (go_at_call 8; refine (known_any _ (Tab.mem HT.out hm (by simp))).mono ?_; rintro e w3 ⟨rfl, hb⟩; replace hm := hm.call hb; clear hb))

    go_ret
    exact ⟨rfl, hm.below⟩
  have h300i : ¬ (300 : Int) < (cs.length : Int) := by omega
  obtain ⟨K, hK⟩ : ∃ K : Nat, n % 200 = (K : Int) := ⟨(n % 200).toNat, by omega⟩
  have hK2 : K < 200 := by omega
  go_enter Tryd.func3, Tryd.ntmps3
  go_wp2_with (first
    | (go_at_call 8; refine (known_any _ (Tab.mem HT.out hm (by simp))).mono ?_; rintro e w3 ⟨rfl, hb⟩; replace hm := hm.call hb; clear hb)
    | ((with_reducible refine at_op (some 13) (.call { callee := .builtin .append, args := #[.const (.slice none 0 0), .tmp 12], argTypes := #[22, 22] }) ?_); refine wpl_app rfl un_bs made_u8 cs hm (OwnB.nil _ _ _) (fun r hr => by cases hr) rfl rfl rfl (SlOld.srcR (SlOld.mem HV.out hm)) (by simp; omega) ?_; clear hm; intro v1 w4 hown hm; replace hown : OwnB 5 w4 w.heap.size v1 cs := hown))

  go_loopw [5, 6] (fun vs vi wr => ∃ k : Nat, k ≤ K ∧ vi = .int .i64 k ∧ OwnB 5 wr w.heap.size vs (cs ++ cnt k) ∧ Mem w [] wr []) (fun _ vi _ => K - (intOf vi).toNat)
  case atStart => exact ⟨0, by omega, rfl, by rw [show cnt 0 = [] from rfl, List.append_nil]; exact hown, hm⟩
  case round =>
    clear hm hown
    obtain ⟨k, hk, rfl, hown, hm⟩ := hrel
    by_cases hlt : k < K
    · have hki : (k : Int) < (K : Int) := by omega
      have hln : (cs ++ cnt k).length + [(k : Int)].length ≤ 1099511627776 := by simp [cnt_length]; omega
      have HLN : Hid _ := hln
      clear hln
      go_wp2_with (first
        | ((with_reducible refine at_op (some 25) (.call { callee := .builtin .append, args := #[.tmp 21, .tmp 24], argTypes := #[22, 22] }) ?_); refine wpl_app rfl un_bs made_u8 [(k : Int)] (hm.allocO _) (hown.alloc _) (fun r hr => by cases hr) rfl rfl rfl (fun _ => ⟨_, _, rfl, Seg.newO wr [(k : Int)] 5 (0, 0)⟩) HLN.out ?_; clear hm hown; intro v3 w6 hown hm; rw [List.append_assoc, ← cnt_succ] at hown))

      go_roundw
      case rel => exact ⟨k + 1, by omega, by go_num, hown, hm⟩
      case measure => simp [intOf]; omega
    · have hkK : k = K := by omega
      subst hkK
      have hki : ¬ (k : Int) < (k : Int) := by omega
      have heq := eq_self32 (shaOf (cs ++ cnt k)) (shaOf_length _)
      have hb2 : Bytes (cs ++ cnt k) := Bytes.append HB.out (cnt_bytes k (by omega))
      have hl2 : (cs ++ cnt k).length ≤ 1000000 := by simp [cnt_length]; omega
      have HB2 : Hid _ := hb2
      have HL2 : Hid _ := hl2
      clear hb2 hl2
      go_wp2_with (first
        | (go_at_call 9; refine (sum_any (cs ++ cnt k) _ HB2.out (Nat.le_trans HL2.out (by omega)) _ (Tab.mem HT.out hm (by simp)) hown.old).mono ?_; rintro e w7 ⟨rfl, hb⟩; replace hown := hown.below hb; replace hm := hm.call hb; clear hb)
        | (go_at_call 10; refine (sumRef_any (cs ++ cnt k) _ HB2.out HL2.out _ hown.old).mono ?_; rintro e w8 ⟨rfl, hb⟩; replace hown := hown.below hb; replace hm := hm.call hb; clear hb))

      go_ret
      exact ⟨rfl, hm.below⟩
end Go.Proofs.YtiioicjihcipmaaDoor
