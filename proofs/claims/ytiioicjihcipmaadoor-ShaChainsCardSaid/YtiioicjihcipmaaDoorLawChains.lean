/- The walk of the law ShaChains. -/
import Derived.Test.YtiioicjihcipmaaDoorEqs
import Derived.Test.YtiioicjihcipmaaDoorAny3
namespace Go.Proofs.YtiioicjihcipmaaDoor
open Go Go.RowKit

def chain (l : List Int) : Nat → List Int
  | 0 => l
  | k + 1 => shaOf (chain l k)
theorem chain_length (l : List Int) (h : l.length = 32) (k : Nat) : (chain l k).length = 32 := by
  cases k with
  | zero => exact h
  | succ k => exact shaOf_length _
theorem chain_bytes (l : List Int) (h : Bytes l) (k : Nat) : Bytes (chain l k) := by
  cases k with
  | zero => exact h
  | succ k => exact shaOf_bytes _
/-- A row of bytes from its place on, as a slice. -/
theorem sl_row {w : World} {g r cap : Nat} {l : List Int} {t : TypeId} (hr : Row w r (u8s l) t) (hne : r ≠ g) (o n : Nat) (h1 : o + n ≤ l.length) (h2 : n ≤ cap) : Sl w g (.slice (some ⟨r, o, none⟩) n cap) ((l.drop o).take n) := by
  have hl : ((l.drop o).take n).length = n := by simp; omega
  refine ⟨_, cap, by rw [hl], by rw [hl]; exact h2, fun _ => ⟨r, o, rfl, hne, ?_⟩⟩
  have := ((Seg.row hr).drop o).take n
  rw [Nat.zero_add] at this
  exact this
set_option maxHeartbeats 2000000 in
set_option maxRecDepth 100000 in
theorem shaChains_walk (v : Value) (cs : List Int) (n at_ : Int) (hn : 0 ≤ n ∧ n ≤ 255) (ha : 0 ≤ at_ ∧ at_ ≤ 255) (w : World) (ht : Tab w) (hbc : cs.length ≤ 200 → Bytes cs) (hv : SlOld w v cs) :
    Calls Tryd.prog 6 #[v, .int .u8 n, .int .u8 at_] w fun e w' => e = .returned (.bool true) ∧ Below w.heap.size w w' := by
  obtain ⟨hn0, hn1⟩ := hn
  obtain ⟨ha0, ha1⟩ := ha
  obtain ⟨p, cap, rfl, hcap, hseg⟩ := hv
  obtain ⟨K, hK⟩ : ∃ K : Nat, (K : Int) = n % 20 := ⟨(n % 20).toNat, by omega⟩
  have hK20 : K < 20 := by omega
  obtain ⟨A, hA⟩ : ∃ A : Nat, (A : Int) = at_ % ((K : Int) + 1) := ⟨(at_ % ((K : Int) + 1)).toNat, by have := Int.emod_nonneg at_ (show (K : Int) + 1 ≠ 0 by omega); omega⟩
  have hAK : A < K + 1 := by have := Int.emod_lt_of_pos at_ (show 0 < (K : Int) + 1 by omega); omega
  have hm := Mem.start w
  have HT : Hid _ := ht
  have HKK : Hid _ := hK
  have HAA : Hid _ := hA
  have HBC : Hid _ := hbc
  have HSEG : Hid _ := hseg
  clear ht hK hA hbc hseg
  by_cases hlen : cs.length ≤ 200
  · have hli : ¬ (200 : Int) < (cs.length : Int) := by omega
    go_enter Tryd.func6, Tryd.ntmps6
    go_wp2_with (first
      | (go_at_call 8; refine (known_any _ (Tab.mem HT.out hm (by simp))).mono ?_; rintro e w3 ⟨rfl, hb⟩; replace hm := hm.call hb; clear hb)
      | (go_at_call 9; refine (sum_any cs _ (HBC.out hlen) (by omega) _ (Tab.mem HT.out hm (by simp)) (SlOld.mem ⟨_, _, rfl, hcap, HSEG.out⟩ hm)).mono ?_; rintro e w4 ⟨rfl, hb⟩; replace hm := hm.call hb; clear hb)
      | ((with_reducible refine at_op (some 8) (.alloc 25) ?_); refine wpl_alloc _ zero_b32 hm ?_; clear hm; intro w5 g8 hm)
      | ((with_reducible refine at_op none (.store 25 (.tmp 8) (.tmp 22)) ?_); refine wpl_stw 0 (u8s (shaOf cs)) hm rfl rfl rfl 32 sz_b32 (rfl) (by rw [u8s_length]; exact shaOf_length _) (u8s_one _) ?_; clear hm; intro w6 hm)
      | ((with_reducible refine at_op (some 23) (.load 25 (.tmp 8)) ?_); refine wpl_ldw 0 hm rfl rfl _ un_b32 rfl 32 sz_b32 (by rw [u8s_length]; exact shaOf_length _) ?_)
      | ((with_reducible refine at_op (some 9) (.alloc 25) ?_); refine wpl_alloc _ zero_b32 hm ?_; clear hm; intro w7 g9 hm)
      | ((with_reducible refine at_op none (.store 25 (.tmp 9) (.tmp 23)) ?_); refine wpl_stw 0 (u8s (shaOf cs)) hm rfl rfl rfl 32 sz_b32 (rfl) (by rw [u8s_length]; exact shaOf_length _) (u8s_one _) ?_; clear hm; intro w8 hm))

    replace hm : Mem w [] w8 [(g9, u8s (shaOf cs), 25), (g8, u8s (chain (shaOf cs) 0), 25)] := hm
    rw [← HKK.out, show decide ((200 : Int) < (cs.length : Int)) = false from decide_eq_false (by omega)]
    have hAi : at_ % ((K : Int) + 1) = (A : Int) := HAA.out.symm
    clear HAA HKK
    go_loopw [10] (fun vi wr => ∃ (j : Nat) (L : List Int), j ≤ K ∧ vi = .int .i64 j ∧ Hid (L = if A < j then chain (shaOf cs) A else shaOf cs) ∧ Mem w [] wr [(g9, u8s L, 25), (g8, u8s (chain (shaOf cs) j), 25)]) (fun vi _ => K - (intOf vi).toNat)
    case atStart => exact ⟨0, shaOf cs, by omega, rfl, by show _ = _; rw [if_neg (by omega)], hm⟩
    case round =>
      clear hm
      obtain ⟨j, L, hj, rfl, HL, hm⟩ := hrel
      have hLl : L.length = 32 := by rw [HL.out]; split; exact chain_length _ (shaOf_length _) _; exact shaOf_length _
      have hLb : Bytes L := by rw [HL.out]; split; exact chain_bytes _ (shaOf_bytes _) _; exact shaOf_bytes _
      have hcl := chain_length (shaOf cs) (shaOf_length _) j
      have hcb := chain_bytes (shaOf cs) (shaOf_bytes _) j
      have HLL : Hid _ := hLl
      have HLB : Hid _ := hLb
      have HCL : Hid _ := hcl
      have HCB : Hid _ := hcb
      clear hLl hLb hcl hcb
      by_cases hlt : j < K
      · have hji : (j : Int) < (K : Int) := by omega
        by_cases hjA : j = A
        · have hb1 : ((j : Int) == (A : Int)) = true := beq_iff_eq.2 (by omega)
          have HJA : Hid _ := hjA
          clear hjA
          go_wp2_with (first
            | ((with_reducible refine at_op (some 36) (.load 25 (.tmp 8)) ?_); refine wpl_ldw 1 hm rfl rfl _ un_b32 rfl 32 sz_b32 (by rw [u8s_length]; exact HCL.out) ?_)
            | ((with_reducible refine at_op none (.store 25 (.tmp 9) (.tmp 36)) ?_); refine wpl_stw 0 (u8s (chain (shaOf cs) j)) hm rfl rfl rfl 32 sz_b32 (by rw [u8s_length]; exact HLL.out) (by rw [u8s_length]; exact HCL.out) (u8s_one _) ?_; clear hm; intro w9 hm)
            | (go_at_call 9; refine (sum_any (chain (shaOf cs) j) _ HCB.out (by rw [HCL.out]; omega) _ (Tab.mem HT.out hm (by simp)) ⟨_, 32, by rw [HCL.out], Nat.le_of_eq HCL.out, fun _ => ⟨g8, 0, rfl, Seg.row (hm.get 1 rfl)⟩⟩).mono ?_; rintro e w10 ⟨rfl, hb⟩; replace hm := hm.call hb; clear hb)
            | ((with_reducible refine at_op none (.store 25 (.tmp 8) (.tmp 38)) ?_); refine wpl_stw 1 (u8s (shaOf (chain (shaOf cs) j))) hm rfl rfl rfl 32 sz_b32 (by rw [u8s_length]; exact HCL.out) (by rw [u8s_length]; exact shaOf_length _) (u8s_one _) ?_; clear hm; intro w11 hm))

          replace hm : Mem w [] w11 [(g9, u8s (chain (shaOf cs) j), 25), (g8, u8s (chain (shaOf cs) (j + 1)), 25)] := hm
          go_roundw
          case rel => exact ⟨j + 1, chain (shaOf cs) j, by omega, by go_num, by show _ = _; have := HJA.out; rw [if_pos (by omega), this], hm⟩
          case measure => simp [intOf]; omega
        · have hb1 : ((j : Int) == (A : Int)) = false := beq_eq_false_iff_ne.2 (by omega)
          go_wp2_with (first
            | (go_at_call 9; refine (sum_any (chain (shaOf cs) j) _ HCB.out (by rw [HCL.out]; omega) _ (Tab.mem HT.out hm (by simp)) ⟨_, 32, by rw [HCL.out], Nat.le_of_eq HCL.out, fun _ => ⟨g8, 0, rfl, Seg.row (hm.get 1 rfl)⟩⟩).mono ?_; rintro e w10 ⟨rfl, hb⟩; replace hm := hm.call hb; clear hb)
            | ((with_reducible refine at_op none (.store 25 (.tmp 8) (.tmp 38)) ?_); refine wpl_stw 1 (u8s (shaOf (chain (shaOf cs) j))) hm rfl rfl rfl 32 sz_b32 (by rw [u8s_length]; exact HCL.out) (by rw [u8s_length]; exact shaOf_length _) (u8s_one _) ?_; clear hm; intro w11 hm))

          replace hm : Mem w [] w11 [(g9, u8s L, 25), (g8, u8s (chain (shaOf cs) (j + 1)), 25)] := hm
          go_roundw
          case rel => exact ⟨j + 1, L, by omega, by go_num, by show _ = _; rw [HL.out]; by_cases h : A < j; (rw [if_pos h, if_pos (by omega)]); (rw [if_neg h, if_neg (by omega)]), hm⟩
          case measure => simp [intOf]; omega
      · have hjK : j = K := by omega
        subst hjK
        go_wp2_with fail
        rw [hAi]
        go_loopw [11] (fun vi wr => ∃ (i : Nat) (M : List Int), A ≤ i ∧ i ≤ j ∧ vi = .int .i64 i ∧ Hid (M.length = 32) ∧ Hid (Bytes M) ∧ Hid (A < j → M = chain (shaOf cs) i) ∧ Mem w [] wr [(g9, u8s M, 25), (g8, u8s (chain (shaOf cs) j), 25)]) (fun vi _ => j - (intOf vi).toNat)
        case atStart => exact ⟨A, L, by omega, by omega, rfl, HLL.out, HLB.out, (fun h => by rw [HL.out, if_pos h]), hm⟩
        case round =>
          clear hm HL HLL HLB
          obtain ⟨i, M, hAi2, hij, rfl, HML, HMB, HMC, hm⟩ := hrel
          by_cases hlt2 : i < j
          · have hii : (i : Int) < (j : Int) := by omega
            have hb1 : Bytes ((M.drop 0).take 16) := (Bytes.drop HMB.out 0).take 16
            have hb2 : Bytes ((M.drop 16).take 16) := (Bytes.drop HMB.out 16).take 16
            have hcat : (M.drop 0).take 16 ++ (M.drop 16).take 16 = M := by
              rw [List.drop_zero, List.take_of_length_le (l := M.drop 16) (by have := HML.out; simp; omega), List.take_append_drop]
            have HB1 : Hid _ := hb1
            have HB2 : Hid _ := hb2
            have HCAT : Hid _ := hcat
            clear hb1 hb2 hcat
            go_wp2_with (first
              | (go_at_call 11; refine (new_any _).mono ?_; rintro e w12 ⟨g, rfl, hge, hr, hb⟩; rw [new_row] at hr; have HGT : Hid _ := Nat.ne_of_lt (Nat.lt_of_lt_of_le (Tab.lt (Tab.mem HT.out hm (by simp))) hge); replace hm := hm.callNew hb hr hge; clear hb hr hge))

            have HGG : Hid (g9 ≠ g) := fun h => hm.ne 0 rfl h.symm
            refine (write_any g [] ((M.drop 0).take 16) _ bytes_none HB1.out (by simp; omega) _ (Tab.mem HT.out hm (by simp)) HGT.out (hm.get 0 rfl) (sl_row (hm.get 1 rfl) HGG.out 0 16 (by have := HML.out; omega) (by omega))).mono ?_
            rintro e w13 ⟨rfl, hr, hu⟩
            replace hm : Mem w [] w13 [(g, hrow (wsOf ((M.drop 0).take 16)) (restOf ((M.drop 0).take 16)) (((M.drop 0).take 16).length : Int), 49), (g9, u8s M, 25), (g8, u8s (chain (shaOf cs) j), 25)] := hm.upd 0 rfl hu hr
            clear hr hu
            go_wp2_with fail
            refine (write_any g ((M.drop 0).take 16) ((M.drop 16).take 16) _ HB1.out HB2.out (by simp; omega) _ (Tab.mem HT.out hm (by simp)) HGT.out (hm.get 0 rfl) (sl_row (hm.get 1 rfl) HGG.out 16 16 (by have := HML.out; omega) (by omega))).mono ?_
            rintro e w14 ⟨rfl, hr, hu⟩
            rw [HCAT.out] at hr
            replace hm : Mem w [] w14 [(g, hrow (wsOf M) (restOf M) (M.length : Int), 49), (g9, u8s M, 25), (g8, u8s (chain (shaOf cs) j), 25)] := hm.upd 0 rfl hu hr
            clear hr hu
            go_wp2_with (first
              | (go_at_call 13; refine (hashSum_any g M HMB.out (by have := HML.out; omega) _ (Tab.mem HT.out hm (by simp)) (hm.get 0 rfl)).mono ?_; rintro e w15 ⟨rfl, hb⟩; replace hm := hm.call hb; clear hb)
              | ((with_reducible refine at_op none (.store 25 (.tmp 9) (.tmp 57)) ?_); refine wpl_stw 1 (u8s (shaOf M)) hm rfl rfl rfl 32 sz_b32 (by rw [u8s_length]; exact HML.out) (by rw [u8s_length]; exact shaOf_length _) (u8s_one _) ?_; clear hm; intro w16 hm))

            replace hm : Mem w [] w16 [(g9, u8s (shaOf M), 25), (g8, u8s (chain (shaOf cs) j), 25)] := hm.tail
            go_roundw
            case rel => exact ⟨i + 1, shaOf M, by omega, by omega, by go_num, shaOf_length _, shaOf_bytes _, (fun h => by rw [HMC.out h]; rfl), hm⟩
            case measure => simp [intOf]; omega
          · have hij2 : i = j := by omega
            subst hij2
            by_cases hAj : A < i
            · obtain rfl := HMC.out hAj
              have heq := eq_self32 (chain (shaOf cs) i) HCL.out
              have hz : ((i : Int) == 0) = false := beq_eq_false_iff_ne.2 (by omega)
              have hza : ((A : Int) == (i : Int)) = false := beq_eq_false_iff_ne.2 (by omega)
              go_wp2_with (first
                | ((with_reducible refine at_opG (some 70) (.load 25 (.tmp 9)) (some (11, false)) ?_); refine wpl_execG (.agg (u8s (chain (shaOf cs) i)).toArray) rfl (exec_ldsG 0 _ (hm.get 0 rfl) rfl _ un_b32 rfl 32 sz_b32 (by rw [u8s_length, HCL.out]; omega) (by rw [List.drop_zero, List.take_of_length_le (by rw [u8s_length]; exact Nat.le_of_eq HCL.out)])) ?_)
                | ((with_reducible refine at_opG (some 71) (.load 25 (.tmp 8)) (some (11, false)) ?_); refine wpl_execG (.agg (u8s (chain (shaOf cs) i)).toArray) rfl (exec_ldsG 0 _ (hm.get 1 rfl) rfl _ un_b32 rfl 32 sz_b32 (by rw [u8s_length, HCL.out]; omega) (by rw [List.drop_zero, List.take_of_length_le (by rw [u8s_length]; exact Nat.le_of_eq HCL.out)])) ?_))

              go_ret
              exact ⟨rfl, hm.below⟩
            · have hAe : A = i := by omega
              subst hAe
              by_cases hz0 : A = 0
              · have hz : ((A : Int) == 0) = true := beq_iff_eq.2 (by omega)
                go_wp2_with fail
                go_ret
                exact ⟨rfl, hm.below⟩
              · have hz : ((A : Int) == 0) = false := beq_eq_false_iff_ne.2 (by omega)
                go_wp2_with fail
                go_ret
                exact ⟨rfl, hm.below⟩
  · have hli : (200 : Int) < (cs.length : Int) := by omega
    go_enter Tryd.func6, Tryd.ntmps6
    go_wp2_with (first
      | (go_at_call 8; refine (known_any _ (Tab.mem HT.out hm (by simp))).mono ?_; rintro e w3 ⟨rfl, hb⟩; replace hm := hm.call hb; clear hb))

    go_ret
    exact ⟨rfl, hm.below⟩
end Go.Proofs.YtiioicjihcipmaaDoor
