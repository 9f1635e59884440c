/- The contract of Hex. -/
import Derived.Test.YtonbfbcbmdnelaaDoorSum
import Derived.Test.YtonbfbcbmdnelaaDoorStr
namespace Go.Proofs.YtonbfbcbmdnelaaDoor
open Go Go.RowKit

theorem un_str : Tryd.prog.underlying 9 = some .string := Tryd.underlying9
theorem un_u8 : Tryd.prog.underlying 5 = some (.int .u8) := Tryd.underlying5
set_option maxHeartbeats 1000000 in
set_option maxRecDepth 100000 in
theorem hex_any (l : List Int) (hl : l.length = 32) (hb : Bytes l) (w : World) :
    Calls Tryd.prog 15 #[.agg (u8s l).toArray] w fun e w' => e = .returned (.string (strOf (hexOf l))) ∧ Below w.heap.size w w' := by
  have hm := Mem.start w
  have HB : Hid _ := hb
  have HL : Hid _ := hl
  clear hb hl
  go_enter Tryd.func15, Tryd.ntmps15
  go_wp2_with (first
    | ((with_reducible refine at_op (some 1) (.box 23 (.tmp 0)) ?_); refine wpl_box (u8s l) rfl hm ?_; clear hm; intro w1 g1 hm)
    | ((with_reducible refine at_op (some 3) (.alloc 44) ?_); refine wpl_alloc _ zero_b64 hm ?_; clear hm; intro w2 g3 hm)
    | ((with_reducible refine at_op (some 6) (.load 23 (.tmp 1)) ?_); refine wpl_ldw 1 hm rfl rfl _ un_b32 rfl 32 sz_b32 (by rw [u8s_length]; exact HL.out) ?_))

  go_loopw [7] (fun vi wr => ∃ k : Nat, k ≤ 32 ∧ vi = .int .i64 k ∧ Mem w [] wr [(g3, u8s (hexRow l k), 44), (g1, u8s l, 23)]) (fun vi _ => 32 - (intOf vi).toNat)
  case atStart => exact ⟨0, by omega, rfl, hm⟩
  case round =>
    clear hm
    obtain ⟨k, hk, rfl, hm⟩ := hrel
    by_cases hlt : k < 32
    · obtain ⟨c, hc⟩ : ∃ c, c = l.getD k 0 := ⟨_, rfl⟩
      have hcb : 0 ≤ c ∧ c < 256 := by rw [hc]; exact Bytes.get HB.out k
      obtain ⟨hc0, hc1⟩ := hcb
      have hvc : (u8s l)[k]? = some (.int .u8 c) := by rw [u8s_get _ _ (by rw [HL.out]; exact hlt), hc]
      have hst : ((u8s (hexRow l k)).set (2 * k) (.int .u8 (hexDigit (c / 16)))).set (2 * k + 1) (.int .u8 (hexDigit (c % 16))) = u8s (hexRow l (k + 1)) := by
        rw [u8s_set, u8s_set, hc, hexRow_step l HL.out k hlt]
      have hln : (u8s (hexRow l k)).length = 64 := by rw [u8s_length, hexRow_length l HL.out k hk]
      have hd1 := digs_at (c / 16) (c / 16).toNat (by omega) (by omega)
      have hd2 := digs_at (c % 16) (c % 16).toNat (by omega) (by omega)
      have he1 : c / 16 = ((c / 16).toNat : Int) := by omega
      have he2 : c % 16 = ((c % 16).toNat : Int) := by omega
      have HV : Hid _ := hvc
      have HS : Hid _ := hst
      have HLN : Hid _ := hln
      have HD1 : Hid _ := hd1
      have HD2 : Hid _ := hd2
      have HE1 : Hid _ := he1
      have HE2 : Hid _ := he2
      clear hvc hst hln hd1 hd2 he1 he2 hc
      go_wp2_with (first
        | ((with_reducible refine at_op (some 10) (.index 23 (.tmp 6) (.tmp 7)) ?_); refine wpl_ixa 32 un_b32 sz_u8 ag_u8 (u8s l) k (.int .u8 c) (hlt) rfl rfl (rfl) (HV.out) ?_)
        | ((with_reducible refine at_op (some 15) (.index 9 (.const (.string { data := #[48, 49, 50, 51, 52, 53, 54, 55, 56, 57, 97, 98, 99, 100, 101, 102] })) (.tmp 14)) ?_); refine wpl_ixs un_str digs (c / 16).toNat (hexDigit (c / 16)) rfl rfl HE1.out HD1.out ?_)
        | ((with_reducible refine at_op none (.store 5 (.tmp 16) (.tmp 15)) ?_); refine wpl_stc 0 (2 * k) (.int .u8 (hexDigit (c / 16))) hm rfl (rfl) rfl sz_u8 (by rw [HLN.out]; omega) rfl rfl ?_; clear hm; intro w3 hm)
        | ((with_reducible refine at_op (some 22) (.index 9 (.const (.string { data := #[48, 49, 50, 51, 52, 53, 54, 55, 56, 57, 97, 98, 99, 100, 101, 102] })) (.tmp 21)) ?_); refine wpl_ixs un_str digs (c % 16).toNat (hexDigit (c % 16)) rfl rfl HE2.out HD2.out ?_)
        | ((with_reducible refine at_op none (.store 5 (.tmp 23) (.tmp 22)) ?_); refine wpl_stc 0 (2 * k + 1) (.int .u8 (hexDigit (c % 16))) hm rfl (rfl) rfl sz_u8 (by rw [List.length_set, HLN.out]; omega) rfl rfl ?_; clear hm; intro w4 hm))

      have hn : Mem w [] w4 [(g3, u8s (hexRow l (k + 1)), 44), (g1, u8s l, 23)] := by
        rw [HS.out] at hm
        exact hm
      clear hm
      go_roundw
      case rel => exact ⟨k + 1, by omega, by go_num, hn⟩
      case measure => simp [intOf]; omega
    · have hk32 : k = 32 := by omega
      subst hk32
      rw [hexRow_full l HL.out] at hm
      go_wp2_with (first
        | ((with_reducible refine at_op (some 26) (.convert 22 9 (.tmp 25)) ?_); refine wpl_tostr un_bs un_u8 un_str (hexOf l) 64 (hm.get 0 rfl) (by rw [hexOf_length, HL.out]) rfl ?_))
      go_ret
      exact ⟨rfl, hm.below⟩
end Go.Proofs.YtonbfbcbmdnelaaDoor
