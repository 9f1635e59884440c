/- The look at known blocks comes out true. -/
import Derived.Test.YtalhobmnbikbfaaDoorStXor
import Derived.Test.YtalhobmnbikbfaaDoorStMixed
import Derived.Test.YtalhobmnbikbfaaDoorOld
namespace Go.Proofs.YtalhobmnbikbfaaDoor
open Go Go.RowKit

theorem un_strT : Tryd.prog.underlying 9 = some .string := Tryd.underlying9
def riseUp (i : Nat) : List Int := riseK.take i ++ List.replicate (32 - i) 0
theorem riseUp_set : ∀ i : Fin 32, (riseUp i.val).set i.val ((i.val : Nat) : Int) = riseUp (i.val + 1) := by decide +kernel
theorem riseUp_length : ∀ i : Fin 33, (riseUp i.val).length = 32 := by decide +kernel
theorem rise_bytes : Bytes riseK := by unfold Bytes riseK; decide
theorem nonceN_bytes : Bytes nonceN := by unfold Bytes nonceN; decide
theorem built_nonceN : Tryd.prog.built 26 [(3, .int .u8 9), (7, .int .u8 74)] = some (u8s nonceN).toArray := by kernel_rfl
theorem bytes_nil : Bytes [] := by intro x hx; cases hx
set_option maxHeartbeats 1000000 in
set_option maxRecDepth 100000 in
theorem known4_any (w : World) (ht : QTab w) :
    Calls Tryd.prog 8 #[] w fun e w' => e = .returned (.bool true) ∧ Below w.heap.size w w' := by
  have hm := Mem.start w
  have HT : Hid _ := ht
  clear ht
  obtain ⟨B, hB⟩ : ∃ B, B = blockOf riseK nonceN 1 := ⟨_, rfl⟩
  have HBL : Hid (B.length = 64) := by show _ = _; rw [hB, blockOf_length]
  have HB0 : Hid ((u8s B)[0]? = some (.int .u8 16)) := by show _ = _; rw [u8s_get _ _ (by rw [HBL.out]; omega), hB, block_known.1]
  have HB1 : Hid ((u8s B)[1]? = some (.int .u8 241)) := by show _ = _; rw [u8s_get _ _ (by rw [HBL.out]; omega), hB, block_known.2.1]
  have HB2 : Hid ((u8s B)[63]? = some (.int .u8 78)) := by show _ = _; rw [u8s_get _ _ (by rw [HBL.out]; omega), hB, block_known.2.2]
  have HBE : Hid (blockOf riseK nonceN 1 = B) := hB.symm
  clear hB
  go_enter Tryd.func8, Tryd.ntmps8
  go_wp2_with (first
    | (go_at_call 9; refine (quarter_at _ _ _ _ _ _ _ _ quart_known _).mono ?_; rintro e w0 ⟨rfl, hw0⟩; replace hw0 := hw0.symm; subst hw0)
    | ((with_reducible refine at_op (some 5) (.alloc 24) ?_); refine wpl_alloc _ zero_key hm ?_; clear hm; intro w1 g5 hm))

  go_loopw [6] (fun vi wr => ∃ i : Nat, i ≤ 32 ∧ vi = .int .i64 i ∧ Mem w [] wr [(g5, u8s (riseUp i), 24)]) (fun vi _ => 32 - (intOf vi).toNat)
  case atStart => exact ⟨0, by omega, rfl, hm⟩
  case round =>
    clear hm
    obtain ⟨i, hi, rfl, hm⟩ := hrel
    by_cases hlt : i < 32
    · have hii : (i : Int) < 32 := by omega
      have HST : Hid ((u8s (riseUp i)).set i (.int .u8 (i : Int)) = u8s (riseUp (i + 1))) := by
        show _ = _
        rw [u8s_set, riseUp_set ⟨i, hlt⟩]
      have HLN : Hid (i < (u8s (riseUp i)).length) := by show _ < _; rw [u8s_length, riseUp_length ⟨i, by omega⟩]; exact hlt
      go_wp2_with (first
        | ((with_reducible refine at_op none (.store 5 (.tmp 21) (.tmp 20)) ?_); refine wpl_stc 0 i (.int .u8 (i : Int)) hm rfl (rfl) rfl sz_u8 (HLN.out) rfl rfl ?_; clear hm; intro w2 hm))

      rw [List.set_cons_zero, HST.out] at hm
      go_roundw
      case rel => exact ⟨i + 1, by omega, by go_num, hm⟩
      case measure => simp [intOf]; omega
    · have hi32 : i = 32 := by omega
      subst hi32
      replace hm : Mem w [] wr [(g5, u8s riseK, 24)] := hm
      go_wp2_with (first
        | ((with_reducible refine at_op (some 22) (.load 24 (.tmp 5)) ?_); refine wpl_ldw 0 hm rfl rfl _ un_key rfl 32 sz_key (rfl) ?_)
        | ((with_reducible refine at_op (some 23) (.build 26 #[(3, .const (.int .u8 9)), (7, .const (.int .u8 74))]) ?_); go_must (refine wpl_build (u8s nonceN) _ rfl built_nonceN ?_))
        | (go_at_call 11; refine (block_any riseK nonceN 1 rfl rfl rise_bytes nonceN_bytes _ (QTab.mem HT.out hm (by simp))).mono ?_; rintro e w3 ⟨he, hb⟩; rw [HBE.out] at he; subst he; replace hm := hm.call hb; clear hb)
        | ((with_reducible refine at_op (some 7) (.alloc 31) ?_); refine wpl_alloc _ zero_b64 hm ?_; clear hm; intro w4 g7 hm)
        | ((with_reducible refine at_op none (.store 31 (.tmp 7) (.tmp 24)) ?_); refine wpl_stw 0 (u8s B) hm rfl rfl rfl 64 sz_b64 (by simp [u8s_length]) (by rw [u8s_length]; exact HBL.out) (u8s_one _) ?_; clear hm; intro w5 hm)
        | ((with_reducible refine at_opG (some 41) (.load 5 (.tmp 40)) (some (14, true)) ?_); go_must (refine wpl_execG (.int .u8 16) rfl (exec_ldrG 0 (.int .u8 16) (hm.get 0 rfl) rfl ag_u8 HB0.out) ?_))
        | ((with_reducible refine at_opG (some 46) (.load 5 (.tmp 45)) (some (19, true)) ?_); go_must (refine wpl_execG (.int .u8 241) rfl (exec_ldrG 1 (.int .u8 241) (hm.get 0 rfl) rfl ag_u8 HB1.out) ?_))
        | ((with_reducible refine at_opG (some 51) (.load 5 (.tmp 50)) (some (24, true)) ?_); go_must (refine wpl_execG (.int .u8 78) rfl (exec_ldrG 63 (.int .u8 78) (hm.get 0 rfl) rfl ag_u8 HB2.out) ?_))
        | ((with_reducible refine at_opG (some 55) (.load 24 (.tmp 5)) (some (29, true)) ?_); go_must (refine wpl_execG (.agg (u8s riseK).toArray) rfl (exec_ldsG 0 (u8s riseK) (hm.get 1 rfl) rfl _ un_key rfl 32 sz_key (by decide) rfl) ?_))
        | (go_at_call 13; refine (xor_any riseK (List.replicate 12 0) [] 0 _ rfl (by simp) rise_bytes (Bytes.zeros _) ⟨by omega, by omega⟩ (by simp) _ (QTab.mem HT.out hm (by simp)) ⟨none, 0, rfl, Nat.le_refl _, fun h => absurd h (by simp)⟩).mono ?_; rintro e w6 ⟨gx, rfl, hge, hr, hb⟩; replace hm := hm.call hb; clear hb hr hge))

      go_ret
      exact ⟨rfl, hm.below⟩
end Go.Proofs.YtalhobmnbikbfaaDoor
