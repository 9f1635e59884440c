/- The contract of bits.Put at the one use that the sums make of it, and of asBytes. -/
import Derived.Test.YtonbfbcbmdnelaaDoorSmall
import Derived.Test.YtonbfbcbmdnelaaDoorMore
import Derived.Test.YtonbfbcbmdnelaaDoorPlain
namespace Go.Proofs.YtonbfbcbmdnelaaDoor
open Go Go.RowKit

set_option maxHeartbeats 1000000 in
theorem putNumber_eight (g : Nat) (n : Int) (w : World) (hr : Row w g (u8s (List.replicate 8 0)) 5) :
    Calls Tryd.prog 31 #[.slice (some ⟨g, 0, none⟩) 8 8, .int .u64 n] w fun e w' => e = .returned (.tuple #[]) ∧ Row w' g (u8s (be8 n)) 5 ∧ Upd g w w' := by
  have hm := Mem.enter hr
  clear hr
  go_enter Tryd.func31, Tryd.ntmps31
  go_wp2_with fail
  refine wp_loop_rounds 9 ?_
  iterate 9 (rw [rounds_succ]; go_wp2_with (first
    | (((with_reducible refine at_op none (.store 5 (.tmp 16) (.tmp 15)) ?_); refine wpl_stc 0 _ _ hm rfl (rfl) rfl sz_u8 (by simp [u8s]) rfl rfl ?_; clear hm; intro w9 hm))))
  go_end0
  exact ⟨rfl, hm.get 0 rfl, hm.toUpd⟩
set_option maxHeartbeats 1000000 in
theorem put_eight (n : Int) (w : World) :
    Calls Tryd.prog 21 #[.slice none 0 0, .int .u64 n, .int .i64 8] w fun e w' => ∃ g, e = .returned (.slice (some ⟨g, 0, none⟩) 8 8) ∧ w.heap.size ≤ g ∧ Row w' g (u8s (be8 n)) 5 ∧ Below w.heap.size w w' := by
  have hm := Mem.start w
  go_enter Tryd.func21, Tryd.ntmps21
  go_wp2_with (first
    | (go_at_call 29; refine (held_eight _).mono ?_; rintro e w1 ⟨rfl, rfl⟩)
    | (go_at_call 30; refine (longer_nil _).mono ?_; rintro e w2 ⟨g, rfl, hge, hr, hb⟩)
    | (go_at_call 31; refine (putNumber_eight g n _ hr).mono ?_; rintro e w3 ⟨rfl, hr2, hu⟩))
  go_ret
  exact ⟨g, rfl, hge, hr2, below_upd hb hu hge hb.size⟩
set_option maxHeartbeats 1000000 in
theorem asBytes_any (ws : List Int) (hws : ws.length = 8) (w : World) :
    Calls Tryd.prog 35 #[.agg (u32s ws).toArray] w fun e w' => e = .returned (.agg (u8s (asB ws)).toArray) ∧ Below w.heap.size w w' := by
  have hm := Mem.start w
  go_enter Tryd.func35, Tryd.ntmps35
  go_wp2_with (first
    | ((with_reducible refine at_op (some 1) (.box 59 (.tmp 0)) ?_); refine wpl_box (u32s ws) rfl hm ?_; clear hm; intro w1 g1 hm)
    | ((with_reducible refine at_op (some 2) (.alloc 23) ?_); refine wpl_alloc _ zero_b32 hm ?_; clear hm; intro w2 g2 hm)
    | ((with_reducible refine at_op (some 3) (.alloc 23) ?_); refine wpl_alloc _ zero_b32 hm ?_; clear hm; intro w3 g3 hm)
    | ((with_reducible refine at_op (some 7) (.load 59 (.tmp 1)) ?_); refine wpl_ldw 2 hm rfl rfl _ un_w8 rfl 8 sz_w8 (by rw [u32s_length]; exact hws) ?_))

  go_loopw [8] (fun vi wr => ∃ k : Nat, k ≤ 8 ∧ vi = .int .i64 k ∧ Mem w [] wr [(g3, u8s (asRow ws k), 23), (g2, u8s (List.replicate 32 0), 23), (g1, u32s ws, 59)]) (fun vi _ => 8 - (intOf vi).toNat)
  case atStart => exact ⟨0, by omega, rfl, hm⟩
  case round =>
    clear hm
    obtain ⟨k, hk, rfl, hm⟩ := hrel
    by_cases hlt : k < 8
    · obtain ⟨x, hx⟩ : ∃ x, x = ws.getD k 0 := ⟨_, rfl⟩
      have hvx : (u32s ws)[k]? = some (.int .u32 x) := by rw [u32s_get _ _ (by omega), hx]
      have e4 : IntKind.i64.wrap (4 * (k : Int)) = ((4 * k : Nat) : Int) := by rw [show 4 * (k : Int) = ((4 * k : Nat) : Int) by omega, wrap_nat _ (by omega)]
      have hst : splice (u8s (asRow ws k)) (4 * k) (u8s (four x)) = u8s (asRow ws (k + 1)) := by
        rw [hx, ← asRow_step ws hws k hlt]; simp [splice, u8s]
      have hln : 4 * k + 4 ≤ (u8s (asRow ws k)).length := by rw [u8s_length, asRow_length ws hws k hk]; omega
      have HV : Hid _ := hvx
      have HE : Hid _ := e4
      have HS : Hid _ := hst
      have HL : Hid _ := hln
      clear hvx e4 hst hln hx
      go_wp2_with (first
        | ((with_reducible refine at_op (some 11) (.index 59 (.tmp 7) (.tmp 8)) ?_); refine wpl_ixa 8 un_w8 sz_u32 ag_u32 (u32s ws) k (.int .u32 x) (hlt) rfl rfl (rfl) (HV.out) ?_)
        | (go_at_call 43; refine (putBig_any _ _).mono ?_; rintro e w4 ⟨rfl, hb⟩; replace hm := hm.call hb; clear hb)
        | ((with_reducible refine at_op (some 6) (.alloc 76) ?_); refine wpl_alloc _ zero_b4 hm ?_; clear hm; intro w5 g5 hm)
        | ((with_reducible refine at_op none (.store 76 (.tmp 6) (.tmp 13)) ?_); refine wpl_stw 0 (u8s (four x)) hm rfl rfl rfl 4 sz_b4 (by simp [u8s_length]) (rfl) (u8s_one _) ?_; clear hm; intro w6 hm))

      refine wp_tail 4 (by kernel_rfl) (by kernel_rfl) hm ?_
      clear hm
      intro w7 hm
      simp only [List.take_succ_cons, List.take_zero, List.drop_succ_cons, List.drop_zero]
      still_step
      still_step
      refine wps_sla 32 un_b32 sz_u8 (4 * k) (32 - 4 * k) (by omega) (by omega) rfl (Or.inl (int_at _ rfl HE.out)) (Or.inr ⟨rfl, by omega⟩) ?_
      still_step
      refine wpStill_nil ?_
      go_wp2_with (first
        | ((with_reducible refine at_op (some 18) (.call { callee := .builtin .copy, args := #[.tmp 16, .tmp 17], argTypes := #[22, 22] }) ?_); go_must (refine wpl_copy 1 (4 * k) (32 - 4 * k) (32 - 4 * k) ⟨g5, 0, none⟩ 4 4 (u8s (four x)) hm rfl rfl rfl _ un_bs sz_u8 (by have h4 : (u8s (four x)).length = 4 := rfl; rw [h4]; show 4 = min 4 (32 - 4 * k); omega) (by exact (Seg.row (hm.get 0 rfl)).src) (by exact HL.out) (u8s_one _) ?_); clear hm; intro w8 hm))

      have hn : Mem w [] w8 [(g3, u8s (asRow ws (k + 1)), 23), (g2, u8s (List.replicate 32 0), 23), (g1, u32s ws, 59)] := by
        rw [HS.out] at hm
        exact hm.tail
      clear hm
      go_roundw
      case rel => exact ⟨k + 1, by omega, by go_num, hn⟩
      case measure => simp [intOf]; omega
    · have hk8 : k = 8 := by omega
      subst hk8
      rw [asRow_full ws hws] at hm
      have hln : (u8s (asB ws)).length = 32 := by rw [u8s_length, asB_length ws hws]
      have HL : Hid _ := hln
      clear hln
      go_wp2_with (first
        | ((with_reducible refine at_op (some 20) (.load 23 (.tmp 3)) ?_); refine wpl_ldw 0 hm rfl rfl _ un_b32 rfl 32 sz_b32 (HL.out) ?_)
        | ((with_reducible refine at_op none (.store 23 (.tmp 2) (.tmp 20)) ?_); refine wpl_stw 1 (u8s (asB ws)) hm rfl rfl rfl 32 sz_b32 (by simp [u8s_length]) (HL.out) (u8s_one _) ?_; clear hm; intro w8 hm))
      exact ret_cell 1 hm rfl Tryd.results35 rfl _ un_b32 rfl 32 sz_b32 HL.out rfl ⟨rfl, hm.below⟩
end Go.Proofs.YtonbfbcbmdnelaaDoor
