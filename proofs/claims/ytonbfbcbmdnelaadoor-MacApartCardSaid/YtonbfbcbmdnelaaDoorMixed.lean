/- The contract of mixed: the words behind a block. -/
import Derived.Test.YtonbfbcbmdnelaaDoorSpread
import Derived.Deep.QuietTactic
import Derived.BigQuiet
namespace Go.Proofs.YtonbfbcbmdnelaaDoor
open Go Go.RowKit

def Tab (w : World) : Prop := ∀ j, j < 64 → w.cell? ⟨0, j, none⟩ = some (.int .u32 (kTab.getD j 0))
theorem Tab.lt {w : World} (h : Tab w) : 0 < w.heap.size := block_lt_of_cell (h 0 (by omega))
set_option maxHeartbeats 1000000 in
set_option maxRecDepth 100000 in
theorem mixed_any (ws bs : List Int) (hws : ws.length = 8) (hbs : bs.length = 64) (hby : ∀ j, 0 ≤ bs.getD j 0 ∧ bs.getD j 0 < 256) (w : World) (ht : Tab w) :
    Calls Tryd.prog 34 #[.agg (u32s ws).toArray, .agg (u8s bs).toArray] w fun e w' => e = .returned (.agg (u32s (mix ws bs)).toArray) ∧ Below w.heap.size w w' := by
  match ws, hws with
  | [x0, x1, x2, x3, x4, x5, x6, x7], _ =>
  have hm := Mem.start w
  have HT : Hid _ := ht
  clear ht
  go_enter Tryd.func34, Tryd.ntmps34
  go_wp2_with (first
    | ((with_reducible refine at_op (some 2) (.box 59 (.tmp 0)) ?_); refine wpl_box (u32s [x0, x1, x2, x3, x4, x5, x6, x7]) rfl hm ?_; clear hm; intro w1 g1 hm)
    | ((with_reducible refine at_op (some 3) (.box 44 (.tmp 1)) ?_); refine wpl_box (u8s bs) rfl hm ?_; clear hm; intro w2 g2 hm)
    | ((with_reducible refine at_op (some 4) (.alloc 59) ?_); refine wpl_alloc _ zero_w8 hm ?_; clear hm; intro w3 g3 hm)
    | ((with_reducible refine at_op (some 21) (.load 44 (.tmp 3)) ?_); refine wpl_ldw 1 hm rfl rfl _ un_b64 rfl 64 sz_b64 (by simp [u8s_length, hbs]) ?_)
    | (go_at_call 41; refine (spread_any bs hbs hby _).mono ?_; rintro e w4 ⟨rfl, hb⟩; replace hm := hm.call hb; clear hb)
    | ((with_reducible refine at_op (some 5) (.alloc 70) ?_); refine wpl_alloc _ zero_w64 hm ?_; clear hm; intro w5 g5 hm)
    | ((with_reducible refine at_op none (.store 70 (.tmp 5) (.tmp 22)) ?_); refine wpl_stw 0 (u32s (sched bs 64)) hm rfl rfl rfl 64 sz_w64 (by simp [u32s_length]) (by simp [u32s_length, sched_length]) (u32s_one _) ?_; clear hm; intro w6 hm))

  have hr := hm.get 3 rfl
  have c0 : w6.cell? ⟨g1, 0, none⟩ = some (.int .u32 x0) := hr.cell 0
  have c1 : w6.cell? ⟨g1, 1, none⟩ = some (.int .u32 x1) := hr.cell 1
  have c2 : w6.cell? ⟨g1, 2, none⟩ = some (.int .u32 x2) := hr.cell 2
  have c3 : w6.cell? ⟨g1, 3, none⟩ = some (.int .u32 x3) := hr.cell 3
  have c4 : w6.cell? ⟨g1, 4, none⟩ = some (.int .u32 x4) := hr.cell 4
  have c5 : w6.cell? ⟨g1, 5, none⟩ = some (.int .u32 x5) := hr.cell 5
  have c6 : w6.cell? ⟨g1, 6, none⟩ = some (.int .u32 x6) := hr.cell 6
  have c7 : w6.cell? ⟨g1, 7, none⟩ = some (.int .u32 x7) := hr.cell 7
  have HM : Hid _ := hm
  clear hr hm
  go_quiet (fail)
  go_wp2_with fail
  go_quiet (fail)
  go_wp2_with fail
  clear c0 c1 c2 c3 c4 c5 c6 c7
  go_loopw [6, 7, 8, 9, 10, 11, 12, 13, 39] (fun va vb vc vd ve vf vg vh vi wr => ∃ (k : Nat) (a b c d e f g h : Int), k ≤ 64 ∧ vi = .int .i64 k ∧ va = .int .u32 a ∧ vb = .int .u32 b ∧ vc = .int .u32 c ∧ vd = .int .u32 d ∧ ve = .int .u32 e ∧ vf = .int .u32 f ∧ vg = .int .u32 g ∧ vh = .int .u32 h ∧
      Hid (shaRounds [x0, x1, x2, x3, x4, x5, x6, x7] (sched bs 64) k = [a, b, c, d, e, f, g, h]) ∧ Hid (Mem w [] wr [(g5, u32s (sched bs 64), 70), (g3, u32s (List.replicate 8 0), 59), (g2, u8s bs, 44), (g1, u32s [x0, x1, x2, x3, x4, x5, x6, x7], 59)]))
    (fun _ _ _ _ _ _ _ _ vi _ => 64 - (intOf vi).toNat)
  case atStart => exact ⟨0, x0, x1, x2, x3, x4, x5, x6, x7, by omega, rfl, rfl, rfl, rfl, rfl, rfl, rfl, rfl, rfl, rfl, (HM.out.drewN _).drewN _⟩
  case round =>
    clear HM
    obtain ⟨k, a, b, c, d, e, f, g, h, hk, rfl, rfl, rfl, rfl, rfl, rfl, rfl, rfl, rfl, HR, HM⟩ := hrel
    by_cases hlt : k < 64
    · obtain ⟨kk, hkk⟩ : ∃ x, x = kTab.getD k 0 := ⟨_, rfl⟩
      obtain ⟨xx, hxx⟩ : ∃ x, x = (sched bs 64).getD k 0 := ⟨_, rfl⟩
      have hcK : wr.cell? ⟨0, k, none⟩ = some (.int .u32 kk) := by rw [HM.out.old (p := ⟨0, k, none⟩) (Tab.lt HT.out) (by simp), HT.out k hlt, hkk]
      have hcW : wr.cell? ⟨g5, k, none⟩ = some (.int .u32 xx) := by rw [HM.out.cell 0 rfl, u32s_get _ _ (by rw [sched_length]; exact hlt), hxx]
      have HK : Hid _ := hkk
      have HX : Hid _ := hxx
      clear hkk hxx
      go_wp2_with (go_at_call 42; refine (rotr_any _ _ _ (by omega) (by omega)).mono ?_; rintro e w' ⟨rfl, rfl⟩)
      go_quiet (fail)
      go_wp2_with fail
      go_roundw
      case rel => exact ⟨k + 1, _, a, b, c, _, e, f, g, by omega, by go_num, rfl, rfl, rfl, rfl, rfl, rfl, rfl, rfl, shaRounds_step HR.out HK.out HX.out, HM.out.drewN _⟩
      case measure => simp [intOf]; omega
    · have hk64 : k = 64 := by omega
      subst hk64
      have hm := HM.out
      clear HM HT
      go_wp2_with fail
      rw [show ((64 : Nat) : Int) = 64 from rfl]
      have hv8 : [a, b, c, d, e, f, g, h].length = 8 := rfl
      have hx8 : [x0, x1, x2, x3, x4, x5, x6, x7].length = 8 := rfl
      have hfin : mix [x0, x1, x2, x3, x4, x5, x6, x7] bs = addW [x0, x1, x2, x3, x4, x5, x6, x7] [a, b, c, d, e, f, g, h] := by unfold mix; rw [HR.out]
      have HF : Hid _ := hfin
      have HV : Hid _ := hv8
      have HX : Hid _ := hx8
      clear hfin hv8 hx8 HR
      go_loopw [113] (fun vi wr => ∃ k : Nat, k ≤ 8 ∧ vi = .int .i64 k ∧ Mem w [] wr [(g5, u32s (sched bs 64), 70), (g3, u32s (List.replicate 8 0), 59), (g2, u8s bs, 44), (g1, u32s (addUpto [x0, x1, x2, x3, x4, x5, x6, x7] [a, b, c, d, e, f, g, h] k), 59)])
        (fun vi _ => 8 - (intOf vi).toNat)
      case atStart => exact ⟨0, by omega, rfl, hm⟩
      case round =>
        clear hm
        obtain ⟨k, hk8, rfl, hm⟩ := hrel
        by_cases hlt8 : k < 8
        · obtain ⟨y, hy⟩ : ∃ y, y = [a, b, c, d, e, f, g, h].getD k 0 := ⟨_, rfl⟩
          obtain ⟨x, hx⟩ : ∃ y, y = [x0, x1, x2, x3, x4, x5, x6, x7].getD k 0 := ⟨_, rfl⟩
          have hvy : (u32s [a, b, c, d, e, f, g, h])[k]? = some (.int .u32 y) := by rw [u32s_get _ _ hlt8, hy]
          have hvx : (u32s (addUpto [x0, x1, x2, x3, x4, x5, x6, x7] [a, b, c, d, e, f, g, h] k))[k]? = some (.int .u32 x) := by
            rw [u32s_get _ _ (by rw [addUpto_length _ _ HX.out HV.out k hk8]; exact hlt8), addUpto_get _ _ HX.out HV.out k hlt8, hx]
          have hset : (u32s (addUpto [x0, x1, x2, x3, x4, x5, x6, x7] [a, b, c, d, e, f, g, h] k)).set k (.int .u32 ((x + y) % 4294967296)) = u32s (addUpto [x0, x1, x2, x3, x4, x5, x6, x7] [a, b, c, d, e, f, g, h] (k + 1)) := by
            rw [u32s_set, hx, hy, addUpto_set _ _ HX.out HV.out k hlt8]
          have hlen : k < (u32s (addUpto [x0, x1, x2, x3, x4, x5, x6, x7] [a, b, c, d, e, f, g, h] k)).length := by
            rw [u32s_length, addUpto_length _ _ HX.out HV.out k hk8]; exact hlt8
          have HVY : Hid _ := hvy
          have HVX : Hid _ := hvx
          have HS : Hid _ := hset
          have HL : Hid _ := hlen
          clear hvy hvx hset hlen hy hx
          go_wp2_with (first
            | ((with_reducible refine at_op (some 116) (.index 59 (.tmp 112) (.tmp 113)) ?_); refine wpl_ixa 8 un_w8 sz_u32 ag_u32 (u32s [a, b, c, d, e, f, g, h]) k (.int .u32 y) (hlt8) rfl rfl (rfl) (HVY.out) ?_)
            | ((with_reducible refine at_op (some 119) (.load 25 (.tmp 118)) ?_); refine wpl_ldc 3 k (.int .u32 x) hm rfl rfl ag_u32 (HVX.out) ?_)
            | ((with_reducible refine at_op none (.store 25 (.tmp 122) (.tmp 121)) ?_); refine wpl_stc 3 k (.int .u32 ((x + y) % 4294967296)) hm rfl (rfl) rfl sz_u32 (HL.out) rfl rfl ?_; clear hm; intro w9 hm))

          have hn : Mem w [] w9 [(g5, u32s (sched bs 64), 70), (g3, u32s (List.replicate 8 0), 59), (g2, u8s bs, 44), (g1, u32s (addUpto [x0, x1, x2, x3, x4, x5, x6, x7] [a, b, c, d, e, f, g, h] (k + 1)), 59)] := by
            rw [HS.out] at hm
            exact hm
          clear hm
          go_roundw
          case rel => exact ⟨k + 1, by omega, by go_num, hn⟩
          case measure => simp [intOf]; omega
        · have hk8' : k = 8 := by omega
          subst hk8'
          rw [addUpto_full _ _ HX.out HV.out, ← HF.out] at hm
          have hln : (u32s (mix [x0, x1, x2, x3, x4, x5, x6, x7] bs)).length = 8 := by rw [HF.out, u32s_length, addW_length _ _ HX.out HV.out]
          have HLN : Hid _ := hln
          clear hln
          go_wp2_with (first
            | ((with_reducible refine at_op (some 124) (.load 59 (.tmp 2)) ?_); refine wpl_ldw 3 hm rfl rfl _ un_w8 rfl 8 sz_w8 (HLN.out) ?_)
            | ((with_reducible refine at_op none (.store 59 (.tmp 4) (.tmp 124)) ?_); refine wpl_stw 1 (u32s (mix [x0, x1, x2, x3, x4, x5, x6, x7] bs)) hm rfl rfl rfl 8 sz_w8 (by simp [u32s_length]) (HLN.out) (u32s_one _) ?_; clear hm; intro w8 hm))
          exact ret_cell 1 hm rfl Tryd.results34 rfl _ un_w8 rfl 8 sz_w8 HLN.out rfl ⟨rfl, hm.below⟩
end Go.Proofs.YtonbfbcbmdnelaaDoor
