/- The contract of spread: the words of a block. -/
import Derived.Test.YtonbfbcbmdnelaaDoorFns
import Derived.Deep.QuietTactic
import Derived.BigQuiet
namespace Go.Proofs.YtonbfbcbmdnelaaDoor
open Go Go.RowKit

theorem seg4 {w : World} {g : Nat} {bs : List Int} {t : TypeId} (h : Row w g (u8s bs) t) (k : Nat) (hk : 4 * k + 3 < bs.length) :
    Seg w g (4 * k) [bs.getD (4 * k) 0, bs.getD (4 * k + 1) 0, bs.getD (4 * k + 2) 0, bs.getD (4 * k + 3) 0] := by
  have hs := Seg.row h
  intro j hj
  have hj4 : j < 4 := by simpa using hj
  have hq := hs (4 * k + j) (by omega)
  rw [Nat.zero_add] at hq
  rw [hq]
  match j, hj4 with
  | 0, _ => rfl
  | 1, _ => rfl
  | 2, _ => rfl
  | 3, _ => rfl
theorem spread_step {w wr : World} {g1 g2 g3 : Nat} {bs z : List Int} {t t' : TypeId} {m : Nat} (hm : Mem w [] wr [(g3, u32s (schedRow bs (m + 16)), t), (g2, u32s z, t), (g1, u8s bs, t')]) (n : Nat) (hlt : m < 48) (x : Int) (hx : x = nextW (sched bs (m + 16)) (m + 16)) :
    Mem w [] ((wr.drewN n).setCell ⟨g3, m + 16, none⟩ (.int .u32 x)) [(g3, u32s (schedRow bs (m + 1 + 16)), t), (g2, u32s z, t), (g1, u8s bs, t')] := by
  have h := (hm.drewN n).setCell 0 rfl (m + 16) (.int .u32 x)
  rw [List.set_cons_zero, u32s_set, schedRow_set bs (m + 16) (by omega) x (by rw [if_neg (by omega)]; exact hx)] at h
  rw [show m + 1 + 16 = m + 16 + 1 by omega]
  exact h
set_option maxHeartbeats 1000000 in
theorem spread_any (bs : List Int) (hbs : bs.length = 64) (hby : ∀ j, 0 ≤ bs.getD j 0 ∧ bs.getD j 0 < 256) (w : World) :
    Calls Tryd.prog 41 #[.agg (u8s bs).toArray] w fun e w' => e = .returned (.agg (u32s (sched bs 64)).toArray) ∧ Below w.heap.size w w' := by
  have hm := Mem.start w
  go_enter Tryd.func41, Tryd.ntmps41
  go_wp2_with (first
    | ((with_reducible refine at_op (some 1) (.box 44 (.tmp 0)) ?_); refine wpl_box (u8s bs) rfl hm ?_; clear hm; intro w1 g1 hm)
    | ((with_reducible refine at_op (some 2) (.alloc 70) ?_); refine wpl_alloc _ zero_w64 hm ?_; clear hm; intro w2 g2 hm)
    | ((with_reducible refine at_op (some 3) (.alloc 70) ?_); refine wpl_alloc _ zero_w64 hm ?_; clear hm; intro w3 g3 hm))

  go_loopw [10] (fun i wr => ∃ k : Nat, k ≤ 16 ∧ i = .int .i64 k ∧ Mem w [] wr [(g3, u32s (schedRow bs k), 70), (g2, u32s (List.replicate 64 0), 70), (g1, u8s bs, 44)]) (fun i _ => 16 - (intOf i).toNat)
  case atStart => exact ⟨0, by omega, rfl, hm⟩
  case round =>
    clear hm
    obtain ⟨k, hk, rfl, hm⟩ := hrel
    by_cases hlt : k < 16
    · have e1 : 4 * (k : Int) = ((4 * k : Nat) : Int) := by omega
      have e2 : 4 * ((k : Int) + 1) = ((4 * k + 4 : Nat) : Int) := by omega
      have E1 : Hid _ := e1
      have E2 : Hid _ := e2
      clear e1 e2
      have hq := hby (4 * k)
      have hq1 := hby (4 * k + 1)
      have hq2 := hby (4 * k + 2)
      have hq3 := hby (4 * k + 3)
      have hsg : Seg wr g1 (4 * k) [bs.getD (4 * k) 0, bs.getD (4 * k + 1) 0, bs.getD (4 * k + 2) 0, bs.getD (4 * k + 3) 0] := seg4 (hm.get 2 rfl) k (by omega)
      have HQ : Hid _ := And.intro hq (And.intro hq1 (And.intro hq2 (And.intro hq3 hsg)))
      clear hq hq1 hq2 hq3 hsg hby
      go_wp2_with (first
        | ((with_reducible refine at_op (some 19) (.slice 44 (.tmp 1) (some (.tmp 15)) (some (.tmp 18)) none) ?_); refine wpl_sla 64 un_b64 sz_u8 (4 * k) 4 (by omega) (by omega) rfl (Or.inl (int_at _ rfl E1.out)) (Or.inl (int_at _ rfl E2.out)) ?_)
        | (go_at_call 44; refine (big_any _ _ _ _ _ _ _ _ HQ.out.2.2.2.2 HQ.out.1 HQ.out.2.1 HQ.out.2.2.1 HQ.out.2.2.2.1).mono ?_; rintro e w5 ⟨rfl, hb⟩; replace hm := hm.call hb; clear hb)
        | ((with_reducible refine at_op none (.store 25 (.tmp 21) (.tmp 20)) ?_); refine wpl_stc 0 k (.int .u32 (big4 (bs.getD (4 * k) 0) (bs.getD (4 * k + 1) 0) (bs.getD (4 * k + 2) 0) (bs.getD (4 * k + 3) 0))) hm rfl (rfl) rfl sz_u32 (by simp [u32s_length, schedRow_length _ _ (show k ≤ 64 by omega)]; omega) rfl rfl ?_; clear hm; intro w6 hm))
      have hn : Mem w [] w6 [(g3, u32s (schedRow bs (k + 1)), 70), (g2, u32s (List.replicate 64 0), 70), (g1, u8s bs, 44)] := by
        rw [List.set_cons_zero, u32s_set, schedRow_set bs k (by omega) _ (by rw [if_pos hlt])] at hm
        exact hm
      clear hm
      go_roundw
      case rel => exact ⟨k + 1, by omega, by go_num, hn⟩
      case measure => simp [intOf]; omega
    · have hk16 : k = 16 := by omega
      subst hk16
      go_wp2_with fail
      rw [show ((16 : Nat) : Int) = 16 from rfl]
      go_loopw [5] (fun i wr => ∃ m : Nat, m ≤ 48 ∧ i = .int .i64 (m + 16 : Nat) ∧ Mem w [] wr [(g3, u32s (schedRow bs (m + 16)), 70), (g2, u32s (List.replicate 64 0), 70), (g1, u8s bs, 44)]) (fun i _ => 64 - (intOf i).toNat)
      case atStart => exact ⟨0, by omega, rfl, hm⟩
      case round =>
        clear hm
        obtain ⟨m, hm64, rfl, hm⟩ := hrel
        by_cases hlt2 : m < 48
        · have hrow := hm.get 0 rfl
          obtain ⟨a15, ha15⟩ : ∃ x, x = (sched bs (m + 16)).getD (m + 1) 0 := ⟨_, rfl⟩
          obtain ⟨a2, ha2⟩ : ∃ x, x = (sched bs (m + 16)).getD (m + 14) 0 := ⟨_, rfl⟩
          obtain ⟨a7, ha7⟩ : ∃ x, x = (sched bs (m + 16)).getD (m + 9) 0 := ⟨_, rfl⟩
          obtain ⟨a16, ha16⟩ : ∃ x, x = (sched bs (m + 16)).getD m 0 := ⟨_, rfl⟩
          have hc15 : wr.cell? ⟨g3, m + 1, none⟩ = some (.int .u32 a15) := by rw [hrow.cell, u32s_get _ _ (by rw [schedRow_length _ _ (by omega)]; omega), schedRow_get _ _ _ (by omega), ha15]
          have hc2 : wr.cell? ⟨g3, m + 14, none⟩ = some (.int .u32 a2) := by rw [hrow.cell, u32s_get _ _ (by rw [schedRow_length _ _ (by omega)]; omega), schedRow_get _ _ _ (by omega), ha2]
          have hc7 : wr.cell? ⟨g3, m + 9, none⟩ = some (.int .u32 a7) := by rw [hrow.cell, u32s_get _ _ (by rw [schedRow_length _ _ (by omega)]; omega), schedRow_get _ _ _ (by omega), ha7]
          have hc16 : wr.cell? ⟨g3, m, none⟩ = some (.int .u32 a16) := by rw [hrow.cell, u32s_get _ _ (by rw [schedRow_length _ _ (by omega)]; omega), schedRow_get _ _ _ (by omega), ha16]
          have hck : wr.cell? ⟨g3, m + 16, none⟩ = some (.int .u32 ((schedRow bs (m + 16)).getD (m + 16) 0)) := by rw [hrow.cell, u32s_get _ _ (by rw [schedRow_length _ _ (by omega)]; omega)]
          have hfk : wr.frozen? ⟨g3, m + 16, none⟩ = false := hrow.free _
          have hnext : nextW (sched bs (m + 16)) (m + 16) = (sig1 a2 + a7 + sig0 a15 + a16) % 4294967296 := by
            rw [ha15, ha2, ha7, ha16]; rfl
          have HN : Hid _ := hnext
          have HM : Hid _ := hm
          clear hnext hm ha15 ha2 ha7 ha16 hrow
          go_wp2_with fail
          go_quiet (fail)
          go_wp2_with (go_at_call 42; refine (rotr_any _ _ _ (by omega) (by omega)).mono ?_; rintro e w' ⟨rfl, rfl⟩)
          go_region
          go_wp2
          go_roundw
          case rel => exact ⟨m + 1, by omega, by go_num, spread_step HM.out _ (by omega) _ HN.out.symm⟩
          case measure => simp [intOf]; omega
        · have hm48 : m = 48 := by omega
          subst hm48
          rw [show 48 + 16 = 64 from rfl, schedRow_full] at hm
          go_wp2_with (first
            | ((with_reducible refine at_op (some 66) (.load 70 (.tmp 3)) ?_); refine wpl_ldw 0 hm rfl rfl _ un_w64 rfl 64 sz_w64 (by simp [u32s_length, sched_length]) ?_)
            | ((with_reducible refine at_op none (.store 70 (.tmp 2) (.tmp 66)) ?_); refine wpl_stw 1 (u32s (sched bs 64)) hm rfl rfl rfl 64 sz_w64 (by simp [u32s_length]) (by simp [u32s_length, sched_length]) (u32s_one _) ?_; clear hm; intro w8 hm))
          exact ret_cell 1 hm rfl Tryd.results41 rfl _ un_w64 rfl 64 sz_w64 (by simp [u32s_length, sched_length]) rfl ⟨rfl, hm.below⟩
end Go.Proofs.YtonbfbcbmdnelaaDoor
