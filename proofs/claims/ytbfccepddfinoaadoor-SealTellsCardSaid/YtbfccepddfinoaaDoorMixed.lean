/- Facts on the types of the program, and contracts of the small functions. -/
import Derived.Test.YtbfccepddfinoaaDoorRows
import Derived.Test.YtbfccepddfinoaaDoorMem
import Derived.Deep.QuietTactic
import Derived.BigQuiet
namespace Go.Proofs.YtbfccepddfinoaaDoor
open Go Go.RowKit
theorem info_b64 : (Tryd.prog.info? 64).map (fun i => (i.zero, i.size)) = some (some (.agg (u8s (List.replicate 64 0)).toArray), 64) := by kernel_rfl
theorem zero_b64 : ∀ w, (zeroValue 64).run Tryd.prog w = .ok (.agg (u8s (List.replicate 64 0)).toArray) w := (zero_of_info info_b64).1
theorem sz_b64 : (Tryd.prog.info? 64).map (·.size) = some 64 := (zero_of_info info_b64).2
theorem info_b32 : (Tryd.prog.info? 22).map (fun i => (i.zero, i.size)) = some (some (.agg (u8s (List.replicate 32 0)).toArray), 32) := by kernel_rfl
theorem zero_b32 : ∀ w, (zeroValue 22).run Tryd.prog w = .ok (.agg (u8s (List.replicate 32 0)).toArray) w := (zero_of_info info_b32).1
theorem sz_b32 : (Tryd.prog.info? 22).map (·.size) = some 32 := (zero_of_info info_b32).2
theorem info_b4 : (Tryd.prog.info? 108).map (fun i => (i.zero, i.size)) = some (some (.agg (u8s [0, 0, 0, 0]).toArray), 4) := by kernel_rfl
theorem zero_b4 : ∀ w, (zeroValue 108).run Tryd.prog w = .ok (.agg (u8s [0, 0, 0, 0]).toArray) w := (zero_of_info info_b4).1
theorem sz_b4 : (Tryd.prog.info? 108).map (·.size) = some 4 := (zero_of_info info_b4).2
theorem info_w8 : (Tryd.prog.info? 91).map (fun i => (i.zero, i.size)) = some (some (.agg (u32s (List.replicate 8 0)).toArray), 8) := by kernel_rfl
theorem zero_w8 : ∀ w, (zeroValue 91).run Tryd.prog w = .ok (.agg (u32s (List.replicate 8 0)).toArray) w := (zero_of_info info_w8).1
theorem sz_w8 : (Tryd.prog.info? 91).map (·.size) = some 8 := (zero_of_info info_w8).2
theorem info_w64 : (Tryd.prog.info? 103).map (fun i => (i.zero, i.size)) = some (some (.agg (u32s (List.replicate 64 0)).toArray), 64) := by kernel_rfl
theorem zero_w64 : ∀ w, (zeroValue 103).run Tryd.prog w = .ok (.agg (u32s (List.replicate 64 0)).toArray) w := (zero_of_info info_w64).1
theorem sz_w64 : (Tryd.prog.info? 103).map (·.size) = some 64 := (zero_of_info info_w64).2
theorem sz_u8 : (Tryd.prog.info? 5).map (·.size) = some 1 := by kernel_rfl
theorem ag_u8 : ∀ w, (isAgg 5).run Tryd.prog w = .ok false w := by intro w; simp [go_sem]
theorem sz_u32 : (Tryd.prog.info? 24).map (·.size) = some 1 := by kernel_rfl
theorem ag_u32 : ∀ w, (isAgg 24).run Tryd.prog w = .ok false w := by intro w; simp [go_sem]
theorem un_b64 : Tryd.prog.underlying 64 = some (.array 64 5) := Tryd.underlying64
theorem un_b32 : Tryd.prog.underlying 22 = some (.array 32 5) := Tryd.underlying22
theorem un_b4 : Tryd.prog.underlying 108 = some (.array 4 5) := Tryd.underlying108
theorem un_w8 : Tryd.prog.underlying 91 = some (.array 8 24) := Tryd.underlying91
theorem un_w64 : Tryd.prog.underlying 103 = some (.array 64 24) := Tryd.underlying103
theorem un_bs : Tryd.prog.underlying 26 = some (.slice 5) := Tryd.underlying26
set_option maxHeartbeats 400000 in
set_option maxRecDepth 100000 in
theorem rotr_any (x n : Int) (w : World) (hn0 : 0 ≤ n) (hn1 : n < 32) :
    Calls Tryd.prog 71 #[.int .u32 x, .int .i64 n] w fun e w' => e = .returned (.int .u32 (rotr x n)) ∧ w' = w := by
  have hn : n % 32 = n := by omega
  go_enter Tryd.func71, Tryd.ntmps71
  go_wp2
  go_ret
  exact ⟨rfl, rfl⟩
set_option maxHeartbeats 400000 in
set_option maxRecDepth 100000 in
theorem putBig_any (x : Int) (w : World) :
    Calls Tryd.prog 72 #[.int .u32 x] w fun e w' => e = .returned (.agg (u8s (four x)).toArray) ∧ Below w.heap.size w w' := by
  go_enter Tryd.func72, Tryd.ntmps72
  go_wp2
  refine bodyPost_ret (v := .agg (u8s (four x)).toArray) (by simp [results, Tryd.results72, go_sem, u8s, four]) rfl ⟨rfl, ?_⟩
  exact (Below.refl _ _).alloc (Nat.le_refl _) _
set_option maxHeartbeats 400000 in
set_option maxRecDepth 100000 in
theorem firstFour_any (b off cap : Nat) (cs : List Int) (hcs : cs.length = 4) (w : World) (hc : Seg w b off cs) :
    Calls Tryd.prog 76 #[.slice (some ⟨b, off, none⟩) 4 cap] w fun e w' => e = .returned (.agg (u8s cs).toArray) ∧ Below w.heap.size w w' := by
  have hm := Mem.start w
  go_enter Tryd.func76, Tryd.ntmps76
  go_wp2_with (first
    | ((with_reducible refine at_op (some 2) (.alloc 108) ?_); refine wpl_alloc _ zero_b4 hm ?_; clear hm; intro w1 g1 hm)
    | ((with_reducible refine at_op (some 3) (.alloc 108) ?_); refine wpl_alloc _ zero_b4 hm ?_; clear hm; intro w2 g2 hm)
    | ((with_reducible refine at_op (some 6) (.call { callee := .builtin .copy, args := #[.tmp 4, .tmp 5], argTypes := #[26, 26] }) ?_); refine wpl_copy 0 0 4 4 ⟨b, off, none⟩ 4 cap (u8s cs) hm rfl rfl rfl _ un_bs sz_u8 (by simp [u8s_length, hcs]) (hc.mem hm (by simp)).src (by simp [u8s_length, hcs]) (u8s_one _) ?_; clear hm; intro w3 hm; rw [splice_all _ _ (by simp [u8s_length, hcs])] at hm)
    | ((with_reducible refine at_op (some 7) (.load 108 (.tmp 3)) ?_); refine wpl_ldw 0 hm rfl rfl _ un_b4 rfl 4 sz_b4 (by simp [u8s_length, hcs]) ?_)
    | ((with_reducible refine at_op none (.store 108 (.tmp 2) (.tmp 7)) ?_); refine wpl_stw 1 (u8s cs) hm rfl rfl rfl 4 sz_b4 (by simp [u8s_length]) (by simp [u8s_length, hcs]) (u8s_one _) ?_; clear hm; intro w4 hm))
  exact ret_cell 1 hm rfl Tryd.results76 rfl _ un_b4 rfl 4 sz_b4 (by simp [u8s_length, hcs]) rfl ⟨rfl, hm.below⟩
set_option maxHeartbeats 400000 in
set_option maxRecDepth 100000 in
theorem big_any (b off cap : Nat) (c0 c1 c2 c3 : Int) (w : World) (hc : Seg w b off [c0, c1, c2, c3]) (h0 : 0 ≤ c0 ∧ c0 < 256) (h1 : 0 ≤ c1 ∧ c1 < 256) (h2 : 0 ≤ c2 ∧ c2 < 256) (h3 : 0 ≤ c3 ∧ c3 < 256) :
    Calls Tryd.prog 75 #[.slice (some ⟨b, off, none⟩) 4 cap] w fun e w' => e = .returned (.int .u32 (big4 c0 c1 c2 c3)) ∧ Below w.heap.size w w' := by
  obtain ⟨h00, h01⟩ := h0
  obtain ⟨h10, h11⟩ := h1
  obtain ⟨h20, h21⟩ := h2
  obtain ⟨h30, h31⟩ := h3
  have hm := Mem.start w
  go_enter Tryd.func75, Tryd.ntmps75
  go_wp2_with (first
    | (go_at_call 76; refine (firstFour_any b off cap [c0, c1, c2, c3] rfl _ (hc.mem hm (by simp))).mono ?_; rintro e w1 ⟨rfl, hb⟩; replace hm := hm.call hb; clear hb)
    | ((with_reducible refine at_op (some 3) (.alloc 108) ?_); refine wpl_alloc _ zero_b4 hm ?_; clear hm; intro w2 g2 hm)
    | ((with_reducible refine at_op none (.store 108 (.tmp 3) (.tmp 5)) ?_); refine wpl_stw 0 (u8s [c0, c1, c2, c3]) hm rfl rfl rfl 4 sz_b4 (by simp [u8s_length]) (rfl) (u8s_one _) ?_; clear hm; intro w3 hm)
    | ((with_reducible refine at_op (some 7) (.load 5 (.tmp 6)) ?_); refine wpl_ldc 0 0 (.int .u8 c0) hm rfl rfl ag_u8 (rfl) ?_)
    | ((with_reducible refine at_op (some 11) (.load 5 (.tmp 10)) ?_); refine wpl_ldc 0 1 (.int .u8 c1) hm rfl rfl ag_u8 (rfl) ?_)
    | ((with_reducible refine at_op (some 16) (.load 5 (.tmp 15)) ?_); refine wpl_ldc 0 2 (.int .u8 c2) hm rfl rfl ag_u8 (rfl) ?_)
    | ((with_reducible refine at_op (some 21) (.load 5 (.tmp 20)) ?_); refine wpl_ldc 0 3 (.int .u8 c3) hm rfl rfl ag_u8 (rfl) ?_))
  go_ret
  exact ⟨rfl, hm.below⟩
end Go.Proofs.YtbfccepddfinoaaDoor

namespace Go.Proofs.YtbfccepddfinoaaDoor
open Go Go.RowKit

theorem seg4 {w : World} {g : Nat} {bs : List Int} {t : TypeId} (h : Row w g (u8s bs) t) (k : Nat) (hk : 4 * k + 3 < bs.length) :
    Seg w g (4 * k) [bs.getD (4 * k) 0, bs.getD (4 * k + 1) 0, bs.getD (4 * k + 2) 0, bs.getD (4 * k + 3) 0] := by
  have hs := Seg.row h
  intro j hj
  have hj4 : j < 4 := by simpa using hj
  have hq := hs (4 * k + j) (by omega)
  rw [Nat.zero_add] at hq
  rw [hq]
  match j, hj4 with
  | 0, _ => rfl
  | 1, _ => rfl
  | 2, _ => rfl
  | 3, _ => rfl
theorem spread_step {w wr : World} {g1 g2 g3 : Nat} {bs z : List Int} {t t' : TypeId} {m : Nat} (hm : Mem w [] wr [(g3, u32s (schedRow bs (m + 16)), t), (g2, u32s z, t), (g1, u8s bs, t')]) (n : Nat) (hlt : m < 48) (x : Int) (hx : x = nextW (sched bs (m + 16)) (m + 16)) :
    Mem w [] ((wr.drewN n).setCell ⟨g3, m + 16, none⟩ (.int .u32 x)) [(g3, u32s (schedRow bs (m + 1 + 16)), t), (g2, u32s z, t), (g1, u8s bs, t')] := by
  have h := (hm.drewN n).setCell 0 rfl (m + 16) (.int .u32 x)
  rw [List.set_cons_zero, u32s_set, schedRow_set bs (m + 16) (by omega) x (by rw [if_neg (by omega)]; exact hx)] at h
  rw [show m + 1 + 16 = m + 16 + 1 by omega]
  exact h
set_option maxHeartbeats 1000000 in
set_option maxRecDepth 100000 in
theorem spread_any (bs : List Int) (hbs : bs.length = 64) (hby : ∀ j, 0 ≤ bs.getD j 0 ∧ bs.getD j 0 < 256) (w : World) :
    Calls Tryd.prog 70 #[.agg (u8s bs).toArray] w fun e w' => e = .returned (.agg (u32s (sched bs 64)).toArray) ∧ Below w.heap.size w w' := by
  have hm := Mem.start w
  go_enter Tryd.func70, Tryd.ntmps70
  go_wp2_with (first
    | ((with_reducible refine at_op (some 1) (.box 64 (.tmp 0)) ?_); refine wpl_box (u8s bs) rfl hm ?_; clear hm; intro w1 g1 hm)
    | ((with_reducible refine at_op (some 2) (.alloc 103) ?_); refine wpl_alloc _ zero_w64 hm ?_; clear hm; intro w2 g2 hm)
    | ((with_reducible refine at_op (some 3) (.alloc 103) ?_); refine wpl_alloc _ zero_w64 hm ?_; clear hm; intro w3 g3 hm))

  go_loopw [10] (fun i wr => ∃ k : Nat, k ≤ 16 ∧ i = .int .i64 k ∧ Mem w [] wr [(g3, u32s (schedRow bs k), 103), (g2, u32s (List.replicate 64 0), 103), (g1, u8s bs, 64)]) (fun i _ => 16 - (intOf i).toNat)
  case atStart => exact ⟨0, by omega, rfl, hm⟩
  case round =>
    clear hm
    obtain ⟨k, hk, rfl, hm⟩ := hrel
    by_cases hlt : k < 16
    · have e1 : 4 * (k : Int) = ((4 * k : Nat) : Int) := by omega
      have e2 : 4 * ((k : Int) + 1) = ((4 * k + 4 : Nat) : Int) := by omega
      have E1 : Hid _ := e1
      have E2 : Hid _ := e2
      clear e1 e2
      have hq := hby (4 * k)
      have hq1 := hby (4 * k + 1)
      have hq2 := hby (4 * k + 2)
      have hq3 := hby (4 * k + 3)
      have hsg : Seg wr g1 (4 * k) [bs.getD (4 * k) 0, bs.getD (4 * k + 1) 0, bs.getD (4 * k + 2) 0, bs.getD (4 * k + 3) 0] := seg4 (hm.get 2 rfl) k (by omega)
      have HQ : Hid _ := And.intro hq (And.intro hq1 (And.intro hq2 (And.intro hq3 hsg)))
      clear hq hq1 hq2 hq3 hsg hby
      go_wp2_with (first
        | ((with_reducible refine at_op (some 19) (.slice 64 (.tmp 1) (some (.tmp 15)) (some (.tmp 18)) none) ?_); refine wpl_sla 64 un_b64 sz_u8 (4 * k) 4 (by omega) (by omega) rfl (Or.inl (int_at _ rfl E1.out)) (Or.inl (int_at _ rfl E2.out)) ?_)
        | (go_at_call 75; refine (big_any _ _ _ _ _ _ _ _ HQ.out.2.2.2.2 HQ.out.1 HQ.out.2.1 HQ.out.2.2.1 HQ.out.2.2.2.1).mono ?_; rintro e w5 ⟨rfl, hb⟩; replace hm := hm.call hb; clear hb)
        | ((with_reducible refine at_op none (.store 24 (.tmp 21) (.tmp 20)) ?_); refine wpl_stc 0 k (.int .u32 (big4 (bs.getD (4 * k) 0) (bs.getD (4 * k + 1) 0) (bs.getD (4 * k + 2) 0) (bs.getD (4 * k + 3) 0))) hm rfl (rfl) rfl sz_u32 (by simp [u32s_length, schedRow_length _ _ (show k ≤ 64 by omega)]; omega) rfl rfl ?_; clear hm; intro w6 hm))
      have hn : Mem w [] w6 [(g3, u32s (schedRow bs (k + 1)), 103), (g2, u32s (List.replicate 64 0), 103), (g1, u8s bs, 64)] := by
        rw [List.set_cons_zero, u32s_set, schedRow_set bs k (by omega) _ (by rw [if_pos hlt])] at hm
        exact hm
      clear hm
      go_roundw
      case rel => exact ⟨k + 1, by omega, by go_num, hn⟩
      case measure => simp [intOf]; omega
    · have hk16 : k = 16 := by omega
      subst hk16
      go_wp2_with fail
      rw [show ((16 : Nat) : Int) = 16 from rfl]
      go_loopw [5] (fun i wr => ∃ m : Nat, m ≤ 48 ∧ i = .int .i64 (m + 16 : Nat) ∧ Mem w [] wr [(g3, u32s (schedRow bs (m + 16)), 103), (g2, u32s (List.replicate 64 0), 103), (g1, u8s bs, 64)]) (fun i _ => 64 - (intOf i).toNat)
      case atStart => exact ⟨0, by omega, rfl, hm⟩
      case round =>
        clear hm
        obtain ⟨m, hm64, rfl, hm⟩ := hrel
        by_cases hlt2 : m < 48
        · have hrow := hm.get 0 rfl
          obtain ⟨a15, ha15⟩ : ∃ x, x = (sched bs (m + 16)).getD (m + 1) 0 := ⟨_, rfl⟩
          obtain ⟨a2, ha2⟩ : ∃ x, x = (sched bs (m + 16)).getD (m + 14) 0 := ⟨_, rfl⟩
          obtain ⟨a7, ha7⟩ : ∃ x, x = (sched bs (m + 16)).getD (m + 9) 0 := ⟨_, rfl⟩
          obtain ⟨a16, ha16⟩ : ∃ x, x = (sched bs (m + 16)).getD m 0 := ⟨_, rfl⟩
          have hc15 : wr.cell? ⟨g3, m + 1, none⟩ = some (.int .u32 a15) := by rw [hrow.cell, u32s_get _ _ (by rw [schedRow_length _ _ (by omega)]; omega), schedRow_get _ _ _ (by omega), ha15]
          have hc2 : wr.cell? ⟨g3, m + 14, none⟩ = some (.int .u32 a2) := by rw [hrow.cell, u32s_get _ _ (by rw [schedRow_length _ _ (by omega)]; omega), schedRow_get _ _ _ (by omega), ha2]
          have hc7 : wr.cell? ⟨g3, m + 9, none⟩ = some (.int .u32 a7) := by rw [hrow.cell, u32s_get _ _ (by rw [schedRow_length _ _ (by omega)]; omega), schedRow_get _ _ _ (by omega), ha7]
          have hc16 : wr.cell? ⟨g3, m, none⟩ = some (.int .u32 a16) := by rw [hrow.cell, u32s_get _ _ (by rw [schedRow_length _ _ (by omega)]; omega), schedRow_get _ _ _ (by omega), ha16]
          have hck : wr.cell? ⟨g3, m + 16, none⟩ = some (.int .u32 ((schedRow bs (m + 16)).getD (m + 16) 0)) := by rw [hrow.cell, u32s_get _ _ (by rw [schedRow_length _ _ (by omega)]; omega)]
          have hfk : wr.frozen? ⟨g3, m + 16, none⟩ = false := hrow.free _
          have hnext : nextW (sched bs (m + 16)) (m + 16) = (sig1 a2 + a7 + sig0 a15 + a16) % 4294967296 := by
            rw [ha15, ha2, ha7, ha16]; rfl
          have HN : Hid _ := hnext
          have HM : Hid _ := hm
          clear hnext hm ha15 ha2 ha7 ha16 hrow
          go_wp2_with fail
          go_quiet (fail)
          go_wp2_with (go_at_call 71; refine (rotr_any _ _ _ (by omega) (by omega)).mono ?_; rintro e w' ⟨rfl, rfl⟩)
          go_region
          go_wp2
          go_roundw
          case rel => exact ⟨m + 1, by omega, by go_num, spread_step HM.out _ (by omega) _ HN.out.symm⟩
          case measure => simp [intOf]; omega
        · have hm48 : m = 48 := by omega
          subst hm48
          rw [show 48 + 16 = 64 from rfl, schedRow_full] at hm
          go_wp2_with (first
            | ((with_reducible refine at_op (some 66) (.load 103 (.tmp 3)) ?_); refine wpl_ldw 0 hm rfl rfl _ un_w64 rfl 64 sz_w64 (by simp [u32s_length, sched_length]) ?_)
            | ((with_reducible refine at_op none (.store 103 (.tmp 2) (.tmp 66)) ?_); refine wpl_stw 1 (u32s (sched bs 64)) hm rfl rfl rfl 64 sz_w64 (by simp [u32s_length]) (by simp [u32s_length, sched_length]) (u32s_one _) ?_; clear hm; intro w8 hm))
          exact ret_cell 1 hm rfl Tryd.results70 rfl _ un_w64 rfl 64 sz_w64 (by simp [u32s_length, sched_length]) rfl ⟨rfl, hm.below⟩
end Go.Proofs.YtbfccepddfinoaaDoor

namespace Go.Proofs.YtbfccepddfinoaaDoor
open Go Go.RowKit

def Tab (w : World) : Prop := ∀ j, j < 64 → w.cell? ⟨1, j, none⟩ = some (.int .u32 (kTab.getD j 0))
theorem Tab.lt {w : World} (h : Tab w) : 1 < w.heap.size := block_lt_of_cell (h 0 (by omega))
set_option maxHeartbeats 1000000 in
set_option maxRecDepth 100000 in
theorem mixed_any (ws bs : List Int) (hws : ws.length = 8) (hbs : bs.length = 64) (hby : ∀ j, 0 ≤ bs.getD j 0 ∧ bs.getD j 0 < 256) (w : World) (ht : Tab w) :
    Calls Tryd.prog 61 #[.agg (u32s ws).toArray, .agg (u8s bs).toArray] w fun e w' => e = .returned (.agg (u32s (mix ws bs)).toArray) ∧ Below w.heap.size w w' := by
  match ws, hws with
  | [x0, x1, x2, x3, x4, x5, x6, x7], _ =>
  have hm := Mem.start w
  have HT : Hid _ := ht
  clear ht
  go_enter Tryd.func61, Tryd.ntmps61
  go_wp2_with (first
    | ((with_reducible refine at_op (some 2) (.box 91 (.tmp 0)) ?_); refine wpl_box (u32s [x0, x1, x2, x3, x4, x5, x6, x7]) rfl hm ?_; clear hm; intro w1 g1 hm)
    | ((with_reducible refine at_op (some 3) (.box 64 (.tmp 1)) ?_); refine wpl_box (u8s bs) rfl hm ?_; clear hm; intro w2 g2 hm)
    | ((with_reducible refine at_op (some 4) (.alloc 91) ?_); refine wpl_alloc _ zero_w8 hm ?_; clear hm; intro w3 g3 hm)
    | ((with_reducible refine at_op (some 21) (.load 64 (.tmp 3)) ?_); refine wpl_ldw 1 hm rfl rfl _ un_b64 rfl 64 sz_b64 (by simp [u8s_length, hbs]) ?_)
    | (go_at_call 70; refine (spread_any bs hbs hby _).mono ?_; rintro e w4 ⟨rfl, hb⟩; replace hm := hm.call hb; clear hb)
    | ((with_reducible refine at_op (some 5) (.alloc 103) ?_); refine wpl_alloc _ zero_w64 hm ?_; clear hm; intro w5 g5 hm)
    | ((with_reducible refine at_op none (.store 103 (.tmp 5) (.tmp 22)) ?_); refine wpl_stw 0 (u32s (sched bs 64)) hm rfl rfl rfl 64 sz_w64 (by simp [u32s_length]) (by simp [u32s_length, sched_length]) (u32s_one _) ?_; clear hm; intro w6 hm))

  have hr := hm.get 3 rfl
  have c0 : w6.cell? ⟨g1, 0, none⟩ = some (.int .u32 x0) := hr.cell 0
  have c1 : w6.cell? ⟨g1, 1, none⟩ = some (.int .u32 x1) := hr.cell 1
  have c2 : w6.cell? ⟨g1, 2, none⟩ = some (.int .u32 x2) := hr.cell 2
  have c3 : w6.cell? ⟨g1, 3, none⟩ = some (.int .u32 x3) := hr.cell 3
  have c4 : w6.cell? ⟨g1, 4, none⟩ = some (.int .u32 x4) := hr.cell 4
  have c5 : w6.cell? ⟨g1, 5, none⟩ = some (.int .u32 x5) := hr.cell 5
  have c6 : w6.cell? ⟨g1, 6, none⟩ = some (.int .u32 x6) := hr.cell 6
  have c7 : w6.cell? ⟨g1, 7, none⟩ = some (.int .u32 x7) := hr.cell 7
  have HM : Hid _ := hm
  clear hr hm
  go_quiet (fail)
  go_wp2_with fail
  go_quiet (fail)
  go_wp2_with fail
  clear c0 c1 c2 c3 c4 c5 c6 c7
  go_loopw [6, 7, 8, 9, 10, 11, 12, 13, 39] (fun va vb vc vd ve vf vg vh vi wr => ∃ (k : Nat) (a b c d e f g h : Int), k ≤ 64 ∧ vi = .int .i64 k ∧ va = .int .u32 a ∧ vb = .int .u32 b ∧ vc = .int .u32 c ∧ vd = .int .u32 d ∧ ve = .int .u32 e ∧ vf = .int .u32 f ∧ vg = .int .u32 g ∧ vh = .int .u32 h ∧
      Hid (shaRounds [x0, x1, x2, x3, x4, x5, x6, x7] (sched bs 64) k = [a, b, c, d, e, f, g, h]) ∧ Hid (Mem w [] wr [(g5, u32s (sched bs 64), 103), (g3, u32s (List.replicate 8 0), 91), (g2, u8s bs, 64), (g1, u32s [x0, x1, x2, x3, x4, x5, x6, x7], 91)]))
    (fun _ _ _ _ _ _ _ _ vi _ => 64 - (intOf vi).toNat)
  case atStart => exact ⟨0, x0, x1, x2, x3, x4, x5, x6, x7, by omega, rfl, rfl, rfl, rfl, rfl, rfl, rfl, rfl, rfl, rfl, (HM.out.drewN _).drewN _⟩
  case round =>
    clear HM
    obtain ⟨k, a, b, c, d, e, f, g, h, hk, rfl, rfl, rfl, rfl, rfl, rfl, rfl, rfl, rfl, HR, HM⟩ := hrel
    by_cases hlt : k < 64
    · obtain ⟨kk, hkk⟩ : ∃ x, x = kTab.getD k 0 := ⟨_, rfl⟩
      obtain ⟨xx, hxx⟩ : ∃ x, x = (sched bs 64).getD k 0 := ⟨_, rfl⟩
      have hcK : wr.cell? ⟨1, k, none⟩ = some (.int .u32 kk) := by rw [HM.out.old (p := ⟨1, k, none⟩) (Tab.lt HT.out) (by simp), HT.out k hlt, hkk]
      have hcW : wr.cell? ⟨g5, k, none⟩ = some (.int .u32 xx) := by rw [HM.out.cell 0 rfl, u32s_get _ _ (by rw [sched_length]; exact hlt), hxx]
      have HK : Hid _ := hkk
      have HX : Hid _ := hxx
      clear hkk hxx
      go_wp2_with (go_at_call 71; refine (rotr_any _ _ _ (by omega) (by omega)).mono ?_; rintro e w' ⟨rfl, rfl⟩)
      go_quiet (fail)
      go_wp2_with fail
      go_roundw
      case rel => exact ⟨k + 1, _, a, b, c, _, e, f, g, by omega, by go_num, rfl, rfl, rfl, rfl, rfl, rfl, rfl, rfl, shaRounds_step HR.out HK.out HX.out, HM.out.drewN _⟩
      case measure => simp [intOf]; omega
    · have hk64 : k = 64 := by omega
      subst hk64
      have hm := HM.out
      clear HM HT
      go_wp2_with fail
      rw [show ((64 : Nat) : Int) = 64 from rfl]
      have hv8 : [a, b, c, d, e, f, g, h].length = 8 := rfl
      have hx8 : [x0, x1, x2, x3, x4, x5, x6, x7].length = 8 := rfl
      have hfin : mix [x0, x1, x2, x3, x4, x5, x6, x7] bs = addW [x0, x1, x2, x3, x4, x5, x6, x7] [a, b, c, d, e, f, g, h] := by unfold mix; rw [HR.out]
      have HF : Hid _ := hfin
      have HV : Hid _ := hv8
      have HX : Hid _ := hx8
      clear hfin hv8 hx8 HR
      go_loopw [113] (fun vi wr => ∃ k : Nat, k ≤ 8 ∧ vi = .int .i64 k ∧ Mem w [] wr [(g5, u32s (sched bs 64), 103), (g3, u32s (List.replicate 8 0), 91), (g2, u8s bs, 64), (g1, u32s (addUpto [x0, x1, x2, x3, x4, x5, x6, x7] [a, b, c, d, e, f, g, h] k), 91)])
        (fun vi _ => 8 - (intOf vi).toNat)
      case atStart => exact ⟨0, by omega, rfl, hm⟩
      case round =>
        clear hm
        obtain ⟨k, hk8, rfl, hm⟩ := hrel
        by_cases hlt8 : k < 8
        · obtain ⟨y, hy⟩ : ∃ y, y = [a, b, c, d, e, f, g, h].getD k 0 := ⟨_, rfl⟩
          obtain ⟨x, hx⟩ : ∃ y, y = [x0, x1, x2, x3, x4, x5, x6, x7].getD k 0 := ⟨_, rfl⟩
          have hvy : (u32s [a, b, c, d, e, f, g, h])[k]? = some (.int .u32 y) := by rw [u32s_get _ _ hlt8, hy]
          have hvx : (u32s (addUpto [x0, x1, x2, x3, x4, x5, x6, x7] [a, b, c, d, e, f, g, h] k))[k]? = some (.int .u32 x) := by
            rw [u32s_get _ _ (by rw [addUpto_length _ _ HX.out HV.out k hk8]; exact hlt8), addUpto_get _ _ HX.out HV.out k hlt8, hx]
          have hset : (u32s (addUpto [x0, x1, x2, x3, x4, x5, x6, x7] [a, b, c, d, e, f, g, h] k)).set k (.int .u32 ((x + y) % 4294967296)) = u32s (addUpto [x0, x1, x2, x3, x4, x5, x6, x7] [a, b, c, d, e, f, g, h] (k + 1)) := by
            rw [u32s_set, hx, hy, addUpto_set _ _ HX.out HV.out k hlt8]
          have hlen : k < (u32s (addUpto [x0, x1, x2, x3, x4, x5, x6, x7] [a, b, c, d, e, f, g, h] k)).length := by
            rw [u32s_length, addUpto_length _ _ HX.out HV.out k hk8]; exact hlt8
          have HVY : Hid _ := hvy
          have HVX : Hid _ := hvx
          have HS : Hid _ := hset
          have HL : Hid _ := hlen
          clear hvy hvx hset hlen hy hx
          go_wp2_with (first
            | ((with_reducible refine at_op (some 116) (.index 91 (.tmp 112) (.tmp 113)) ?_); refine wpl_ixa 8 un_w8 sz_u32 ag_u32 (u32s [a, b, c, d, e, f, g, h]) k (.int .u32 y) (hlt8) rfl rfl (rfl) (HVY.out) ?_)
            | ((with_reducible refine at_op (some 119) (.load 24 (.tmp 118)) ?_); refine wpl_ldc 3 k (.int .u32 x) hm rfl rfl ag_u32 (HVX.out) ?_)
            | ((with_reducible refine at_op none (.store 24 (.tmp 122) (.tmp 121)) ?_); refine wpl_stc 3 k (.int .u32 ((x + y) % 4294967296)) hm rfl (rfl) rfl sz_u32 (HL.out) rfl rfl ?_; clear hm; intro w9 hm))

          have hn : Mem w [] w9 [(g5, u32s (sched bs 64), 103), (g3, u32s (List.replicate 8 0), 91), (g2, u8s bs, 64), (g1, u32s (addUpto [x0, x1, x2, x3, x4, x5, x6, x7] [a, b, c, d, e, f, g, h] (k + 1)), 91)] := by
            rw [HS.out] at hm
            exact hm
          clear hm
          go_roundw
          case rel => exact ⟨k + 1, by omega, by go_num, hn⟩
          case measure => simp [intOf]; omega
        · have hk8' : k = 8 := by omega
          subst hk8'
          rw [addUpto_full _ _ HX.out HV.out, ← HF.out] at hm
          have hln : (u32s (mix [x0, x1, x2, x3, x4, x5, x6, x7] bs)).length = 8 := by rw [HF.out, u32s_length, addW_length _ _ HX.out HV.out]
          have HLN : Hid _ := hln
          clear hln
          go_wp2_with (first
            | ((with_reducible refine at_op (some 124) (.load 91 (.tmp 2)) ?_); refine wpl_ldw 3 hm rfl rfl _ un_w8 rfl 8 sz_w8 (HLN.out) ?_)
            | ((with_reducible refine at_op none (.store 91 (.tmp 4) (.tmp 124)) ?_); refine wpl_stw 1 (u32s (mix [x0, x1, x2, x3, x4, x5, x6, x7] bs)) hm rfl rfl rfl 8 sz_w8 (by simp [u32s_length]) (HLN.out) (u32s_one _) ?_; clear hm; intro w8 hm))
          exact ret_cell 1 hm rfl Tryd.results61 rfl _ un_w8 rfl 8 sz_w8 HLN.out rfl ⟨rfl, hm.below⟩
end Go.Proofs.YtbfccepddfinoaaDoor
