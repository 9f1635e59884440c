/- Facts on the types of the program, and contracts of the small functions. -/
import Derived.Test.YtonbfbcbmdnelaaDoorRows
import Derived.Test.YtonbfbcbmdnelaaDoorMem
namespace Go.Proofs.YtonbfbcbmdnelaaDoor
open Go Go.RowKit
theorem info_b64 : (Tryd.prog.info? 44).map (fun i => (i.zero, i.size)) = some (some (.agg (u8s (List.replicate 64 0)).toArray), 64) := by kernel_rfl
theorem zero_b64 : ∀ w, (zeroValue 44).run Tryd.prog w = .ok (.agg (u8s (List.replicate 64 0)).toArray) w := (zero_of_info info_b64).1
theorem sz_b64 : (Tryd.prog.info? 44).map (·.size) = some 64 := (zero_of_info info_b64).2
theorem info_b32 : (Tryd.prog.info? 23).map (fun i => (i.zero, i.size)) = some (some (.agg (u8s (List.replicate 32 0)).toArray), 32) := by kernel_rfl
theorem zero_b32 : ∀ w, (zeroValue 23).run Tryd.prog w = .ok (.agg (u8s (List.replicate 32 0)).toArray) w := (zero_of_info info_b32).1
theorem sz_b32 : (Tryd.prog.info? 23).map (·.size) = some 32 := (zero_of_info info_b32).2
theorem info_b4 : (Tryd.prog.info? 76).map (fun i => (i.zero, i.size)) = some (some (.agg (u8s [0, 0, 0, 0]).toArray), 4) := by kernel_rfl
theorem zero_b4 : ∀ w, (zeroValue 76).run Tryd.prog w = .ok (.agg (u8s [0, 0, 0, 0]).toArray) w := (zero_of_info info_b4).1
theorem sz_b4 : (Tryd.prog.info? 76).map (·.size) = some 4 := (zero_of_info info_b4).2
theorem info_w8 : (Tryd.prog.info? 59).map (fun i => (i.zero, i.size)) = some (some (.agg (u32s (List.replicate 8 0)).toArray), 8) := by kernel_rfl
theorem zero_w8 : ∀ w, (zeroValue 59).run Tryd.prog w = .ok (.agg (u32s (List.replicate 8 0)).toArray) w := (zero_of_info info_w8).1
theorem sz_w8 : (Tryd.prog.info? 59).map (·.size) = some 8 := (zero_of_info info_w8).2
theorem info_w64 : (Tryd.prog.info? 70).map (fun i => (i.zero, i.size)) = some (some (.agg (u32s (List.replicate 64 0)).toArray), 64) := by kernel_rfl
theorem zero_w64 : ∀ w, (zeroValue 70).run Tryd.prog w = .ok (.agg (u32s (List.replicate 64 0)).toArray) w := (zero_of_info info_w64).1
theorem sz_w64 : (Tryd.prog.info? 70).map (·.size) = some 64 := (zero_of_info info_w64).2
theorem sz_u8 : (Tryd.prog.info? 5).map (·.size) = some 1 := by kernel_rfl
theorem ag_u8 : ∀ w, (isAgg 5).run Tryd.prog w = .ok false w := by intro w; simp [go_sem]
theorem sz_u32 : (Tryd.prog.info? 25).map (·.size) = some 1 := by kernel_rfl
theorem ag_u32 : ∀ w, (isAgg 25).run Tryd.prog w = .ok false w := by intro w; simp [go_sem]
theorem un_b64 : Tryd.prog.underlying 44 = some (.array 64 5) := Tryd.underlying44
theorem un_b32 : Tryd.prog.underlying 23 = some (.array 32 5) := Tryd.underlying23
theorem un_b4 : Tryd.prog.underlying 76 = some (.array 4 5) := Tryd.underlying76
theorem un_w8 : Tryd.prog.underlying 59 = some (.array 8 25) := Tryd.underlying59
theorem un_w64 : Tryd.prog.underlying 70 = some (.array 64 25) := Tryd.underlying70
theorem un_bs : Tryd.prog.underlying 22 = some (.slice 5) := Tryd.underlying22
set_option maxHeartbeats 400000 in
theorem rotr_any (x n : Int) (w : World) (hn0 : 0 ≤ n) (hn1 : n < 32) :
    Calls Tryd.prog 42 #[.int .u32 x, .int .i64 n] w fun e w' => e = .returned (.int .u32 (rotr x n)) ∧ w' = w := by
  have hn : n % 32 = n := by omega
  go_enter Tryd.func42, Tryd.ntmps42
  go_wp2
  go_ret
  exact ⟨rfl, rfl⟩
set_option maxHeartbeats 400000 in
theorem putBig_any (x : Int) (w : World) :
    Calls Tryd.prog 43 #[.int .u32 x] w fun e w' => e = .returned (.agg (u8s (four x)).toArray) ∧ Below w.heap.size w w' := by
  go_enter Tryd.func43, Tryd.ntmps43
  go_wp2
  refine bodyPost_ret (v := .agg (u8s (four x)).toArray) (by simp [results, Tryd.results43, go_sem, u8s, four]) rfl ⟨rfl, ?_⟩
  exact (Below.refl _ _).alloc (Nat.le_refl _) _
set_option maxHeartbeats 400000 in
theorem firstFour_any (b off cap : Nat) (cs : List Int) (hcs : cs.length = 4) (w : World) (hc : Seg w b off cs) :
    Calls Tryd.prog 45 #[.slice (some ⟨b, off, none⟩) 4 cap] w fun e w' => e = .returned (.agg (u8s cs).toArray) ∧ Below w.heap.size w w' := by
  have hm := Mem.start w
  go_enter Tryd.func45, Tryd.ntmps45
  go_wp2_with (first
    | ((with_reducible refine at_op (some 2) (.alloc 76) ?_); refine wpl_alloc _ zero_b4 hm ?_; clear hm; intro w1 g1 hm)
    | ((with_reducible refine at_op (some 3) (.alloc 76) ?_); refine wpl_alloc _ zero_b4 hm ?_; clear hm; intro w2 g2 hm)
    | ((with_reducible refine at_op (some 6) (.call { callee := .builtin .copy, args := #[.tmp 4, .tmp 5], argTypes := #[22, 22] }) ?_); refine wpl_copy 0 0 4 4 ⟨b, off, none⟩ 4 cap (u8s cs) hm rfl rfl rfl _ un_bs sz_u8 (by simp [u8s_length, hcs]) (hc.mem hm (by simp)).src (by simp [u8s_length, hcs]) (u8s_one _) ?_; clear hm; intro w3 hm; rw [splice_all _ _ (by simp [u8s_length, hcs])] at hm)
    | ((with_reducible refine at_op (some 7) (.load 76 (.tmp 3)) ?_); refine wpl_ldw 0 hm rfl rfl _ un_b4 rfl 4 sz_b4 (by simp [u8s_length, hcs]) ?_)
    | ((with_reducible refine at_op none (.store 76 (.tmp 2) (.tmp 7)) ?_); refine wpl_stw 1 (u8s cs) hm rfl rfl rfl 4 sz_b4 (by simp [u8s_length]) (by simp [u8s_length, hcs]) (u8s_one _) ?_; clear hm; intro w4 hm))
  exact ret_cell 1 hm rfl Tryd.results45 rfl _ un_b4 rfl 4 sz_b4 (by simp [u8s_length, hcs]) rfl ⟨rfl, hm.below⟩
set_option maxHeartbeats 400000 in
theorem big_any (b off cap : Nat) (c0 c1 c2 c3 : Int) (w : World) (hc : Seg w b off [c0, c1, c2, c3]) (h0 : 0 ≤ c0 ∧ c0 < 256) (h1 : 0 ≤ c1 ∧ c1 < 256) (h2 : 0 ≤ c2 ∧ c2 < 256) (h3 : 0 ≤ c3 ∧ c3 < 256) :
    Calls Tryd.prog 44 #[.slice (some ⟨b, off, none⟩) 4 cap] w fun e w' => e = .returned (.int .u32 (big4 c0 c1 c2 c3)) ∧ Below w.heap.size w w' := by
  obtain ⟨h00, h01⟩ := h0
  obtain ⟨h10, h11⟩ := h1
  obtain ⟨h20, h21⟩ := h2
  obtain ⟨h30, h31⟩ := h3
  have hm := Mem.start w
  go_enter Tryd.func44, Tryd.ntmps44
  go_wp2_with (first
    | (go_at_call 45; refine (firstFour_any b off cap [c0, c1, c2, c3] rfl _ (hc.mem hm (by simp))).mono ?_; rintro e w1 ⟨rfl, hb⟩; replace hm := hm.call hb; clear hb)
    | ((with_reducible refine at_op (some 3) (.alloc 76) ?_); refine wpl_alloc _ zero_b4 hm ?_; clear hm; intro w2 g2 hm)
    | ((with_reducible refine at_op none (.store 76 (.tmp 3) (.tmp 5)) ?_); refine wpl_stw 0 (u8s [c0, c1, c2, c3]) hm rfl rfl rfl 4 sz_b4 (by simp [u8s_length]) (rfl) (u8s_one _) ?_; clear hm; intro w3 hm)
    | ((with_reducible refine at_op (some 7) (.load 5 (.tmp 6)) ?_); refine wpl_ldc 0 0 (.int .u8 c0) hm rfl rfl ag_u8 (rfl) ?_)
    | ((with_reducible refine at_op (some 11) (.load 5 (.tmp 10)) ?_); refine wpl_ldc 0 1 (.int .u8 c1) hm rfl rfl ag_u8 (rfl) ?_)
    | ((with_reducible refine at_op (some 16) (.load 5 (.tmp 15)) ?_); refine wpl_ldc 0 2 (.int .u8 c2) hm rfl rfl ag_u8 (rfl) ?_)
    | ((with_reducible refine at_op (some 21) (.load 5 (.tmp 20)) ?_); refine wpl_ldc 0 3 (.int .u8 c3) hm rfl rfl ag_u8 (rfl) ?_))
  go_ret
  exact ⟨rfl, hm.below⟩
end Go.Proofs.YtonbfbcbmdnelaaDoor
