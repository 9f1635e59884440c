/- Package term: what is like on top; where kids lie. -/
import Derived.Test.YtbiinchmbclmcaaDoorTmCntR
namespace Go.Proofs.YtbiinchmbclmcaaDoor
open Go Go.RowKit
set_option maxHeartbeats 2000000 in
set_option maxRecDepth 100000 in
theorem alike_k (t u : Tm) (m m2 : Nat) (p1 p2 : Option Addr) (c1 c2 : Nat) (w : World) (hk : ¬ t.k = u.k) :
    Calls Tryd.prog 17 #[.agg (tcs t (.slice p1 m c1)).toArray, .agg (tcs u (.slice p2 m2 c2)).toArray] w fun e w' => e = .returned (.bool false) ∧ Below w.heap.size w w' := by
  have hm := Mem.start w
  have ek : (t.k == u.k) = false := beq_int_no _ _ hk
  clear hk
  go_enter Tryd.func17, Tryd.ntmps17
  go_wp2_with (first
    | ((with_reducible refine at_op (some 2) (.box 24 (.tmp 0)) ?_); go_must (refine wpl_box (tcs t (.slice p1 m c1)) rfl hm ?_); clear hm; intro w1 g1 hm)
    | ((with_reducible refine at_op (some 3) (.box 24 (.tmp 1)) ?_); go_must (refine wpl_box (tcs u (.slice p2 m2 c2)) rfl hm ?_); clear hm; intro w2 g2 hm)
    | ((with_reducible refine at_op (some 6) (.load 3 (.tmp 5)) ?_); go_must (refine wpl_execG (.int .i64 t.k) rfl (exec_ldx (.int .i64 t.k) (Mem.cell hm 1 rfl 0) rfl ag_int) ?_))
    | ((with_reducible refine at_op (some 8) (.load 3 (.tmp 7)) ?_); go_must (refine wpl_execG (.int .i64 u.k) rfl (exec_ldx (.int .i64 u.k) (Mem.cell hm 0 rfl 0) rfl ag_int) ?_))
    | ((with_reducible refine at_opG (some 12) (.load 3 (.tmp 11)) (some (5, true)) ?_); go_must (refine wpl_execG (.int .i64 t.n) rfl (exec_ldx (.int .i64 t.n) (Mem.cell hm 1 rfl 1) rfl ag_int) ?_))
    | ((with_reducible refine at_opG (some 14) (.load 3 (.tmp 13)) (some (5, true)) ?_); go_must (refine wpl_execG (.int .i64 u.n) rfl (exec_ldx (.int .i64 u.n) (Mem.cell hm 0 rfl 1) rfl ag_int) ?_))
    | ((with_reducible refine at_opG (some 19) (.load 22 (.tmp 18)) (some (12, true)) ?_); go_must (refine wpl_execG (.slice p1 m c1) rfl (exec_ldx (.slice p1 m c1) (Mem.cell hm 1 rfl 2) rfl ag_terms) ?_))
    | ((with_reducible refine at_opG (some 22) (.load 22 (.tmp 21)) (some (12, true)) ?_); go_must (refine wpl_execG (.slice p2 m2 c2) rfl (exec_ldx (.slice p2 m2 c2) (Mem.cell hm 0 rfl 2) rfl ag_terms) ?_)))
  go_ret
  exact ⟨rfl, hm.below⟩
set_option maxHeartbeats 2000000 in
set_option maxRecDepth 100000 in
theorem alike_n (t u : Tm) (m m2 : Nat) (p1 p2 : Option Addr) (c1 c2 : Nat) (w : World) (hk : t.k = u.k) (hn : ¬ t.n = u.n) :
    Calls Tryd.prog 17 #[.agg (tcs t (.slice p1 m c1)).toArray, .agg (tcs u (.slice p2 m2 c2)).toArray] w fun e w' => e = .returned (.bool false) ∧ Below w.heap.size w w' := by
  have hm := Mem.start w
  have ek : (t.k == u.k) = true := beq_int _ _ hk
  have en : (t.n == u.n) = false := beq_int_no _ _ hn
  clear hk hn
  go_enter Tryd.func17, Tryd.ntmps17
  go_wp2_with (first
    | ((with_reducible refine at_op (some 2) (.box 24 (.tmp 0)) ?_); go_must (refine wpl_box (tcs t (.slice p1 m c1)) rfl hm ?_); clear hm; intro w1 g1 hm)
    | ((with_reducible refine at_op (some 3) (.box 24 (.tmp 1)) ?_); go_must (refine wpl_box (tcs u (.slice p2 m2 c2)) rfl hm ?_); clear hm; intro w2 g2 hm)
    | ((with_reducible refine at_op (some 6) (.load 3 (.tmp 5)) ?_); go_must (refine wpl_execG (.int .i64 t.k) rfl (exec_ldx (.int .i64 t.k) (Mem.cell hm 1 rfl 0) rfl ag_int) ?_))
    | ((with_reducible refine at_op (some 8) (.load 3 (.tmp 7)) ?_); go_must (refine wpl_execG (.int .i64 u.k) rfl (exec_ldx (.int .i64 u.k) (Mem.cell hm 0 rfl 0) rfl ag_int) ?_))
    | ((with_reducible refine at_opG (some 12) (.load 3 (.tmp 11)) (some (5, true)) ?_); go_must (refine wpl_execG (.int .i64 t.n) rfl (exec_ldx (.int .i64 t.n) (Mem.cell hm 1 rfl 1) rfl ag_int) ?_))
    | ((with_reducible refine at_opG (some 14) (.load 3 (.tmp 13)) (some (5, true)) ?_); go_must (refine wpl_execG (.int .i64 u.n) rfl (exec_ldx (.int .i64 u.n) (Mem.cell hm 0 rfl 1) rfl ag_int) ?_))
    | ((with_reducible refine at_opG (some 19) (.load 22 (.tmp 18)) (some (12, true)) ?_); go_must (refine wpl_execG (.slice p1 m c1) rfl (exec_ldx (.slice p1 m c1) (Mem.cell hm 1 rfl 2) rfl ag_terms) ?_))
    | ((with_reducible refine at_opG (some 22) (.load 22 (.tmp 21)) (some (12, true)) ?_); go_must (refine wpl_execG (.slice p2 m2 c2) rfl (exec_ldx (.slice p2 m2 c2) (Mem.cell hm 0 rfl 2) rfl ag_terms) ?_)))
  go_ret
  exact ⟨rfl, hm.below⟩
set_option maxHeartbeats 2000000 in
set_option maxRecDepth 100000 in
theorem alike_l (t u : Tm) (m m2 : Nat) (p1 p2 : Option Addr) (c1 c2 : Nat) (w : World) (hk : t.k = u.k) (hn : t.n = u.n) (hl : ¬ m = m2) :
    Calls Tryd.prog 17 #[.agg (tcs t (.slice p1 m c1)).toArray, .agg (tcs u (.slice p2 m2 c2)).toArray] w fun e w' => e = .returned (.bool false) ∧ Below w.heap.size w w' := by
  have hm := Mem.start w
  have ek : (t.k == u.k) = true := beq_int _ _ hk
  have en : (t.n == u.n) = true := beq_int _ _ hn
  have el : ((m : Int) == (m2 : Int)) = false := beq_int_no _ _ (by omega)
  clear hk hn hl
  go_enter Tryd.func17, Tryd.ntmps17
  go_wp2_with (first
    | ((with_reducible refine at_op (some 2) (.box 24 (.tmp 0)) ?_); go_must (refine wpl_box (tcs t (.slice p1 m c1)) rfl hm ?_); clear hm; intro w1 g1 hm)
    | ((with_reducible refine at_op (some 3) (.box 24 (.tmp 1)) ?_); go_must (refine wpl_box (tcs u (.slice p2 m2 c2)) rfl hm ?_); clear hm; intro w2 g2 hm)
    | ((with_reducible refine at_op (some 6) (.load 3 (.tmp 5)) ?_); go_must (refine wpl_execG (.int .i64 t.k) rfl (exec_ldx (.int .i64 t.k) (Mem.cell hm 1 rfl 0) rfl ag_int) ?_))
    | ((with_reducible refine at_op (some 8) (.load 3 (.tmp 7)) ?_); go_must (refine wpl_execG (.int .i64 u.k) rfl (exec_ldx (.int .i64 u.k) (Mem.cell hm 0 rfl 0) rfl ag_int) ?_))
    | ((with_reducible refine at_opG (some 12) (.load 3 (.tmp 11)) (some (5, true)) ?_); go_must (refine wpl_execG (.int .i64 t.n) rfl (exec_ldx (.int .i64 t.n) (Mem.cell hm 1 rfl 1) rfl ag_int) ?_))
    | ((with_reducible refine at_opG (some 14) (.load 3 (.tmp 13)) (some (5, true)) ?_); go_must (refine wpl_execG (.int .i64 u.n) rfl (exec_ldx (.int .i64 u.n) (Mem.cell hm 0 rfl 1) rfl ag_int) ?_))
    | ((with_reducible refine at_opG (some 19) (.load 22 (.tmp 18)) (some (12, true)) ?_); go_must (refine wpl_execG (.slice p1 m c1) rfl (exec_ldx (.slice p1 m c1) (Mem.cell hm 1 rfl 2) rfl ag_terms) ?_))
    | ((with_reducible refine at_opG (some 22) (.load 22 (.tmp 21)) (some (12, true)) ?_); go_must (refine wpl_execG (.slice p2 m2 c2) rfl (exec_ldx (.slice p2 m2 c2) (Mem.cell hm 0 rfl 2) rfl ag_terms) ?_)))
  go_ret
  exact ⟨rfl, hm.below⟩
set_option maxHeartbeats 2000000 in
set_option maxRecDepth 100000 in
theorem alike_y (t u : Tm) (m m2 : Nat) (p1 p2 : Option Addr) (c1 c2 : Nat) (w : World) (hk : t.k = u.k) (hn : t.n = u.n) (hl : m = m2) :
    Calls Tryd.prog 17 #[.agg (tcs t (.slice p1 m c1)).toArray, .agg (tcs u (.slice p2 m2 c2)).toArray] w fun e w' => e = .returned (.bool true) ∧ Below w.heap.size w w' := by
  have hm := Mem.start w
  have ek : (t.k == u.k) = true := beq_int _ _ hk
  have en : (t.n == u.n) = true := beq_int _ _ hn
  have el : ((m : Int) == (m2 : Int)) = true := beq_int _ _ (by omega)
  clear hk hn hl
  go_enter Tryd.func17, Tryd.ntmps17
  go_wp2_with (first
    | ((with_reducible refine at_op (some 2) (.box 24 (.tmp 0)) ?_); go_must (refine wpl_box (tcs t (.slice p1 m c1)) rfl hm ?_); clear hm; intro w1 g1 hm)
    | ((with_reducible refine at_op (some 3) (.box 24 (.tmp 1)) ?_); go_must (refine wpl_box (tcs u (.slice p2 m2 c2)) rfl hm ?_); clear hm; intro w2 g2 hm)
    | ((with_reducible refine at_op (some 6) (.load 3 (.tmp 5)) ?_); go_must (refine wpl_execG (.int .i64 t.k) rfl (exec_ldx (.int .i64 t.k) (Mem.cell hm 1 rfl 0) rfl ag_int) ?_))
    | ((with_reducible refine at_op (some 8) (.load 3 (.tmp 7)) ?_); go_must (refine wpl_execG (.int .i64 u.k) rfl (exec_ldx (.int .i64 u.k) (Mem.cell hm 0 rfl 0) rfl ag_int) ?_))
    | ((with_reducible refine at_opG (some 12) (.load 3 (.tmp 11)) (some (5, true)) ?_); go_must (refine wpl_execG (.int .i64 t.n) rfl (exec_ldx (.int .i64 t.n) (Mem.cell hm 1 rfl 1) rfl ag_int) ?_))
    | ((with_reducible refine at_opG (some 14) (.load 3 (.tmp 13)) (some (5, true)) ?_); go_must (refine wpl_execG (.int .i64 u.n) rfl (exec_ldx (.int .i64 u.n) (Mem.cell hm 0 rfl 1) rfl ag_int) ?_))
    | ((with_reducible refine at_opG (some 19) (.load 22 (.tmp 18)) (some (12, true)) ?_); go_must (refine wpl_execG (.slice p1 m c1) rfl (exec_ldx (.slice p1 m c1) (Mem.cell hm 1 rfl 2) rfl ag_terms) ?_))
    | ((with_reducible refine at_opG (some 22) (.load 22 (.tmp 21)) (some (12, true)) ?_); go_must (refine wpl_execG (.slice p2 m2 c2) rfl (exec_ldx (.slice p2 m2 c2) (Mem.cell hm 0 rfl 2) rfl ag_terms) ?_)))
  go_ret
  exact ⟨rfl, hm.below⟩
set_option maxRecDepth 100000 in
theorem alike_any (t u : Tm) (p1 p2 : Option Addr) (c1 c2 : Nat) (w : World) :
    Calls Tryd.prog 17 #[.agg (tcs t (.slice p1 t.l.length c1)).toArray, .agg (tcs u (.slice p2 u.l.length c2)).toArray] w fun e w' => e = .returned (.bool (decide (t.k = u.k ∧ t.n = u.n ∧ t.l.length = u.l.length))) ∧ Below w.heap.size w w' := by
  by_cases hk : t.k = u.k
  · by_cases hn : t.n = u.n
    · by_cases hl : t.l.length = u.l.length
      · rw [decide_eq_true ⟨hk, hn, hl⟩]; exact alike_y t u _ _ p1 p2 c1 c2 w hk hn hl
      · rw [decide_eq_false (fun h => hl h.2.2)]; exact alike_l t u _ _ p1 p2 c1 c2 w hk hn hl
    · rw [decide_eq_false (fun h => hn h.2.1)]; exact alike_n t u _ _ p1 p2 c1 c2 w hk hn
  · rw [decide_eq_false (fun h => hk h.1)]; exact alike_k t u _ _ p1 p2 c1 c2 w hk
/-- A key: where kids lie, how many. -/
abbrev Ky := Nat × Nat × Nat
def kyc (k : Ky) : List Value := [.pointer (some ⟨k.1, k.2.1, none⟩), .int .i64 (k.2.2 : Int)]
def kyv (k : Ky) : Value := .agg (kyc k).toArray
set_option maxRecDepth 100000 in
theorem info_list : (Tryd.prog.info? 49).map (fun i => (i.zero, i.size)) = some (some (.agg [.pointer none, .int .i64 0].toArray), 2) := by kernel_rfl
set_option maxRecDepth 100000 in
theorem zero_list : ∀ w, (zeroValue 49).run Tryd.prog w = .ok (.agg [.pointer none, .int .i64 0].toArray) w := (zero_of_info info_list).1
set_option maxRecDepth 100000 in
theorem sz_list : (Tryd.prog.info? 49).map (·.size) = some 2 := (zero_of_info info_list).2
set_option maxRecDepth 100000 in
theorem oneKyc (k : Ky) : ∀ v ∈ kyc k, v.oneCell' = true := by
  intro v hv
  simp only [kyc, List.mem_cons, List.not_mem_nil, or_false] at hv
  rcases hv with rfl | rfl <;> rfl
set_option maxHeartbeats 2000000 in
set_option maxRecDepth 100000 in
theorem listOf_any (t : Tm) (m b o c1 : Nat) (w : World) (h0 : 0 < m) :
    Calls Tryd.prog 19 #[.agg (tcs t (.slice (some ⟨b, o, none⟩) m c1)).toArray] w fun e w' => e = .returned (kyv (b, o, m)) ∧ Below w.heap.size w w' := by
  have hm := Mem.start w
  have H0 : Hid (0 < m) := h0
  go_enter Tryd.func19, Tryd.ntmps19
  go_wp2_with (first
    | ((with_reducible refine at_op (some 1) (.box 24 (.tmp 0)) ?_); go_must (refine wpl_box (tcs t (.slice (some ⟨b, o, none⟩) m c1)) rfl hm ?_); clear hm; intro w1 g1 hm)
    | ((with_reducible refine at_op (some 2) (.alloc 49) ?_); go_must (refine wpl_alloc _ zero_list hm ?_); clear hm; intro w2 g2 hm))
  refine wp_ends0 ?_
  refine anyC_start (T := fun W => Mem w [] W [(g2, [.pointer none, .int .i64 0], 49), (g1, tcs t (.slice (some ⟨b, o, none⟩) m c1), 24)]) (T2 := fun _ => True) 7 (by kernel_rfl) hm ?_
  clear hm
  intro wc hT
  refine anyC_pure 0 (v := .pointer (some ⟨g1, 2, none⟩)) rfl (by kernel_rfl) (by kernel_rfl) (by kernel_rfl) rfl rfl (fun W _ => by go_simp) hT ?_
  go_simp
  refine anyC_load 1 (v := .slice (some ⟨b, o, none⟩) m c1) rfl (by kernel_rfl) (by kernel_rfl) (by kernel_rfl) rfl rfl (by kernel_rfl) rfl (fun W hW => exec_ldx (.slice (some ⟨b, o, none⟩) m c1) (Mem.cell hW 1 rfl 2) rfl ag_terms) hT ?_
  go_simp
  refine anyC_pure 2 (v := .pointer (some ⟨b, o + 0 * 3, none⟩)) rfl (by kernel_rfl) (by kernel_rfl) (by kernel_rfl) rfl rfl (fun W _ => exec_ixT 0 rfl rfl rfl H0.out) hT ?_
  go_simp
  refine anyC_pure 3 (v := .pointer (some ⟨g1, 2, none⟩)) rfl (by kernel_rfl) (by kernel_rfl) (by kernel_rfl) rfl rfl (fun W _ => by go_simp) hT ?_
  go_simp
  refine anyC_load 4 (v := .slice (some ⟨b, o, none⟩) m c1) rfl (by kernel_rfl) (by kernel_rfl) (by kernel_rfl) rfl rfl (by kernel_rfl) rfl (fun W hW => exec_ldx (.slice (some ⟨b, o, none⟩) m c1) (Mem.cell hW 1 rfl 2) rfl ag_terms) hT ?_
  go_simp
  refine anyC_pure 5 (v := .int .i64 (m : Int)) rfl (by kernel_rfl) (by kernel_rfl) (by kernel_rfl) rfl rfl (fun W _ => by go_simp) hT ?_
  go_simp
  refine anyC_pure 6 (v := .agg #[.pointer (some ⟨b, o, none⟩), .int .i64 (m : Int)]) rfl (by kernel_rfl) (by kernel_rfl) (by kernel_rfl) rfl rfl (fun W _ => by go_simp) hT ?_
  go_simp
  refine anyC_turn (by kernel_rfl) rfl rfl ?_
  intro K hK
  refine wpl_stw 0 ([.pointer (some ⟨b, o, none⟩), .int .i64 (m : Int)]) hT rfl rfl rfl 2 sz_list rfl rfl (by intro v hv; simp only [List.mem_cons, List.not_mem_nil, or_false] at hv; rcases hv with rfl | rfl <;> rfl) ?_
  intro w3 hm
  refine wpList_nil ?_
  refine hK _ _ trivial ?_
  clear hK K hT
  refine wpAnyH_done (by kernel_rfl) ?_ _
  simp only [endsIn]
  go_wp2_with fail
  refine ret_cell 0 hm rfl Tryd.results19 rfl _ Tryd.underlying49 rfl 2 sz_list rfl rfl ?_
  exact ⟨rfl, hm.below⟩
end Go.Proofs.YtbiinchmbclmcaaDoor
