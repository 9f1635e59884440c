/- Contracts of now and torn. -/
import Derived.Test.YtbaijhlkkeongaaSecSmall
namespace Go.Proofs.Ytbaijhlkkeongaa
open Go Go.RowKit Go.Maps
set_option maxHeartbeats 1000000 in
set_option maxRecDepth 100000 in
theorem now_pend (g mb : Nat) (kv : Value) (d : Dk) (i : Nat) (x : List Int) (hi : i < d.n) (hp : d.pend i = some x) (w : World) (hd : DkAt w g mb kv d) :
    Calls Try.prog 24 #[.pointer (some ⟨g, 0, none⟩), .int .i64 i] w fun e w' => e = .returned (.agg (u8s x).toArray) ∧ Below w.heap.size w w' := by
  have HXL : Hid ((u8s x).length = 64) := by show _ = _; rw [u8s_length]; exact (hd.ok.pend i x hp).2.1
  have HD : Hid _ := hd
  have hm := Mem.start w
  have hi4 : i ≤ 4000 := by have := hd.ok.n; omega
  have c1 : w.cell? ⟨g, 1, none⟩ = some (.map (some mb)) := by rw [hd.row.cell]; rfl
  have HZ : Hid ((u8s zeroK).length = 64) := by show _ = _; rw [u8s_length]; exact zeroK_length
  have HP : Hid (d.pend i = some x) := hp
  clear hd hp hi c1
  go_enter Try.func24, Try.ntmps24
  go_wp2_with (first
    | ((with_reducible refine at_op (some 4) (.alloc 54) ?_); refine wpl_alloc _ zero_con hm ?_; clear hm; intro w1 g4 hm)
    | ((with_reducible refine at_op (some 11) (.load 45 (.tmp 10)) ?_); refine wpl_ldr 1 (.map (some mb)) (DkAt.row (HD.out.mem hm)) rfl ag_cmap rfl ?_)
    | ((with_reducible refine at_op (some 13) (.lookup 45 (.tmp 11) (.tmp 12) true) ?_); refine wpl_execG (.tuple #[.agg (u8s x).toArray, .bool true]) rfl (exec_lookS (HD.out.mem hm) i hi4 _ HP.out rfl rfl rfl) ?_)
    | ((with_reducible refine at_op (some 5) (.alloc 54) ?_); refine wpl_alloc _ zero_con hm ?_; clear hm; intro w2 g5 hm)
    | ((with_reducible refine at_op none (.store 54 (.tmp 5) (.tmp 14)) ?_); refine wpl_stw 0 (u8s x) hm rfl rfl rfl 64 sz_con (HZ.out) (HXL.out) (u8s_one _) ?_; clear hm; intro w3 hm)
    | ((with_reducible refine at_op (some 17) (.load 54 (.tmp 5)) ?_); refine wpl_ldw 0 hm rfl rfl _ un_con rfl 64 sz_con (HXL.out) ?_)
    | ((with_reducible refine at_op none (.store 54 (.tmp 4) (.tmp 17)) ?_); refine wpl_stw 1 (u8s x) hm rfl rfl rfl 64 sz_con (HZ.out) (HXL.out) (u8s_one _) ?_; clear hm; intro w4 hm))
  exact ret_cell 1 hm rfl Try.results24 rfl _ un_con rfl 64 sz_con HXL.out rfl ⟨rfl, hm.below⟩
set_option maxHeartbeats 1000000 in
set_option maxRecDepth 100000 in
theorem now_kept (g mb : Nat) (kv : Value) (d : Dk) (i : Nat) (hi : i < d.n) (hp : d.pend i = none) (w : World) (hd : DkAt w g mb kv d) :
    Calls Try.prog 24 #[.pointer (some ⟨g, 0, none⟩), .int .i64 i] w fun e w' => e = .returned (.agg (u8s (d.kept i)).toArray) ∧ Below w.heap.size w w' := by
  have HXL : Hid ((u8s (d.kept i)).length = 64) := by show _ = _; rw [u8s_length]; exact hd.ok.kept i hi
  have HD : Hid _ := hd
  have hm := Mem.start w
  have hi4 : i ≤ 4000 := by have := hd.ok.n; omega
  have c1 : w.cell? ⟨g, 1, none⟩ = some (.map (some mb)) := by rw [hd.row.cell]; rfl
  have HZ : Hid ((u8s zeroK).length = 64) := by show _ = _; rw [u8s_length]; exact zeroK_length
  have HP : Hid (d.pend i = none) := hp
  obtain ⟨kb, cap, tl, rfl, hcap, hrk⟩ := hd.kept.some (by omega)
  have HR : Hid (Row w kb (u8s (flatK d.kept d.n) ++ tl) 54) := hrk
  have HKL : Hid (∀ i, i < d.n → (d.kept i).length = 64) := hd.ok.kept
  obtain ⟨n, hn⟩ : ∃ n, n = d.n := ⟨_, rfl⟩
  have HN : Hid (∀ _ : Unit, d.n = n) := fun _ => hn.symm
  rw [← hn] at hi
  have HD' := HD
  rw [← hn] at HD'
  clear hd hp c1 hrk HD hn
  have HD := HD'
  clear HD'
  go_enter Try.func24, Try.ntmps24
  go_wp2_with (first
    | ((with_reducible refine at_op (some 4) (.alloc 54) ?_); refine wpl_alloc _ zero_con hm ?_; clear hm; intro w1 g4 hm)
    | ((with_reducible refine at_op (some 11) (.load 45 (.tmp 10)) ?_); refine wpl_ldr 1 (.map (some mb)) (DkAt.row (HD.out.mem hm)) rfl ag_cmap rfl ?_)
    | ((with_reducible refine at_op (some 13) (.lookup 45 (.tmp 11) (.tmp 12) true) ?_); refine wpl_execG (.tuple #[.agg (u8s zeroK).toArray, .bool false]) rfl (exec_lookN (HD.out.mem hm) i hi4 HP.out rfl rfl rfl) ?_)
    | ((with_reducible refine at_op (some 5) (.alloc 54) ?_); refine wpl_alloc _ zero_con hm ?_; clear hm; intro w2 g5 hm)
    | ((with_reducible refine at_op none (.store 54 (.tmp 5) (.tmp 14)) ?_); refine wpl_stw 0 (u8s zeroK) hm rfl rfl rfl 64 sz_con (HZ.out) (HZ.out) (u8s_one _) ?_; clear hm; intro w3 hm)
    | ((with_reducible refine at_op (some 21) (.load 44 (.tmp 20)) ?_); refine wpl_ldr 0 (.slice (some ⟨kb, 0, none⟩) n cap) (DkAt.row (HD.out.mem hm)) rfl ag_cons rfl ?_)
    | ((with_reducible refine at_op (some 23) (.indexAddr 44 (.tmp 21) (.tmp 22)) ?_); refine wpl_execG (.pointer (some ⟨kb, i * 64, none⟩)) rfl (exec_ixK i rfl rfl rfl hi) ?_)
    | ((with_reducible refine at_op (some 24) (.load 54 (.tmp 23)) ?_); refine wpl_execG (.agg (u8s (d.kept i)).toArray) rfl (exec_ldK i (Row.below' HR.out hm.below) HKL.out (by rw [HN.out ()]; exact hi) rfl) ?_)
    | ((with_reducible refine at_op none (.store 54 (.tmp 4) (.tmp 24)) ?_); refine wpl_stw 1 (u8s (d.kept i)) hm rfl rfl rfl 64 sz_con (HZ.out) (HXL.out) (u8s_one _) ?_; clear hm; intro w4 hm))
  exact ret_cell 1 hm rfl Try.results24 rfl _ un_con rfl 64 sz_con HXL.out rfl ⟨rfl, hm.below⟩
set_option maxRecDepth 100000 in
theorem now_any (g mb : Nat) (kv : Value) (d : Dk) (i : Nat) (hi : i < d.n) (w : World) (hd : DkAt w g mb kv d) :
    Calls Try.prog 24 #[.pointer (some ⟨g, 0, none⟩), .int .i64 i] w fun e w' => e = .returned (.agg (u8s (d.now i)).toArray) ∧ Below w.heap.size w w' := by
  unfold Dk.now
  cases hp : d.pend i with
  | none => exact now_kept g mb kv d i hi hp w hd
  | some x => exact now_pend g mb kv d i x hi hp w hd
set_option maxHeartbeats 1000000 in
set_option maxRecDepth 100000 in
theorem torn_whole (ks ls : List Int) (hk : ks.length = 64) (hl : ls.length = 64) (w : World) :
    Calls Try.prog 28 #[.agg (u8s ks).toArray, .agg (u8s ls).toArray, .int .u8 255] w fun e w' => e = .returned (.agg (u8s (ls.take 64 ++ ks.drop 64)).toArray) ∧ Below w.heap.size w w' := by
  have hm := Mem.start w
  have HZ : Hid ((u8s zeroK).length = 64) := by show _ = _; rw [u8s_length]; exact zeroK_length
  have HKL : Hid ((u8s ks).length = 64) := by show _ = _; rw [u8s_length]; exact hk
  have HLL : Hid ((u8s ls).length = 64) := by show _ = _; rw [u8s_length]; exact hl
  have HTL : Hid ((ls.take 64).length = 64) := by show _ = _; rw [List.length_take]; omega
  obtain ⟨T, hT⟩ : ∃ T, T = ls.take 64 ++ ks.drop 64 := ⟨_, rfl⟩
  have HSP : Hid (splice (u8s ks) 0 (u8s (ls.take 64)) = u8s T) := by
    show _ = _
    rw [hT]
    unfold splice u8s
    rw [List.length_map, HTL.out]
    simp
  have HTT : Hid ((u8s T).length = 64) := by show _ = _; rw [hT, u8s_length, List.length_append, HTL.out, List.length_drop]; omega
  rw [← hT]
  clear hk hl hT
  go_enter Try.func28, Try.ntmps28
  go_wp2_with (first
    | ((with_reducible refine at_op (some 3) (.box 54 (.tmp 0)) ?_); refine wpl_box (u8s ks) rfl hm ?_; clear hm; intro w1 g3 hm)
    | ((with_reducible refine at_op (some 4) (.box 54 (.tmp 1)) ?_); refine wpl_box (u8s ls) rfl hm ?_; clear hm; intro w2 g4 hm)
    | ((with_reducible refine at_op (some 6) (.alloc 54) ?_); refine wpl_alloc _ zero_con hm ?_; clear hm; intro w3 g6 hm))
  refine wp_tail 4 (by kernel_rfl) (by kernel_rfl) hm ?_
  clear hm
  intro w4 hm
  simp only [List.take_succ_cons, List.take_zero, List.drop_succ_cons, List.drop_zero]
  still_step
  refine wps_sla 64 un_con sz_u8 0 64 (by omega) (by omega) rfl (Or.inr ⟨rfl, rfl⟩) (Or.inl (int_at _ rfl rfl)) ?_
  still_step
  refine wps_sla 64 un_con sz_u8 0 64 (by omega) (by omega) rfl (Or.inr ⟨rfl, rfl⟩) (Or.inl (int_at _ rfl rfl)) ?_
  refine wpStill_nil ?_
  go_wp2_with (first
    | ((with_reducible refine at_op (some 17) (.call { callee := .builtin .copy, args := #[.tmp 14, .tmp 16], argTypes := #[28, 28] }) ?_); go_must (refine wpl_copyN 2 0 64 64 ⟨g4, 0, none⟩ 64 64 (u8s (ls.take 64)) 64 (u8s T) hm rfl rfl rfl _ un_bs sz_u8 (by rw [u8s_length]; exact HTL.out) (Nat.min_self 64).symm (by exact ((Seg.row (hm.get 1 rfl)).take 64).src) (by rw [HKL.out]; omega) (u8s_one _) HSP.out ?_); clear hm; intro w5 hm)
    | ((with_reducible refine at_op (some 18) (.load 54 (.tmp 3)) ?_); refine wpl_ldw 2 hm rfl rfl _ un_con rfl 64 sz_con (HTT.out) ?_)
    | ((with_reducible refine at_op none (.store 54 (.tmp 6) (.tmp 18)) ?_); refine wpl_stw 0 (u8s T) hm rfl rfl rfl 64 sz_con (HZ.out) (HTT.out) (u8s_one _) ?_; clear hm; intro w6 hm))
  exact ret_cell 0 hm rfl Try.results28 rfl _ un_con rfl 64 sz_con HTT.out rfl ⟨rfl, hm.below⟩
set_option maxHeartbeats 1000000 in
set_option maxRecDepth 100000 in
theorem torn_part (ks ls : List Int) (c : Int) (m : Nat) (h255 : c ≠ 255) (hcm : 0 ≤ c ∧ c < 256) (hm64 : m < 64) (hc : c % 64 = (m : Int)) (hk : ks.length = 64) (hl : ls.length = 64) (w : World) :
    Calls Try.prog 28 #[.agg (u8s ks).toArray, .agg (u8s ls).toArray, .int .u8 c] w fun e w' => e = .returned (.agg (u8s (ls.take m ++ ks.drop m)).toArray) ∧ Below w.heap.size w w' := by
  have hm := Mem.start w
  have HZ : Hid ((u8s zeroK).length = 64) := by show _ = _; rw [u8s_length]; exact zeroK_length
  have HKL : Hid ((u8s ks).length = 64) := by show _ = _; rw [u8s_length]; exact hk
  have HLL : Hid ((u8s ls).length = 64) := by show _ = _; rw [u8s_length]; exact hl
  have HTL : Hid ((ls.take m).length = m) := by show _ = _; rw [List.length_take]; omega
  obtain ⟨T, hT⟩ : ∃ T, T = ls.take m ++ ks.drop m := ⟨_, rfl⟩
  have HSP : Hid (splice (u8s ks) 0 (u8s (ls.take m)) = u8s T) := by
    show _ = _
    rw [hT]
    unfold splice u8s
    rw [List.length_map, HTL.out]
    simp
  have HTT : Hid ((u8s T).length = 64) := by show _ = _; rw [hT, u8s_length, List.length_append, HTL.out, List.length_drop]; omega
  rw [← hT]
  have hne : (c == 255) = false := by simpa using h255
  obtain ⟨hc0, hc1⟩ := hcm
  have HC : Hid (c % 64 = ((0 + m : Nat) : Int)) := by show _ = _; rw [hc]; simp
  clear hc
  clear hk hl hT
  go_enter Try.func28, Try.ntmps28
  go_wp2_with (first
    | ((with_reducible refine at_op (some 3) (.box 54 (.tmp 0)) ?_); refine wpl_box (u8s ks) rfl hm ?_; clear hm; intro w1 g3 hm)
    | ((with_reducible refine at_op (some 4) (.box 54 (.tmp 1)) ?_); refine wpl_box (u8s ls) rfl hm ?_; clear hm; intro w2 g4 hm)
    | ((with_reducible refine at_op (some 6) (.alloc 54) ?_); refine wpl_alloc _ zero_con hm ?_; clear hm; intro w3 g6 hm))
  refine wp_tail 4 (by kernel_rfl) (by kernel_rfl) hm ?_
  clear hm
  intro w4 hm
  simp only [List.take_succ_cons, List.take_zero, List.drop_succ_cons, List.drop_zero]
  still_step
  refine wps_sla 64 un_con sz_u8 0 m (by omega) (by omega) rfl (Or.inr ⟨rfl, rfl⟩) (Or.inl (int_at _ rfl HC.out)) ?_
  still_step
  refine wps_sla 64 un_con sz_u8 0 m (by omega) (by omega) rfl (Or.inr ⟨rfl, rfl⟩) (Or.inl (int_at _ rfl HC.out)) ?_
  refine wpStill_nil ?_
  go_wp2_with (first
    | ((with_reducible refine at_op (some 17) (.call { callee := .builtin .copy, args := #[.tmp 14, .tmp 16], argTypes := #[28, 28] }) ?_); go_must (refine wpl_copyN 2 0 m 64 ⟨g4, 0, none⟩ m 64 (u8s (ls.take m)) m (u8s T) hm rfl rfl rfl _ un_bs sz_u8 (by rw [u8s_length]; exact HTL.out) (Nat.min_self m).symm (by exact ((Seg.row (hm.get 1 rfl)).take m).src) (by rw [HKL.out]; omega) (u8s_one _) HSP.out ?_); clear hm; intro w5 hm)
    | ((with_reducible refine at_op (some 18) (.load 54 (.tmp 3)) ?_); refine wpl_ldw 2 hm rfl rfl _ un_con rfl 64 sz_con (HTT.out) ?_)
    | ((with_reducible refine at_op none (.store 54 (.tmp 6) (.tmp 18)) ?_); refine wpl_stw 0 (u8s T) hm rfl rfl rfl 64 sz_con (HZ.out) (HTT.out) (u8s_one _) ?_; clear hm; intro w6 hm))
  exact ret_cell 0 hm rfl Try.results28 rfl _ un_con rfl 64 sz_con HTT.out rfl ⟨rfl, hm.below⟩
set_option maxRecDepth 100000 in
theorem torn_any (ks ls : List Int) (c : Int) (hc : 0 ≤ c ∧ c < 256) (hk : ks.length = 64) (hl : ls.length = 64) (w : World) :
    Calls Try.prog 28 #[.agg (u8s ks).toArray, .agg (u8s ls).toArray, .int .u8 c] w fun e w' => e = .returned (.agg (u8s (tornOf ks ls c)).toArray) ∧ Below w.heap.size w w' := by
  unfold tornOf spared
  by_cases h : c = 255
  · subst h
    rw [if_pos rfl]
    exact torn_whole ks ls hk hl w
  · rw [if_neg h]
    exact torn_part ks ls c _ h hc (by omega) (by omega) hk hl w
end Go.Proofs.Ytbaijhlkkeongaa
