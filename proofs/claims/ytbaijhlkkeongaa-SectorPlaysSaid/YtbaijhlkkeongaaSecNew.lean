/- Contracts of New, Power, Read. -/
import Derived.Test.YtbaijhlkkeongaaSecMore
namespace Go.Proofs.Ytbaijhlkkeongaa
open Go Go.RowKit Go.Maps
set_option maxHeartbeats 1000000 in
set_option maxRecDepth 100000 in
theorem new_some (k : Nat) (hk : k ≤ 4000) (w : World) :
    Calls Try.prog 5 #[.int .i64 (k : Int)] w fun e w' => ∃ g, e = .returned (.pointer (some ⟨g, 0, none⟩)) ∧ ∃ mb kv, DkAt w' g mb kv (Dk.new (k)) ∧ (∀ q ∈ foot g mb kv, w.heap.size ≤ q) ∧ Below w.heap.size w w' := by
  have hm := Mem.start w
  have h1 : ¬ ((0 : Int) > (k : Int)) := by omega
  have h2 : ¬ ((4000 : Int) < (k : Int)) := by omega
  go_enter Try.func5, Try.ntmps5
  go_wp2_with (first
    | ((with_reducible refine at_op (some 6) (.makeSlice 44 (.tmp 5) (.tmp 5)) ?_); go_must (refine wpl_mkRows (k) rfl (by first | rfl | omega) rfl (by first | rfl | omega) (by omega) hm ?_); clear hm; intro w1 kb hm)
    | ((with_reducible refine at_op (some 7) (.makeMap 45 none) ?_); go_must (refine wpl_mkMap hm ?_); intro w2 mb hm2 hmap hmb; have hkm : w.heap.size ≤ mb := Nat.le_trans hm.size hmb; clear hm hmb; have hm := hm2; clear hm2)
    | ((with_reducible refine at_op (some 8) (.build 47 #[(0, .tmp 6), (1, .tmp 7)]) ?_); go_must (refine wpl_build (drow (.slice (some ⟨kb, 0, none⟩) (k) (k)) mb 0 0 false) _ rfl (by kernel_rfl) ?_))
    | ((with_reducible refine at_op (some 9) (.box 47 (.tmp 8)) ?_); go_must (refine wpl_boxB (drow (.slice (some ⟨kb, 0, none⟩) (k) (k)) mb 0 0 false) rfl hm ?_); intro w3 g hb3 hm3; have hmap3 := (hb3.block mb (Array.getElem?_eq_some_iff.1 hmap).1).trans hmap; clear hm hmap hb3; have hm := hm3; clear hm3))
  go_ret
  refine ⟨g, rfl, mb, .slice (some ⟨kb, 0, none⟩) (k) (k), ⟨Dk.new_ok _ (by omega), hm.get 0 rfl, ⟨_, _, rfl, Nat.le_refl _, fun _ => ⟨kb, [], rfl, by rw [List.append_nil]; exact hm.get 1 rfl⟩⟩, ⟨0, _, own_noneV hmap3, PM.none⟩⟩, ?_, hm.below⟩
  intro q hq
  have h1 := hm.fresh _ (List.mem_cons_self ..)
  have h2 := hm.tail.fresh _ (List.mem_cons_self ..)
  simp only [List.not_mem_nil, false_or] at h1 h2
  simp only [foot, kbOf, List.mem_cons] at hq
  rcases hq with rfl | rfl | hq
  · exact h1
  · exact hkm
  · split at hq
    · cases hq
    · simp only [List.mem_cons, List.not_mem_nil, or_false] at hq
      subst hq
      exact h2
set_option maxHeartbeats 1000000 in
set_option maxRecDepth 100000 in
theorem new_none (n : Int) (hn : n < 0) (w : World) :
    Calls Try.prog 5 #[.int .i64 n] w fun e w' => ∃ g, e = .returned (.pointer (some ⟨g, 0, none⟩)) ∧ ∃ mb kv, DkAt w' g mb kv (Dk.new (0)) ∧ (∀ q ∈ foot g mb kv, w.heap.size ≤ q) ∧ Below w.heap.size w w' := by
  have hm := Mem.start w
  have h1 : (0 : Int) > n := by omega
  go_enter Try.func5, Try.ntmps5
  go_wp2_with (first
    | ((with_reducible refine at_op (some 6) (.makeSlice 44 (.tmp 5) (.tmp 5)) ?_); go_must (refine wpl_mkRows (0) rfl (by first | rfl | omega) rfl (by first | rfl | omega) (by omega) hm ?_); clear hm; intro w1 kb hm)
    | ((with_reducible refine at_op (some 7) (.makeMap 45 none) ?_); go_must (refine wpl_mkMap hm ?_); intro w2 mb hm2 hmap hmb; have hkm : w.heap.size ≤ mb := Nat.le_trans hm.size hmb; clear hm hmb; have hm := hm2; clear hm2)
    | ((with_reducible refine at_op (some 8) (.build 47 #[(0, .tmp 6), (1, .tmp 7)]) ?_); go_must (refine wpl_build (drow (.slice (some ⟨kb, 0, none⟩) (0) (0)) mb 0 0 false) _ rfl (by kernel_rfl) ?_))
    | ((with_reducible refine at_op (some 9) (.box 47 (.tmp 8)) ?_); go_must (refine wpl_boxB (drow (.slice (some ⟨kb, 0, none⟩) (0) (0)) mb 0 0 false) rfl hm ?_); intro w3 g hb3 hm3; have hmap3 := (hb3.block mb (Array.getElem?_eq_some_iff.1 hmap).1).trans hmap; clear hm hmap hb3; have hm := hm3; clear hm3))
  go_ret
  refine ⟨g, rfl, mb, .slice (some ⟨kb, 0, none⟩) (0) (0), ⟨Dk.new_ok _ (by omega), hm.get 0 rfl, ⟨_, _, rfl, Nat.le_refl _, fun _ => ⟨kb, [], rfl, by rw [List.append_nil]; exact hm.get 1 rfl⟩⟩, ⟨0, _, own_noneV hmap3, PM.none⟩⟩, ?_, hm.below⟩
  intro q hq
  have h1 := hm.fresh _ (List.mem_cons_self ..)
  have h2 := hm.tail.fresh _ (List.mem_cons_self ..)
  simp only [List.not_mem_nil, false_or] at h1 h2
  simp only [foot, kbOf, List.mem_cons] at hq
  rcases hq with rfl | rfl | hq
  · exact h1
  · exact hkm
  · split at hq
    · cases hq
    · simp only [List.mem_cons, List.not_mem_nil, or_false] at hq
      subst hq
      exact h2
set_option maxHeartbeats 1000000 in
set_option maxRecDepth 100000 in
theorem new_many (n : Int) (hn : 4000 < n) (w : World) :
    Calls Try.prog 5 #[.int .i64 n] w fun e w' => ∃ g, e = .returned (.pointer (some ⟨g, 0, none⟩)) ∧ ∃ mb kv, DkAt w' g mb kv (Dk.new (4000)) ∧ (∀ q ∈ foot g mb kv, w.heap.size ≤ q) ∧ Below w.heap.size w w' := by
  have hm := Mem.start w
  have h1 : ¬ ((0 : Int) > n) := by omega
  have h2 : (4000 : Int) < n := by omega
  go_enter Try.func5, Try.ntmps5
  go_wp2_with (first
    | ((with_reducible refine at_op (some 6) (.makeSlice 44 (.tmp 5) (.tmp 5)) ?_); go_must (refine wpl_mkRows (4000) rfl (by first | rfl | omega) rfl (by first | rfl | omega) (by omega) hm ?_); clear hm; intro w1 kb hm)
    | ((with_reducible refine at_op (some 7) (.makeMap 45 none) ?_); go_must (refine wpl_mkMap hm ?_); intro w2 mb hm2 hmap hmb; have hkm : w.heap.size ≤ mb := Nat.le_trans hm.size hmb; clear hm hmb; have hm := hm2; clear hm2)
    | ((with_reducible refine at_op (some 8) (.build 47 #[(0, .tmp 6), (1, .tmp 7)]) ?_); go_must (refine wpl_build (drow (.slice (some ⟨kb, 0, none⟩) (4000) (4000)) mb 0 0 false) _ rfl (by kernel_rfl) ?_))
    | ((with_reducible refine at_op (some 9) (.box 47 (.tmp 8)) ?_); go_must (refine wpl_boxB (drow (.slice (some ⟨kb, 0, none⟩) (4000) (4000)) mb 0 0 false) rfl hm ?_); intro w3 g hb3 hm3; have hmap3 := (hb3.block mb (Array.getElem?_eq_some_iff.1 hmap).1).trans hmap; clear hm hmap hb3; have hm := hm3; clear hm3))
  go_ret
  refine ⟨g, rfl, mb, .slice (some ⟨kb, 0, none⟩) (4000) (4000), ⟨Dk.new_ok _ (by omega), hm.get 0 rfl, ⟨_, _, rfl, Nat.le_refl _, fun _ => ⟨kb, [], rfl, by rw [List.append_nil]; exact hm.get 1 rfl⟩⟩, ⟨0, _, own_noneV hmap3, PM.none⟩⟩, ?_, hm.below⟩
  intro q hq
  have h1 := hm.fresh _ (List.mem_cons_self ..)
  have h2 := hm.tail.fresh _ (List.mem_cons_self ..)
  simp only [List.not_mem_nil, false_or] at h1 h2
  simp only [foot, kbOf, List.mem_cons] at hq
  rcases hq with rfl | rfl | hq
  · exact h1
  · exact hkm
  · split at hq
    · cases hq
    · simp only [List.mem_cons, List.not_mem_nil, or_false] at hq
      subst hq
      exact h2
def clampK (n : Int) : Nat := if n < 0 then 0 else if 4000 < n then 4000 else n.toNat
set_option maxRecDepth 100000 in
theorem new_any (n : Int) (w : World) :
    Calls Try.prog 5 #[.int .i64 n] w fun e w' => ∃ g, e = .returned (.pointer (some ⟨g, 0, none⟩)) ∧ ∃ mb kv, DkAt w' g mb kv (Dk.new (clampK n)) ∧ (∀ q ∈ foot g mb kv, w.heap.size ≤ q) ∧ Below w.heap.size w w' := by
  unfold clampK
  by_cases h0 : n < 0
  · rw [if_pos h0]
    exact new_none n h0 w
  · rw [if_neg h0]
    by_cases h1 : 4000 < n
    · rw [if_pos h1]
      exact new_many n h1 w
    · rw [if_neg h1]
      obtain ⟨k, rfl⟩ : ∃ k : Nat, n = (k : Int) := ⟨n.toNat, by omega⟩
      exact new_some k (by omega) w
set_option maxHeartbeats 1000000 in
set_option maxRecDepth 100000 in
theorem power_neg (g mb : Nat) (kv : Value) (s l a : Int) (ha : 0 > a) (w : World) (hr : Row w g (drow kv mb s l false) 47) :
    Calls Try.prog 11 #[.pointer (some ⟨g, 0, none⟩), .int .i64 a] w fun e w' => e = .returned (.tuple #[]) ∧ Row w' g (drow kv mb s 0 false) 47 ∧ Upd g w w' := by
  have h1 : (0 : Int) > a := ha
  have hm := Mem.enter hr
  clear hr
  go_enter Try.func11, Try.ntmps11
  go_wp2_with (first
    | ((with_reducible refine at_op (some 7) (.load 4 (.tmp 6)) ?_); refine wpl_ldc 0 4 (.bool false) hm rfl rfl ag_bool (rfl) ?_)
    | ((with_reducible refine at_op none (.store 3 (.tmp 13) (.tmp 11)) ?_); refine wpl_stc 0 3 (.int .i64 0) hm rfl (rfl) rfl sz_int (by show _ < 5; omega) rfl rfl ?_; clear hm; intro w1 hm; replace hm : Mem w [g] _ [(g, drow kv mb s 0 false, 47)] := hm))
  first | go_ret | go_end0
  exact ⟨rfl, hm.get 0 rfl, hm.toUpd⟩
set_option maxHeartbeats 1000000 in
set_option maxRecDepth 100000 in
theorem power_pos (g mb : Nat) (kv : Value) (s l a : Int) (ha : ¬ 0 > a) (w : World) (hr : Row w g (drow kv mb s l false) 47) :
    Calls Try.prog 11 #[.pointer (some ⟨g, 0, none⟩), .int .i64 a] w fun e w' => e = .returned (.tuple #[]) ∧ Row w' g (drow kv mb s a false) 47 ∧ Upd g w w' := by
  have h1 : ¬ ((0 : Int) > a) := ha
  have hm := Mem.enter hr
  clear hr
  go_enter Try.func11, Try.ntmps11
  go_wp2_with (first
    | ((with_reducible refine at_op (some 7) (.load 4 (.tmp 6)) ?_); refine wpl_ldc 0 4 (.bool false) hm rfl rfl ag_bool (rfl) ?_)
    | ((with_reducible refine at_op none (.store 3 (.tmp 13) (.tmp 11)) ?_); refine wpl_stc 0 3 (.int .i64 a) hm rfl (rfl) rfl sz_int (by show _ < 5; omega) rfl rfl ?_; clear hm; intro w1 hm; replace hm : Mem w [g] _ [(g, drow kv mb s a false, 47)] := hm))
  first | go_ret | go_end0
  exact ⟨rfl, hm.get 0 rfl, hm.toUpd⟩
set_option maxHeartbeats 1000000 in
set_option maxRecDepth 100000 in
theorem power_off (g mb : Nat) (kv : Value) (s l a : Int) (w : World) (hr : Row w g (drow kv mb s l true) 47) :
    Calls Try.prog 11 #[.pointer (some ⟨g, 0, none⟩), .int .i64 a] w fun e w' => e = .returned (.tuple #[]) ∧ w' = w := by
  have hc : w.cell? ⟨g, 4, none⟩ = some (.bool true) := by rw [hr.cell]; rfl
  clear hr
  go_enter Try.func11, Try.ntmps11
  go_wp2
  first | go_ret | go_end0
  exact ⟨rfl, rfl⟩
set_option maxRecDepth 100000 in
theorem power_any (g mb : Nat) (kv : Value) (d : Dk) (a : Int) (w : World) (hd : DkAt w g mb kv d) :
    Calls Try.prog 11 #[.pointer (some ⟨g, 0, none⟩), .int .i64 a] w fun e w' => e = .returned (.tuple #[]) ∧ DkAt w' g mb kv (d.power a) ∧ UpdS (foot g mb kv) w w' := by
  have hr := hd.row
  unfold Dk.power
  obtain ⟨n, kept, pend, s, l, o⟩ := d
  simp only at hr
  cases o with
  | true =>
    rw [if_pos rfl]
    refine (power_off g mb kv s l a w hr).mono ?_
    rintro e w' ⟨rfl, hw⟩
    subst hw
    exact ⟨rfl, hd, UpdS.refl _ _⟩
  | false =>
    rw [if_neg (by simp)]
    by_cases h : 0 > a
    · refine (power_neg g mb kv s l a h w hr).mono ?_
      rintro e w' ⟨rfl, h1, h2⟩
      rw [show max a 0 = 0 by omega]
      exact ⟨rfl, hd.turn h2 h1 rfl rfl rfl, UpdS.of_upd h2 (foot_g ..)⟩
    · refine (power_pos g mb kv s l a h w hr).mono ?_
      rintro e w' ⟨rfl, h1, h2⟩
      rw [show max a 0 = a by omega]
      exact ⟨rfl, hd.turn h2 h1 rfl rfl rfl, UpdS.of_upd h2 (foot_g ..)⟩
set_option maxHeartbeats 1000000 in
set_option maxRecDepth 100000 in
theorem read_off (g mb : Nat) (kv : Value) (d : Dk) (i : Int) (ho : d.off = true) (w : World) (hd : DkAt w g mb kv d) :
    Calls Try.prog 20 #[.pointer (some ⟨g, 0, none⟩), .int .i64 i] w fun e w' => e = .returned (.tuple #[.slice none 0 0, .int .i64 61]) ∧ w' = w := by
  have c4 : w.cell? ⟨g, 4, none⟩ = some (.bool d.off) := by rw [hd.row.cell]; rfl
  rw [ho] at c4
  clear hd ho
  go_enter Try.func20, Try.ntmps20
  go_wp2
  go_ret2
  exact ⟨rfl, rfl⟩
set_option maxHeartbeats 1000000 in
set_option maxRecDepth 100000 in
theorem read_bad (g mb : Nat) (kv : Value) (d : Dk) (i : Int) (ho : d.off = false) (hh : d.has i = false) (w : World) (hd : DkAt w g mb kv d) :
    Calls Try.prog 20 #[.pointer (some ⟨g, 0, none⟩), .int .i64 i] w fun e w' => e = .returned (.tuple #[.slice none 0 0, .int .i64 60]) ∧ w' = w := by
  have c4 : w.cell? ⟨g, 4, none⟩ = some (.bool d.off) := by rw [hd.row.cell]; rfl
  rw [ho] at c4
  have HD : Hid _ := hd
  have HH : Hid (d.has i = false) := hh
  clear hd ho hh
  go_enter Try.func20, Try.ntmps20
  go_wp2_with (first
    | (go_at_call 23; refine (has_any g mb kv d i _ HD.out).mono ?_; rintro e w1 ⟨he, hw⟩; rw [HH.out] at he; subst he; replace hw := hw.symm; subst hw))
  go_ret2
  exact ⟨rfl, rfl⟩
set_option maxHeartbeats 1000000 in
set_option maxRecDepth 100000 in
theorem read_good (g mb : Nat) (kv : Value) (d : Dk) (i : Nat) (ho : d.off = false) (hi : i < d.n) (w : World) (hd : DkAt w g mb kv d) :
    Calls Try.prog 20 #[.pointer (some ⟨g, 0, none⟩), .int .i64 i] w fun e w' => ∃ q, e = .returned (.tuple #[.slice (some ⟨q, 0, none⟩) 64 64, .int .i64 0]) ∧ w.heap.size ≤ q ∧ Row w' q (u8s (d.now i)) 54 ∧ Below w.heap.size w w' := by
  have c4 : w.cell? ⟨g, 4, none⟩ = some (.bool d.off) := by rw [hd.row.cell]; rfl
  rw [ho] at c4
  have hm := Mem.start w
  have HD : Hid _ := hd
  have HH : Hid (d.has i = true) := by show _ = _; simp [Dk.has]; omega
  have HI : Hid (i < d.n) := hi
  have HZ : Hid ((u8s zeroK).length = 64) := by show _ = _; rw [u8s_length]; exact zeroK_length
  have HL : Hid ((u8s (d.now i)).length = 64) := by show _ = _; rw [u8s_length]; exact hd.ok.now hi
  clear hd ho hi
  go_enter Try.func20, Try.ntmps20
  go_wp2_with (first
    | (go_at_call 23; refine (has_any g mb kv d i _ HD.out).mono ?_; rintro e w1 ⟨he, hw⟩; rw [HH.out] at he; subst he; replace hw := hw.symm; subst hw)
    | (go_at_call 24; refine (now_any g mb kv d i HI.out _ (HD.out.mem hm)).mono ?_; rintro e w2 ⟨he, hb⟩; subst he; replace hm := hm.call hb; clear hb)
    | ((with_reducible refine at_op (some 6) (.alloc 54) ?_); refine wpl_alloc _ zero_con hm ?_; clear hm; intro w3 q hm)
    | ((with_reducible refine at_op none (.store 54 (.tmp 6) (.tmp 17)) ?_); refine wpl_stw 0 (u8s (d.now i)) hm rfl rfl rfl 64 sz_con (HZ.out) (HL.out) (u8s_one _) ?_; clear hm; intro w4 hm)
    | ((with_reducible refine at_op (some 18) (.slice 54 (.tmp 6) none none none) ?_); refine wpl_sla 64 un_con sz_u8 0 64 (by omega) (by omega) rfl (Or.inr ⟨rfl, rfl⟩) (Or.inr ⟨rfl, rfl⟩) ?_))
  go_ret2
  have hf := hm.fresh _ (List.mem_cons_self ..)
  exact ⟨q, rfl, by simpa using hf, hm.get 0 rfl, hm.below⟩
end Go.Proofs.Ytbaijhlkkeongaa
