/- Contracts of the smaller methods of a disk of sectors. -/
import Derived.Test.YtbaijhlkkeongaaSecLaws
namespace Go.Proofs.Ytbaijhlkkeongaa
open Go Go.RowKit Go.Maps
set_option maxHeartbeats 1000000 in
set_option maxRecDepth 100000 in
theorem len_any (g mb : Nat) (kv : Value) (d : Dk) (w : World) (hd : DkAt w g mb kv d) :
    Calls Try.prog 19 #[.pointer (some ⟨g, 0, none⟩)] w fun e w' => e = .returned (.int .i64 d.n) ∧ w' = w := by
  obtain ⟨p, cap, hk⟩ := hd.kept.slice
  have hc : w.cell? ⟨g, 0, none⟩ = some (.slice p d.n cap) := by rw [hd.row.cell, hk]; rfl
  clear hd hk
  go_enter Try.func19, Try.ntmps19
  go_wp2
  go_ret
  exact ⟨rfl, rfl⟩
set_option maxHeartbeats 1000000 in
set_option maxRecDepth 100000 in
theorem steps_any (g mb : Nat) (kv : Value) (d : Dk) (w : World) (hd : DkAt w g mb kv d) :
    Calls Try.prog 21 #[.pointer (some ⟨g, 0, none⟩)] w fun e w' => e = .returned (.int .i64 d.steps) ∧ w' = w := by
  have hc : w.cell? ⟨g, 2, none⟩ = some (.int .i64 d.steps) := by rw [hd.row.cell]; rfl
  clear hd
  go_enter Try.func21, Try.ntmps21
  go_wp2
  go_ret
  exact ⟨rfl, rfl⟩
set_option maxHeartbeats 1000000 in
set_option maxRecDepth 100000 in
theorem has_any (g mb : Nat) (kv : Value) (d : Dk) (i : Int) (w : World) (hd : DkAt w g mb kv d) :
    Calls Try.prog 23 #[.pointer (some ⟨g, 0, none⟩), .int .i64 i] w fun e w' => e = .returned (.bool (d.has i)) ∧ w' = w := by
  obtain ⟨p, cap, hk⟩ := hd.kept.slice
  have hc : w.cell? ⟨g, 0, none⟩ = some (.slice p d.n cap) := by rw [hd.row.cell, hk]; rfl
  unfold Dk.has
  obtain ⟨n, hn⟩ : ∃ n, n = d.n := ⟨_, rfl⟩
  rw [← hn] at hc ⊢
  clear hd hk hn
  by_cases h0 : 0 ≤ i
  · by_cases h1 : i < n
    · rw [decide_eq_true (⟨h0, h1⟩ : 0 ≤ i ∧ i < n)]
      go_enter Try.func23, Try.ntmps23
      go_wp2
      go_ret
      exact ⟨rfl, rfl⟩
    · rw [decide_eq_false (fun h : 0 ≤ i ∧ i < n => h1 h.2)]
      go_enter Try.func23, Try.ntmps23
      go_wp2
      go_ret
      exact ⟨rfl, rfl⟩
  · rw [decide_eq_false (fun h : 0 ≤ i ∧ i < n => h0 h.1)]
    go_enter Try.func23, Try.ntmps23
    go_wp2
    go_ret
    exact ⟨rfl, rfl⟩
set_option maxHeartbeats 1000000 in
set_option maxRecDepth 100000 in
theorem step_rowA (g mb : Nat) (kv : Value) (s : Int) (o : Bool) (hs : 0 ≤ s ∧ s < 1000000000) (w : World) (hr : Row w g (drow kv mb s 0 o) 47) :
    Calls Try.prog 22 #[.pointer (some ⟨g, 0, none⟩)] w fun e w' => e = .returned (.bool (!o)) ∧ Row w' g (drow kv mb (s + 1) 0 o) 47 ∧ Upd g w w' := by
  have hm := Mem.enter hr
  clear hr
  obtain ⟨hs0, hs1⟩ := hs
  go_enter Try.func22, Try.ntmps22
  go_wp2_with (first
    | ((with_reducible refine at_op (some 6) (.load 3 (.tmp 5)) ?_); refine wpl_ldc 0 2 (.int .i64 s) hm rfl rfl ag_int (rfl) ?_)
    | ((with_reducible refine at_op none (.store 3 (.tmp 9) (.tmp 7)) ?_); refine wpl_stc 0 2 (.int .i64 (s + 1)) hm rfl (rfl) rfl sz_int (by show _ < 5; omega) rfl rfl ?_; clear hm; intro w1 hm; replace hm : Mem w [g] _ [(g, drow kv mb (s + 1) 0 o, 47)] := hm)
    | ((with_reducible refine at_op (some 13) (.load 3 (.tmp 12)) ?_); refine wpl_ldc 0 3 (.int .i64 0) hm rfl rfl ag_int (rfl) ?_)
    | ((with_reducible refine at_op (some 33) (.load 4 (.tmp 32)) ?_); refine wpl_ldc 0 4 (.bool o) hm rfl rfl ag_bool (rfl) ?_))
  go_ret
  exact ⟨rfl, hm.get 0 rfl, hm.toUpd⟩
set_option maxHeartbeats 1000000 in
set_option maxRecDepth 100000 in
theorem step_rowB (g mb : Nat) (kv : Value) (s : Int) (o : Bool) (hs : 0 ≤ s ∧ s < 1000000000) (w : World) (hr : Row w g (drow kv mb s 1 o) 47) :
    Calls Try.prog 22 #[.pointer (some ⟨g, 0, none⟩)] w fun e w' => e = .returned (.bool false) ∧ Row w' g (drow kv mb (s + 1) 0 true) 47 ∧ Upd g w w' := by
  have hm := Mem.enter hr
  clear hr
  obtain ⟨hs0, hs1⟩ := hs
  go_enter Try.func22, Try.ntmps22
  go_wp2_with (first
    | ((with_reducible refine at_op (some 6) (.load 3 (.tmp 5)) ?_); refine wpl_ldc 0 2 (.int .i64 s) hm rfl rfl ag_int (rfl) ?_)
    | ((with_reducible refine at_op none (.store 3 (.tmp 9) (.tmp 7)) ?_); refine wpl_stc 0 2 (.int .i64 (s + 1)) hm rfl (rfl) rfl sz_int (by show _ < 5; omega) rfl rfl ?_; clear hm; intro w1 hm; replace hm : Mem w [g] _ [(g, drow kv mb (s + 1) 1 o, 47)] := hm)
    | ((with_reducible refine at_op (some 13) (.load 3 (.tmp 12)) ?_); refine wpl_ldc 0 3 (.int .i64 1) hm rfl rfl ag_int (rfl) ?_)
    | ((with_reducible refine at_op (some 18) (.load 3 (.tmp 17)) ?_); refine wpl_ldc 0 3 (.int .i64 1) hm rfl rfl ag_int (rfl) ?_)
    | ((with_reducible refine at_op none (.store 3 (.tmp 21) (.tmp 19)) ?_); refine wpl_stc 0 3 (.int .i64 0) hm rfl (rfl) rfl sz_int (by show _ < 5; omega) rfl rfl ?_; clear hm; intro w2 hm; replace hm : Mem w [g] _ [(g, drow kv mb (s + 1) 0 o, 47)] := hm)
    | ((with_reducible refine at_op (some 26) (.load 3 (.tmp 25)) ?_); refine wpl_ldc 0 3 (.int .i64 0) hm rfl rfl ag_int (rfl) ?_)
    | ((with_reducible refine at_op none (.store 4 (.tmp 29) (.tmp 27)) ?_); refine wpl_stc 0 4 (.bool true) hm rfl (rfl) rfl sz_bool (by show _ < 5; omega) rfl rfl ?_; clear hm; intro w3 hm; replace hm : Mem w [g] _ [(g, drow kv mb (s + 1) 0 true, 47)] := hm)
    | ((with_reducible refine at_op (some 33) (.load 4 (.tmp 32)) ?_); refine wpl_ldc 0 4 (.bool true) hm rfl rfl ag_bool (rfl) ?_))
  go_ret
  exact ⟨rfl, hm.get 0 rfl, hm.toUpd⟩
set_option maxHeartbeats 1000000 in
set_option maxRecDepth 100000 in
theorem step_rowC (g mb : Nat) (kv : Value) (s l : Int) (o : Bool) (hs : 0 ≤ s ∧ s < 1000000000) (hl : 1 < l ∧ l ≤ 9223372036854775807) (w : World) (hr : Row w g (drow kv mb s l o) 47) :
    Calls Try.prog 22 #[.pointer (some ⟨g, 0, none⟩)] w fun e w' => e = .returned (.bool true) ∧ Row w' g (drow kv mb (s + 1) (l - 1) false) 47 ∧ Upd g w w' := by
  have hl1 : (0 < l) := by omega
  have hl2 : ¬ (l - 1 = 0) := by omega
  have hl3 : (l - 1 == 0) = false := by simpa using hl2
  have hm := Mem.enter hr
  clear hr
  obtain ⟨hs0, hs1⟩ := hs
  go_enter Try.func22, Try.ntmps22
  go_wp2_with (first
    | ((with_reducible refine at_op (some 6) (.load 3 (.tmp 5)) ?_); refine wpl_ldc 0 2 (.int .i64 s) hm rfl rfl ag_int (rfl) ?_)
    | ((with_reducible refine at_op none (.store 3 (.tmp 9) (.tmp 7)) ?_); refine wpl_stc 0 2 (.int .i64 (s + 1)) hm rfl (rfl) rfl sz_int (by show _ < 5; omega) rfl rfl ?_; clear hm; intro w1 hm; replace hm : Mem w [g] _ [(g, drow kv mb (s + 1) l o, 47)] := hm)
    | ((with_reducible refine at_op (some 13) (.load 3 (.tmp 12)) ?_); refine wpl_ldc 0 3 (.int .i64 l) hm rfl rfl ag_int (rfl) ?_)
    | ((with_reducible refine at_op (some 18) (.load 3 (.tmp 17)) ?_); refine wpl_ldc 0 3 (.int .i64 l) hm rfl rfl ag_int (rfl) ?_)
    | ((with_reducible refine at_op none (.store 3 (.tmp 21) (.tmp 19)) ?_); refine wpl_stc 0 3 (.int .i64 (l - 1)) hm rfl (rfl) rfl sz_int (by show _ < 5; omega) rfl rfl ?_; clear hm; intro w2 hm; replace hm : Mem w [g] _ [(g, drow kv mb (s + 1) (l - 1) o, 47)] := hm)
    | ((with_reducible refine at_op (some 26) (.load 3 (.tmp 25)) ?_); refine wpl_ldc 0 3 (.int .i64 (l - 1)) hm rfl rfl ag_int (rfl) ?_)
    | ((with_reducible refine at_op none (.store 4 (.tmp 29) (.tmp 27)) ?_); refine wpl_stc 0 4 (.bool false) hm rfl (rfl) rfl sz_bool (by show _ < 5; omega) rfl rfl ?_; clear hm; intro w3 hm; replace hm : Mem w [g] _ [(g, drow kv mb (s + 1) (l - 1) false, 47)] := hm)
    | ((with_reducible refine at_op (some 33) (.load 4 (.tmp 32)) ?_); refine wpl_ldc 0 4 (.bool false) hm rfl rfl ag_bool (rfl) ?_))
  go_ret
  exact ⟨rfl, hm.get 0 rfl, hm.toUpd⟩
set_option maxRecDepth 100000 in
/-- The disk's own block has turned, and nothing else of it. -/
theorem DkAt.turn {w w' : World} {g mb : Nat} {kv : Value} {d d' : Dk} (h : DkAt w g mb kv d) (hu : Upd g w w') (hr : Row w' g (drow kv mb d'.steps d'.left d'.off) 47) (h1 : d'.n = d.n) (h2 : d'.kept = d.kept) (h3 : d'.pend = d.pend) : DkAt w' g mb kv d' := by
  have hk : ∀ k ∈ foot g mb kv, k ≠ g → w'.heap[k]? = w.heap[k]? := fun k hk hne => hu.block k (h.lt k hk) hne
  refine ⟨⟨by rw [h1]; exact h.ok.n, by rw [h1, h2]; exact h.ok.kept, by rw [h1, h2]; exact h.ok.keptB, by rw [h1, h3]; exact h.ok.pend⟩, hr, ?_, ?_⟩
  · rw [h1, h2]
    exact h.kept.keep (fun k hh => hk k (by simp [foot, hh]) (h.ne_k k hh).1)
  · obtain ⟨q, D, ⟨es, c, hb, F, hs, hD⟩, pm⟩ := h.map
    exact ⟨q, D, ⟨es, c, by rw [hk mb (by simp [foot]) (fun e => h.ne_gm e.symm)]; exact hb, F, hs, hD⟩, by rw [h3]; exact pm⟩
set_option maxRecDepth 100000 in
theorem foot_g (g mb : Nat) (kv : Value) : g ∈ foot g mb kv := by simp [foot]
set_option maxRecDepth 100000 in
theorem foot_m (g mb : Nat) (kv : Value) : mb ∈ foot g mb kv := by simp [foot]
/-- The numbers of a disk are numbers of its types. -/
structure Dk.Num (d : Dk) : Prop where
  steps : 0 ≤ d.steps ∧ d.steps < 1000000000
  left : 0 ≤ d.left ∧ d.left ≤ 9223372036854775807
set_option maxRecDepth 100000 in
theorem step_any (g mb : Nat) (kv : Value) (d : Dk) (hn : d.Num) (w : World) (hd : DkAt w g mb kv d) :
    Calls Try.prog 22 #[.pointer (some ⟨g, 0, none⟩)] w fun e w' => e = .returned (.bool (!d.step.off)) ∧ DkAt w' g mb kv d.step ∧ UpdS (foot g mb kv) w w' := by
  obtain ⟨hs, hl⟩ := hn
  have hr := hd.row
  obtain ⟨n, kept, pend, s, l, o⟩ := d
  simp only at hs hl hr
  by_cases h0 : l = 0
  · subst h0
    refine (step_rowA g mb kv s o hs w hr).mono ?_
    rintro e w' ⟨rfl, h1, h2⟩
    exact ⟨rfl, hd.turn h2 h1 rfl rfl rfl, UpdS.of_upd h2 (foot_g ..)⟩
  · by_cases h1 : l = 1
    · subst h1
      refine (step_rowB g mb kv s o hs w hr).mono ?_
      rintro e w' ⟨rfl, h1, h2⟩
      exact ⟨rfl, hd.turn h2 h1 rfl rfl rfl, UpdS.of_upd h2 (foot_g ..)⟩
    · refine (step_rowC g mb kv s l o hs ⟨by omega, by omega⟩ w hr).mono ?_
      rintro e w' ⟨rfl, h1, h2⟩
      have e1 : (Dk.step ⟨n, kept, pend, s, l, o⟩) = ⟨n, kept, pend, s + 1, l - 1, false⟩ := by
        have q1 : 0 < l := by omega
        have q2 : ¬ (l - 1 = 0) := by omega
        simp [Dk.step, q1, q2]
      rw [e1]
      exact ⟨rfl, hd.turn h2 h1 rfl rfl rfl, UpdS.of_upd h2 (foot_g ..)⟩
end Go.Proofs.Ytbaijhlkkeongaa
