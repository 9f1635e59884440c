/- Contracts of the smaller methods of the document's disk. -/
import Derived.Test.YtbaijhlkkeongaaSecRef
namespace Go.Proofs.Ytbaijhlkkeongaa
open Go Go.RowKit Go.Maps
set_option maxHeartbeats 1000000 in
set_option maxRecDepth 100000 in
theorem lenR_any (q a b c n : Nat) (nw kp : Nat → List Int) (p : Nat → Bool) (s l : Int) (o : Bool) (w : World) (h : RfAt w q a b c n nw kp p s l o) :
    Calls Try.prog 29 #[.pointer (some ⟨q, 0, none⟩)] w fun e w' => e = .returned (.int .i64 n) ∧ w' = w := by
  have hc : w.cell? ⟨q, 0, none⟩ = some (.slice (some ⟨a, 0, none⟩) n n) := by rw [h.row.cell]; rfl
  clear h
  go_enter Try.func29, Try.ntmps29
  go_wp2
  go_ret
  exact ⟨rfl, rfl⟩
set_option maxHeartbeats 1000000 in
set_option maxRecDepth 100000 in
theorem stepR_rowA (q a b c n : Nat) (s : Int) (o : Bool) (hs : 0 ≤ s ∧ s < 1000000000) (w : World) (hr : Row w q (rrow a b c n s 0 o) 51) :
    Calls Try.prog 25 #[.pointer (some ⟨q, 0, none⟩)] w fun e w' => e = .returned (.bool (!o)) ∧ Row w' q (rrow a b c n (s + 1) 0 o) 51 ∧ Upd q w w' := by
  have hm := Mem.enter hr
  clear hr
  obtain ⟨hs0, hs1⟩ := hs
  go_enter Try.func25, Try.ntmps25
  go_wp2_with (first
    | ((with_reducible refine at_op (some 6) (.load 3 (.tmp 5)) ?_); refine wpl_ldc 0 3 (.int .i64 s) hm rfl rfl ag_int (rfl) ?_)
    | ((with_reducible refine at_op none (.store 3 (.tmp 9) (.tmp 7)) ?_); refine wpl_stc 0 3 (.int .i64 (s + 1)) hm rfl (rfl) rfl sz_int (by show _ < 6; omega) rfl rfl ?_; clear hm; intro w1 hm; replace hm : Mem w [q] _ [(q, rrow a b c n (s + 1) 0 o, 51)] := hm)
    | ((with_reducible refine at_op (some 13) (.load 3 (.tmp 12)) ?_); refine wpl_ldc 0 4 (.int .i64 0) hm rfl rfl ag_int (rfl) ?_)
    | ((with_reducible refine at_op (some 39) (.load 4 (.tmp 38)) ?_); refine wpl_ldc 0 5 (.bool o) hm rfl rfl ag_bool (rfl) ?_))
  go_ret
  exact ⟨rfl, hm.get 0 rfl, hm.toUpd⟩
set_option maxHeartbeats 1000000 in
set_option maxRecDepth 100000 in
theorem stepR_rowB (q a b c n : Nat) (s : Int) (hs : 0 ≤ s ∧ s < 1000000000) (w : World) (hr : Row w q (rrow a b c n s 1 false) 51) :
    Calls Try.prog 25 #[.pointer (some ⟨q, 0, none⟩)] w fun e w' => e = .returned (.bool false) ∧ Row w' q (rrow a b c n (s + 1) 0 true) 51 ∧ Upd q w w' := by
  have hm := Mem.enter hr
  clear hr
  obtain ⟨hs0, hs1⟩ := hs
  go_enter Try.func25, Try.ntmps25
  go_wp2_with (first
    | ((with_reducible refine at_op (some 6) (.load 3 (.tmp 5)) ?_); refine wpl_ldc 0 3 (.int .i64 s) hm rfl rfl ag_int (rfl) ?_)
    | ((with_reducible refine at_op none (.store 3 (.tmp 9) (.tmp 7)) ?_); refine wpl_stc 0 3 (.int .i64 (s + 1)) hm rfl (rfl) rfl sz_int (by show _ < 6; omega) rfl rfl ?_; clear hm; intro w1 hm; replace hm : Mem w [q] _ [(q, rrow a b c n (s + 1) 1 false, 51)] := hm)
    | ((with_reducible refine at_op (some 13) (.load 3 (.tmp 12)) ?_); refine wpl_ldc 0 4 (.int .i64 1) hm rfl rfl ag_int (rfl) ?_)
    | ((with_reducible refine at_op (some 18) (.load 3 (.tmp 17)) ?_); refine wpl_ldc 0 4 (.int .i64 1) hm rfl rfl ag_int (rfl) ?_)
    | ((with_reducible refine at_op none (.store 3 (.tmp 21) (.tmp 19)) ?_); refine wpl_stc 0 4 (.int .i64 0) hm rfl (rfl) rfl sz_int (by show _ < 6; omega) rfl rfl ?_; clear hm; intro w2 hm; replace hm : Mem w [q] _ [(q, rrow a b c n (s + 1) 0 false, 51)] := hm)
    | ((with_reducible refine at_op (some 26) (.load 4 (.tmp 25)) ?_); refine wpl_ldc 0 5 (.bool false) hm rfl rfl ag_bool (rfl) ?_)
    | ((with_reducible refine at_opG (some 31) (.load 3 (.tmp 30)) (some (5, false)) ?_); go_must (refine wpl_execG (.int .i64 0) rfl (exec_ldrG 4 (.int .i64 0) (hm.get 0 rfl) rfl ag_int rfl) ?_))
    | ((with_reducible refine at_op none (.store 4 (.tmp 35) (.tmp 33)) ?_); refine wpl_stc 0 5 (.bool true) hm rfl (rfl) rfl sz_bool (by show _ < 6; omega) rfl rfl ?_; clear hm; intro w3 hm; replace hm : Mem w [q] _ [(q, rrow a b c n (s + 1) 0 true, 51)] := hm)
    | ((with_reducible refine at_op (some 39) (.load 4 (.tmp 38)) ?_); refine wpl_ldc 0 5 (.bool true) hm rfl rfl ag_bool (rfl) ?_))
  go_ret
  exact ⟨rfl, hm.get 0 rfl, hm.toUpd⟩
set_option maxHeartbeats 1000000 in
set_option maxRecDepth 100000 in
theorem stepR_rowC (q a b c n : Nat) (s l : Int) (hs : 0 ≤ s ∧ s < 1000000000) (hl : 1 < l ∧ l ≤ 9223372036854775807) (w : World) (hr : Row w q (rrow a b c n s l false) 51) :
    Calls Try.prog 25 #[.pointer (some ⟨q, 0, none⟩)] w fun e w' => e = .returned (.bool true) ∧ Row w' q (rrow a b c n (s + 1) (l - 1) false) 51 ∧ Upd q w w' := by
  have hl1 : (0 < l) := by omega
  have hl2 : ¬ (l - 1 = 0) := by omega
  have hl3 : (l - 1 == 0) = false := by simpa using hl2
  have hm := Mem.enter hr
  clear hr
  obtain ⟨hs0, hs1⟩ := hs
  go_enter Try.func25, Try.ntmps25
  go_wp2_with (first
    | ((with_reducible refine at_op (some 6) (.load 3 (.tmp 5)) ?_); refine wpl_ldc 0 3 (.int .i64 s) hm rfl rfl ag_int (rfl) ?_)
    | ((with_reducible refine at_op none (.store 3 (.tmp 9) (.tmp 7)) ?_); refine wpl_stc 0 3 (.int .i64 (s + 1)) hm rfl (rfl) rfl sz_int (by show _ < 6; omega) rfl rfl ?_; clear hm; intro w1 hm; replace hm : Mem w [q] _ [(q, rrow a b c n (s + 1) l false, 51)] := hm)
    | ((with_reducible refine at_op (some 13) (.load 3 (.tmp 12)) ?_); refine wpl_ldc 0 4 (.int .i64 l) hm rfl rfl ag_int (rfl) ?_)
    | ((with_reducible refine at_op (some 18) (.load 3 (.tmp 17)) ?_); refine wpl_ldc 0 4 (.int .i64 l) hm rfl rfl ag_int (rfl) ?_)
    | ((with_reducible refine at_op none (.store 3 (.tmp 21) (.tmp 19)) ?_); refine wpl_stc 0 4 (.int .i64 (l - 1)) hm rfl (rfl) rfl sz_int (by show _ < 6; omega) rfl rfl ?_; clear hm; intro w2 hm; replace hm : Mem w [q] _ [(q, rrow a b c n (s + 1) (l - 1) false, 51)] := hm)
    | ((with_reducible refine at_op (some 26) (.load 4 (.tmp 25)) ?_); refine wpl_ldc 0 5 (.bool false) hm rfl rfl ag_bool (rfl) ?_)
    | ((with_reducible refine at_opG (some 31) (.load 3 (.tmp 30)) (some (5, false)) ?_); go_must (refine wpl_execG (.int .i64 (l - 1)) rfl (exec_ldrG 4 (.int .i64 (l - 1)) (hm.get 0 rfl) rfl ag_int rfl) ?_))
    | ((with_reducible refine at_op none (.store 4 (.tmp 35) (.tmp 33)) ?_); refine wpl_stc 0 5 (.bool false) hm rfl (rfl) rfl sz_bool (by show _ < 6; omega) rfl rfl ?_; clear hm; intro w3 hm; replace hm : Mem w [q] _ [(q, rrow a b c n (s + 1) (l - 1) false, 51)] := hm)
    | ((with_reducible refine at_op (some 39) (.load 4 (.tmp 38)) ?_); refine wpl_ldc 0 5 (.bool false) hm rfl rfl ag_bool (rfl) ?_))
  go_ret
  exact ⟨rfl, hm.get 0 rfl, hm.toUpd⟩
set_option maxRecDepth 100000 in
theorem RfAt.turn {w w' : World} {q a b c n : Nat} {nw kp : Nat → List Int} {p : Nat → Bool} {s l s' l' : Int} {o o' : Bool} (h : RfAt w q a b c n nw kp p s l o) (hu : Upd q w w') (hr : Row w' q (rrow a b c n s' l' o') 51) : RfAt w' q a b c n nw kp p s' l' o' := by
  have hn := h.nd
  simp only [List.nodup_cons, List.mem_cons, List.not_mem_nil, or_false, not_or] at hn
  exact ⟨hr, hu.row h.now (fun e => hn.1.1 e.symm), hu.row h.kept (fun e => hn.1.2.1 e.symm), hu.row h.pend (fun e => hn.1.2.2 e.symm), h.nd⟩
set_option maxRecDepth 100000 in
theorem stepR_any (q a b c : Nat) (d : Dk) (hn : d.Num) (hsn : d.Sane) (w : World) (h : Rf w q a b c d) :
    Calls Try.prog 25 #[.pointer (some ⟨q, 0, none⟩)] w fun e w' => e = .returned (.bool (!d.step.off)) ∧ Rf w' q a b c d.step ∧ UpdS [q, a, b, c] w w' := by
  obtain ⟨hs, hl⟩ := hn
  have hr := h.row
  obtain ⟨n, kept, pend, s, l, o⟩ := d
  simp only at hs hl hr
  by_cases h0 : l = 0
  · subst h0
    refine (stepR_rowA q a b c n s o hs w hr).mono ?_
    rintro e w' ⟨rfl, h1, h2⟩
    exact ⟨rfl, RfAt.turn h h2 h1, UpdS.of_upd h2 (by simp)⟩
  · have ho : o = false := by
      cases o with
      | false => rfl
      | true => exact absurd (hsn rfl) h0
    subst ho
    by_cases h1 : l = 1
    · subst h1
      refine (stepR_rowB q a b c n s hs w hr).mono ?_
      rintro e w' ⟨rfl, h1, h2⟩
      exact ⟨rfl, RfAt.turn h h2 h1, UpdS.of_upd h2 (by simp)⟩
    · refine (stepR_rowC q a b c n s l hs ⟨by omega, by omega⟩ w hr).mono ?_
      rintro e w' ⟨rfl, h1, h2⟩
      have e1 : (Dk.step ⟨n, kept, pend, s, l, false⟩) = ⟨n, kept, pend, s + 1, l - 1, false⟩ := by
        have q1 : 0 < l := by omega
        have q2 : ¬ (l - 1 = 0) := by omega
        simp [Dk.step, q1, q2]
      rw [e1]
      exact ⟨rfl, RfAt.turn (nw := Dk.now ⟨n, kept, pend, s, l, false⟩) h h2 h1, UpdS.of_upd h2 (by simp)⟩
set_option maxHeartbeats 1000000 in
set_option maxRecDepth 100000 in
theorem powerR_on (q a b c n : Nat) (s l x : Int)  (w : World) (hr : Row w q (rrow a b c n s l false) 51) :
    Calls Try.prog 12 #[.pointer (some ⟨q, 0, none⟩), .int .i64 x] w fun e w' => e = .returned (.tuple #[]) ∧ Row w' q (rrow a b c n s (max x 0) false) 51 ∧ Upd q w w' := by
  have hm := Mem.enter hr
  clear hr
  go_enter Try.func12, Try.ntmps12
  go_wp2_with (first
    | ((with_reducible refine at_op (some 7) (.load 4 (.tmp 6)) ?_); refine wpl_ldc 0 5 (.bool false) hm rfl rfl ag_bool (rfl) ?_)
    | ((with_reducible refine at_op none (.store 3 (.tmp 13) (.tmp 11)) ?_); refine wpl_stc 0 4 (.int .i64 (max x 0)) hm rfl (rfl) rfl sz_int (by show _ < 6; omega) rfl rfl ?_; clear hm; intro w1 hm; replace hm : Mem w [q] _ [(q, rrow a b c n s (max x 0) false, 51)] := hm))
  first | go_ret | go_end0
  exact ⟨rfl, hm.get 0 rfl, hm.toUpd⟩
set_option maxHeartbeats 1000000 in
set_option maxRecDepth 100000 in
theorem powerR_off (q a b c n : Nat) (s l x : Int) (w : World) (hr : Row w q (rrow a b c n s l true) 51) :
    Calls Try.prog 12 #[.pointer (some ⟨q, 0, none⟩), .int .i64 x] w fun e w' => e = .returned (.tuple #[]) ∧ w' = w := by
  have hc : w.cell? ⟨q, 5, none⟩ = some (.bool true) := by rw [hr.cell]; rfl
  clear hr
  go_enter Try.func12, Try.ntmps12
  go_wp2
  first | go_ret | go_end0
  exact ⟨rfl, rfl⟩
set_option maxRecDepth 100000 in
theorem powerR_any (q a b c : Nat) (d : Dk) (x : Int) (w : World) (h : Rf w q a b c d) :
    Calls Try.prog 12 #[.pointer (some ⟨q, 0, none⟩), .int .i64 x] w fun e w' => e = .returned (.tuple #[]) ∧ Rf w' q a b c (d.power x) ∧ UpdS [q, a, b, c] w w' := by
  have hr := h.row
  unfold Dk.power
  obtain ⟨n, kept, pend, s, l, o⟩ := d
  simp only at hr
  cases o with
  | true =>
    rw [if_pos rfl]
    refine (powerR_off q a b c n s l x w hr).mono ?_
    rintro e w' ⟨rfl, hw⟩
    subst hw
    exact ⟨rfl, h, UpdS.refl _ _⟩
  | false =>
    rw [if_neg (by simp)]
    refine (powerR_on q a b c n s l x w hr).mono ?_
    rintro e w' ⟨rfl, h1, h2⟩
    exact ⟨rfl, RfAt.turn h h2 h1, UpdS.of_upd h2 (by simp)⟩
set_option maxHeartbeats 1000000 in
set_option maxRecDepth 100000 in
theorem readR_off (q a b c : Nat) (d : Dk) (i : Int) (ho : d.off = true) (w : World) (h : Rf w q a b c d) :
    Calls Try.prog 30 #[.pointer (some ⟨q, 0, none⟩), .int .i64 i] w fun e w' => e = .returned (.tuple #[.slice none 0 0, .int .i64 61]) ∧ w' = w := by
  have c5 : w.cell? ⟨q, 5, none⟩ = some (.bool d.off) := by rw [h.row.cell]; rfl
  have c0 : w.cell? ⟨q, 0, none⟩ = some (.slice (some ⟨a, 0, none⟩) d.n d.n) := by rw [h.row.cell]; rfl
  rw [ho] at c5
  clear h ho c0
  go_enter Try.func30, Try.ntmps30
  go_wp2
  go_ret2
  exact ⟨rfl, rfl⟩
set_option maxHeartbeats 1000000 in
set_option maxRecDepth 100000 in
theorem readR_neg (q a b c : Nat) (d : Dk) (i : Int) (ho : d.off = false) (hi : i < 0) (w : World) (h : Rf w q a b c d) :
    Calls Try.prog 30 #[.pointer (some ⟨q, 0, none⟩), .int .i64 i] w fun e w' => e = .returned (.tuple #[.slice none 0 0, .int .i64 60]) ∧ w' = w := by
  have c5 : w.cell? ⟨q, 5, none⟩ = some (.bool d.off) := by rw [h.row.cell]; rfl
  have c0 : w.cell? ⟨q, 0, none⟩ = some (.slice (some ⟨a, 0, none⟩) d.n d.n) := by rw [h.row.cell]; rfl
  rw [ho] at c5
  clear h ho
  go_enter Try.func30, Try.ntmps30
  go_wp2
  go_ret2
  exact ⟨rfl, rfl⟩
set_option maxHeartbeats 1000000 in
set_option maxRecDepth 100000 in
theorem readR_big (q a b c : Nat) (d : Dk) (i : Int) (ho : d.off = false) (hi : ¬ i < 0) (hi2 : i ≥ (d.n : Int)) (w : World) (h : Rf w q a b c d) :
    Calls Try.prog 30 #[.pointer (some ⟨q, 0, none⟩), .int .i64 i] w fun e w' => e = .returned (.tuple #[.slice none 0 0, .int .i64 60]) ∧ w' = w := by
  have c5 : w.cell? ⟨q, 5, none⟩ = some (.bool d.off) := by rw [h.row.cell]; rfl
  have c0 : w.cell? ⟨q, 0, none⟩ = some (.slice (some ⟨a, 0, none⟩) d.n d.n) := by rw [h.row.cell]; rfl
  rw [ho] at c5
  clear h ho
  go_enter Try.func30, Try.ntmps30
  go_wp2
  go_ret2
  exact ⟨rfl, rfl⟩
set_option maxHeartbeats 1000000 in
set_option maxRecDepth 100000 in
theorem readR_good (q a b c : Nat) (d : Dk) (i : Nat) (ho : d.off = false) (hi : i < d.n) (hok : d.Ok) (w : World) (h : Rf w q a b c d) :
    Calls Try.prog 30 #[.pointer (some ⟨q, 0, none⟩), .int .i64 i] w fun e w' => ∃ r, e = .returned (.tuple #[.slice (some ⟨r, 0, none⟩) 64 64, .int .i64 0]) ∧ w.heap.size ≤ r ∧ Row w' r (u8s (d.now i)) 53 ∧ Below w.heap.size w w' := by
  have c5 : w.cell? ⟨q, 5, none⟩ = some (.bool d.off) := by rw [h.row.cell]; rfl
  have c0 : w.cell? ⟨q, 0, none⟩ = some (.slice (some ⟨a, 0, none⟩) d.n d.n) := by rw [h.row.cell]; rfl
  rw [ho] at c5
  have hm := Mem.start w
  have HD : Hid (Rf w q a b c d) := h
  have HL : Hid ((u8s (d.now i)).length = 64) := by show _ = _; rw [u8s_length]; exact hok.now hi
  have HZ : Hid ((u8s zeroK).length = 64) := by show _ = _; rw [u8s_length]; exact zeroK_length
  have HNL : Hid (∀ i, i < d.n → (d.now i).length = 64) := fun _ hj => hok.now hj
  obtain ⟨n, hn⟩ : ∃ n, n = d.n := ⟨_, rfl⟩
  have HN : Hid (∀ _ : Unit, d.n = n) := fun _ => hn.symm
  rw [← hn] at c0 hi
  have hi1 : ¬ ((i : Int) < 0) := by omega
  have hi2 : ¬ ((i : Int) ≥ (n : Int)) := by omega
  clear h ho hok hn
  go_enter Try.func30, Try.ntmps30
  go_wp2_with (first
    | ((with_reducible refine at_op (some 27) (.indexAddr 48 (.tmp 25) (.tmp 26)) ?_); go_must (refine wpl_execG (.pointer (some ⟨a, i * 64, none⟩)) rfl (exec_ixR i rfl rfl rfl hi) ?_))
    | ((with_reducible refine at_op (some 28) (.load 53 (.tmp 27)) ?_); go_must (refine wpl_execG (.agg (u8s (d.now i)).toArray) rfl (exec_ldR i (RfAt.now HD.out) HNL.out (by rw [HN.out ()]; exact hi) rfl) ?_))
    | ((with_reducible refine at_op (some 6) (.alloc 53) ?_); refine wpl_alloc _ zero_b64 hm ?_; clear hm; intro w1 r hm)
    | ((with_reducible refine at_op none (.store 53 (.tmp 6) (.tmp 28)) ?_); refine wpl_stw 0 (u8s (d.now i)) hm rfl rfl rfl 64 sz_b64 (HZ.out) (HL.out) (u8s_one _) ?_; clear hm; intro w2 hm)
    | ((with_reducible refine at_op (some 29) (.slice 53 (.tmp 6) none none none) ?_); refine wpl_sla 64 un_b64 sz_u8 0 64 (by omega) (by omega) rfl (Or.inr ⟨rfl, rfl⟩) (Or.inr ⟨rfl, rfl⟩) ?_))
  go_ret2
  have hf := hm.fresh _ (List.mem_cons_self ..)
  exact ⟨r, rfl, by simpa using hf, hm.get 0 rfl, hm.below⟩
set_option maxRecDepth 100000 in
theorem readR_any (q a b c : Nat) (d : Dk) (i : Int) (hok : d.Ok) (w : World) (h : Rf w q a b c d) :
    Calls Try.prog 30 #[.pointer (some ⟨q, 0, none⟩), .int .i64 i] w fun e w' => ∃ v, e = .returned (.tuple #[v, .int .i64 (d.rcode i)]) ∧ SlOld w' v (d.read i) ∧ Below w.heap.size w w' := by
  unfold Dk.rcode Dk.read
  have hnil : ∀ W : World, SlOld W (.slice none 0 0) [] := fun W => ⟨none, 0, rfl, Nat.le_refl _, fun h => absurd h (by simp)⟩
  cases ho : d.off with
  | true =>
    rw [if_pos rfl, if_pos rfl]
    refine (readR_off q a b c d i ho w h).mono ?_
    rintro e w' ⟨rfl, hw⟩
    subst hw
    exact ⟨_, rfl, hnil _, Below.refl _ _⟩
  | false =>
    simp only [Bool.false_eq_true, if_false]
    by_cases h0 : i < 0
    · have hh : d.has i = false := by simp [Dk.has]; omega
      simp only [hh, Bool.false_eq_true, if_false]
      refine (readR_neg q a b c d i ho h0 w h).mono ?_
      rintro e w' ⟨rfl, hw⟩
      subst hw
      exact ⟨_, rfl, hnil _, Below.refl _ _⟩
    · by_cases h1 : i ≥ (d.n : Int)
      · have hh : d.has i = false := by simp [Dk.has]; omega
        simp only [hh, Bool.false_eq_true, if_false]
        refine (readR_big q a b c d i ho h0 h1 w h).mono ?_
        rintro e w' ⟨rfl, hw⟩
        subst hw
        exact ⟨_, rfl, hnil _, Below.refl _ _⟩
      · have hh : d.has i = true := by simp [Dk.has]; omega
        simp only [hh, if_true]
        obtain ⟨k, rfl⟩ : ∃ k : Nat, i = (k : Int) := ⟨i.toNat, by omega⟩
        have hk : k < d.n := by omega
        refine (readR_good q a b c d k ho hk hok w h).mono ?_
        rintro e w' ⟨r, rfl, h3, h4, h5⟩
        have hl := hok.now hk
        exact ⟨_, rfl, ⟨_, 64, by rw [Int.toNat_natCast, hl], by rw [Int.toNat_natCast, hl]; exact Nat.le_refl _, fun _ => ⟨r, 0, rfl, Seg.row h4⟩⟩, h5⟩
end Go.Proofs.Ytbaijhlkkeongaa
