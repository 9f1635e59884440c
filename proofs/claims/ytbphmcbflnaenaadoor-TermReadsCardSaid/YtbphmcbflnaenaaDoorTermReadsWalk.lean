/- The document's Parse; the walk of the law TermReads. -/
import Derived.Test.YtbphmcbflnaenaaDoorTmSameR
namespace Go.Proofs.YtbphmcbflnaenaaDoor
open Go Go.RowKit
theorem term_none {Sv : ByteArray} (hz : Sv.size ≤ 100000) (hp : rfT 61 0 (bs Sv) = none) (g : Nat) (W : World) (hr : Row W g [.string Sv, .int .i64 0, .bool false] 63) : Calls Tryd.prog 36 #[.pointer (some ⟨g, 0, none⟩)] W fun e w' => ∃ (t : Tm) (s : Value) (S' : ByteArray) (n' : Nat), e = .returned (.agg (tcs t s).toArray) ∧ SlT (FN W.heap.size w'.heap.size) w' s t.l ∧ Row w' g [.string S', .int .i64 (n' : Int), .bool true] 63 ∧ Upd g W w' := by
  refine (term_all 61 Sv 0 false g W (Nat.le_refl _) hz (by omega) (fun _ => ⟨by omega, by omega⟩) hr).mono ?_
  rintro e w' ⟨t, s, S', n', b', he, hs, hr', hu, hres⟩
  cases b' with
  | true => exact ⟨t, s, S', n', he, hs, hr', hu⟩
  | false =>
    have := (hres.2.2.2.2.1 rfl).2.2
    rw [hp] at this
    cases this
theorem term_some {Sv : ByteArray} {t : Tm} {R1 : List UInt8} {n1 : Nat} (hz : Sv.size ≤ 100000) (hp : rfT 61 0 (bs Sv) = some (t, R1, n1)) (g : Nat) (W : World) (hr : Row W g [.string Sv, .int .i64 0, .bool false] 63) : Calls Tryd.prog 36 #[.pointer (some ⟨g, 0, none⟩)] W fun e w' => ∃ (s : Value), e = .returned (.agg (tcs t s).toArray) ∧ SlT (FN W.heap.size w'.heap.size) w' s t.l ∧ Row w' g [.string (mkS R1), .int .i64 (n1 : Int), .bool false] 63 ∧ Upd g W w' := by
  refine (term_all 61 Sv 0 false g W (Nat.le_refl _) hz (by omega) (fun _ => ⟨by omega, by omega⟩) hr).mono ?_
  rintro e w' ⟨t', s, S', n', b', he, hs, hr', hu, hres⟩
  cases b' with
  | true =>
    have := hres.2.2.2.2.2 rfl rfl
    rw [hp] at this
    cases this
  | false =>
    have := (hres.2.2.2.2.1 rfl).2.2
    rw [hp] at this
    simp only [Option.some.injEq, Prod.mk.injEq] at this
    obtain ⟨rfl, rfl, rfl⟩ := this
    exact ⟨s, he, hs, by rw [mkS_bs]; exact hr', hu⟩
set_option maxHeartbeats 2000000 in
set_option maxRecDepth 100000 in
theorem parseR_no1 (Sv : ByteArray) (w : World) (hz : Sv.size ≤ 100000) (hp : rfT 61 0 (bs Sv) = none) :
    Calls Tryd.prog 23 #[.string Sv] w fun e w' => e = .returned (.tuple #[.agg [.int .i64 0, .int .i64 0, .slice none 0 0].toArray, .bool false]) ∧ Below w.heap.size w w' := by
  have hm := Mem.start w
  have HTM : Hid (∀ g W, Row W g [.string Sv, .int .i64 0, .bool false] 63 → Calls Tryd.prog 36 #[.pointer (some ⟨g, 0, none⟩)] W fun e w' => ∃ (t : Tm) (s : Value) (S' : ByteArray) (n' : Nat), e = .returned (.agg (tcs t s).toArray) ∧ SlT (FN W.heap.size w'.heap.size) w' s t.l ∧ Row w' g [.string S', .int .i64 (n' : Int), .bool true] 63 ∧ Upd g W w') := fun g W hr => term_none hz hp g W hr
  clear hp
  go_enter Tryd.func23, Tryd.ntmps23
  go_wp2_with (first
    | ((with_reducible refine at_op (some 2) (.alloc 24) ?_); go_must (refine wpl_alloc _ zero_term hm ?_); clear hm; intro w1 g2 hm)
    | ((with_reducible refine at_op (some 8) (.box 63 (.tmp 7)) ?_); go_must (refine wpl_box [.string Sv, .int .i64 0, .bool false] rfl hm ?_); clear hm; intro w3 g4 hm)
    | (go_at_call 36; go_must (refine (HTM.out g4 _ (hm.get 0 rfl)).mono ?_); rintro e w4 ⟨t, s4, S9, n9, he, hs4, hr, hu⟩; subst he; have HS4 : Hid (SlT (FN w3.heap.size w4.heap.size) w4 s4 t.l) := hs4; obtain ⟨p4, c4, hv4, _⟩ := hs4.len; subst hv4; have HLT : Hid (g4 < w3.heap.size ∧ g2 < w3.heap.size ∧ w.heap.size ≤ w3.heap.size) := ⟨(hm.get 0 rfl).lt, (hm.get 1 rfl).lt, hm.size⟩; replace hm := hm.upd 0 rfl hu hr; clear hr hu hs4)
    | ((with_reducible refine at_op (some 5) (.alloc 24) ?_); go_must (refine wpl_alloc _ zero_term hm ?_); clear hm; intro w5 g5 hm)
    | ((with_reducible refine at_op none (.store 24 (.tmp 5) (.tmp 10)) ?_); go_must (refine wpl_stw 0 (tcs t (.slice p4 t.l.length c4)) hm rfl rfl rfl 3 sz_term rfl rfl (oneTcs _ _ _ _) ?_); clear hm; intro w6 hm)
    | ((with_reducible refine at_op (some 14) (.load 4 (.tmp 13)) ?_); go_must (refine wpl_execG (.bool true) rfl (exec_ldx (.bool true) (Mem.cell hm 1 rfl 2) rfl ag_bool) ?_))
    | ((with_reducible refine at_op none (.store 24 (.tmp 2) (.tmp 22)) ?_); go_must (refine wpl_stw 2 ([.int .i64 0, .int .i64 0, .slice none 0 0]) hm rfl rfl rfl 3 sz_term rfl rfl ((by intro v hv; simp only [List.mem_cons, List.not_mem_nil, or_false] at hv; rcases hv with rfl | rfl | rfl <;> rfl)) ?_); clear hm; intro w7 hm))
  refine ret_ct 2 (.bool false) hm rfl Tryd.results23 rfl rfl _ Tryd.underlying24 rfl 3 sz_term rfl rfl ?_
  exact ⟨rfl, hm.below⟩
set_option maxHeartbeats 2000000 in
set_option maxRecDepth 100000 in
theorem parseR_no2 (Sv : ByteArray) (w : World) (hz : Sv.size ≤ 100000) (t : Tm) (R1 : List UInt8) (n1 : Nat) (hp : rfT 61 0 (bs Sv) = some (t, R1, n1)) (hne : R1 ≠ []) :
    Calls Tryd.prog 23 #[.string Sv] w fun e w' => e = .returned (.tuple #[.agg [.int .i64 0, .int .i64 0, .slice none 0 0].toArray, .bool false]) ∧ Below w.heap.size w w' := by
  have hm := Mem.start w
  have HTM : Hid (∀ g W, Row W g [.string Sv, .int .i64 0, .bool false] 63 → Calls Tryd.prog 36 #[.pointer (some ⟨g, 0, none⟩)] W fun e w' => ∃ (s : Value), e = .returned (.agg (tcs t s).toArray) ∧ SlT (FN W.heap.size w'.heap.size) w' s t.l ∧ Row w' g [.string (mkS R1), .int .i64 (n1 : Int), .bool false] 63 ∧ Upd g W w') := fun g W hr => term_some hz hp g W hr
  have HNE : Hid (∀ _ : Unit, (mkS R1 == ⟨#[]⟩) = false) := fun _ => eqs_no (fun he => hne (mkS_inj he))
  clear hp hne
  go_enter Tryd.func23, Tryd.ntmps23
  go_wp2_with (first
    | ((with_reducible refine at_op (some 2) (.alloc 24) ?_); go_must (refine wpl_alloc _ zero_term hm ?_); clear hm; intro w1 g2 hm)
    | ((with_reducible refine at_op (some 8) (.box 63 (.tmp 7)) ?_); go_must (refine wpl_box [.string Sv, .int .i64 0, .bool false] rfl hm ?_); clear hm; intro w3 g4 hm)
    | (go_at_call 36; go_must (refine (HTM.out g4 _ (hm.get 0 rfl)).mono ?_); rintro e w4 ⟨s4, he, hs4, hr, hu⟩; subst he; have HS4 : Hid (SlT (FN w3.heap.size w4.heap.size) w4 s4 t.l) := hs4; obtain ⟨p4, c4, hv4, _⟩ := hs4.len; subst hv4; have HLT : Hid (g4 < w3.heap.size ∧ g2 < w3.heap.size ∧ w.heap.size ≤ w3.heap.size) := ⟨(hm.get 0 rfl).lt, (hm.get 1 rfl).lt, hm.size⟩; replace hm := hm.upd 0 rfl hu hr; clear hr hu hs4)
    | ((with_reducible refine at_op (some 5) (.alloc 24) ?_); go_must (refine wpl_alloc _ zero_term hm ?_); clear hm; intro w5 g5 hm)
    | ((with_reducible refine at_op none (.store 24 (.tmp 5) (.tmp 10)) ?_); go_must (refine wpl_stw 0 (tcs t (.slice p4 t.l.length c4)) hm rfl rfl rfl 3 sz_term rfl rfl (oneTcs _ _ _ _) ?_); clear hm; intro w6 hm)
    | ((with_reducible refine at_op (some 14) (.load 4 (.tmp 13)) ?_); go_must (refine wpl_execG (.bool false) rfl (exec_ldx (.bool false) (Mem.cell hm 1 rfl 2) rfl ag_bool) ?_))
    | ((with_reducible refine at_opG (some 19) (.load 9 (.tmp 18)) (some (4, false)) ?_); go_must (refine wpl_execG (.string (mkS R1)) rfl (exec_ldx (.string (mkS R1)) (Mem.cell hm 1 rfl 0) rfl ag_str) ?_))
    | ((with_reducible refine at_opG (some 20) (.binOp .neq 9 (.tmp 19) (.const (.string { data := #[] })) 9) (some (4, false)) ?_); go_must (refine wpl_execG (.bool true) rfl (exec_neB (mkS R1) ⟨#[]⟩ false rfl rfl (HNE.out ())) ?_))
    | ((with_reducible refine at_op none (.store 24 (.tmp 2) (.tmp 22)) ?_); go_must (refine wpl_stw 2 ([.int .i64 0, .int .i64 0, .slice none 0 0]) hm rfl rfl rfl 3 sz_term rfl rfl ((by intro v hv; simp only [List.mem_cons, List.not_mem_nil, or_false] at hv; rcases hv with rfl | rfl | rfl <;> rfl)) ?_); clear hm; intro w7 hm))
  refine ret_ct 2 (.bool false) hm rfl Tryd.results23 rfl rfl _ Tryd.underlying24 rfl 3 sz_term rfl rfl ?_
  exact ⟨rfl, hm.below⟩
set_option maxHeartbeats 2000000 in
set_option maxRecDepth 100000 in
theorem parseR_yes (Sv : ByteArray) (w : World) (hz : Sv.size ≤ 100000) (t : Tm) (n1 : Nat) (hp : rfT 61 0 (bs Sv) = some (t, [], n1)) :
    Calls Tryd.prog 23 #[.string Sv] w fun e w' => ∃ s, e = .returned (.tuple #[.agg (tcs t s).toArray, .bool true]) ∧ SlT (FN w.heap.size w'.heap.size) w' s t.l ∧ Below w.heap.size w w' := by
  have hm := Mem.start w
  have HTM : Hid (∀ g W, Row W g [.string Sv, .int .i64 0, .bool false] 63 → Calls Tryd.prog 36 #[.pointer (some ⟨g, 0, none⟩)] W fun e w' => ∃ (s : Value), e = .returned (.agg (tcs t s).toArray) ∧ SlT (FN W.heap.size w'.heap.size) w' s t.l ∧ Row w' g [.string (mkS []), .int .i64 (n1 : Int), .bool false] 63 ∧ Upd g W w') := fun g W hr => term_some hz hp g W hr
  have HNE : Hid (∀ _ : Unit, (mkS [] == ⟨#[]⟩) = true) := fun _ => eqs_yes _
  clear hp
  go_enter Tryd.func23, Tryd.ntmps23
  go_wp2_with (first
    | ((with_reducible refine at_op (some 2) (.alloc 24) ?_); go_must (refine wpl_alloc _ zero_term hm ?_); clear hm; intro w1 g2 hm)
    | ((with_reducible refine at_op (some 8) (.box 63 (.tmp 7)) ?_); go_must (refine wpl_box [.string Sv, .int .i64 0, .bool false] rfl hm ?_); clear hm; intro w3 g4 hm)
    | (go_at_call 36; go_must (refine (HTM.out g4 _ (hm.get 0 rfl)).mono ?_); rintro e w4 ⟨s4, he, hs4, hr, hu⟩; subst he; have HS4 : Hid (SlT (FN w3.heap.size w4.heap.size) w4 s4 t.l) := hs4; obtain ⟨p4, c4, hv4, _⟩ := hs4.len; subst hv4; have HLT : Hid (g4 < w3.heap.size ∧ g2 < w3.heap.size ∧ w.heap.size ≤ w3.heap.size) := ⟨(hm.get 0 rfl).lt, (hm.get 1 rfl).lt, hm.size⟩; replace hm := hm.upd 0 rfl hu hr; clear hr hu hs4)
    | ((with_reducible refine at_op (some 5) (.alloc 24) ?_); go_must (refine wpl_allocB _ zero_term hm ?_); clear hm; intro w5 g5 hb5 hg5 hm; have HS5 : Hid (SlT (FN w3.heap.size w4.heap.size) w5 (.slice p4 t.l.length c4) t.l) := HS4.out.below hb5; have HG5 : Hid (w4.heap.size ≤ g5 ∧ w4.heap.size ≤ w5.heap.size) := ⟨hg5, hb5.size⟩; clear HS4; clear hb5 hg5)
    | ((with_reducible refine at_op none (.store 24 (.tmp 5) (.tmp 10)) ?_); go_must (refine wpl_stwU 0 (tcs t (.slice p4 t.l.length c4)) hm rfl rfl rfl 3 sz_term rfl rfl (oneTcs _ _ _ _) ?_); clear hm; intro w6 hu hm; have HS6 : Hid (SlT (FN w3.heap.size w4.heap.size) w6 (.slice p4 t.l.length c4) t.l) := trk HS5.out hu (Or.inr HG5.out.1); have HG6 : Hid (w4.heap.size ≤ w6.heap.size) := Nat.le_trans HG5.out.2 hu.size; clear HS5; clear hu)
    | ((with_reducible refine at_op (some 14) (.load 4 (.tmp 13)) ?_); go_must (refine wpl_execG (.bool false) rfl (exec_ldx (.bool false) (Mem.cell hm 1 rfl 2) rfl ag_bool) ?_))
    | ((with_reducible refine at_opG (some 19) (.load 9 (.tmp 18)) (some (4, false)) ?_); go_must (refine wpl_execG (.string (mkS [])) rfl (exec_ldx (.string (mkS [])) (Mem.cell hm 1 rfl 0) rfl ag_str) ?_))
    | ((with_reducible refine at_opG (some 20) (.binOp .neq 9 (.tmp 19) (.const (.string { data := #[] })) 9) (some (4, false)) ?_); go_must (refine wpl_execG (.bool false) rfl (exec_neB (mkS []) ⟨#[]⟩ true rfl rfl (HNE.out ())) ?_))
    | ((with_reducible refine at_op (some 23) (.load 24 (.tmp 5)) ?_); go_must (refine wpl_ldw 0 hm rfl rfl _ Tryd.underlying24 rfl 3 sz_term rfl ?_))
    | ((with_reducible refine at_op none (.store 24 (.tmp 2) (.tmp 23)) ?_); go_must (refine wpl_stwU 2 (tcs t (.slice p4 t.l.length c4)) hm rfl rfl rfl 3 sz_term rfl rfl (oneTcs _ _ _ _) ?_); clear hm; intro w7 hu hm; have HS7 : Hid (SlT (FN w.heap.size w7.heap.size) w7 (.slice p4 t.l.length c4) t.l) := (trk HS6.out hu (Or.inl HLT.out.2.1)).weak (fun b hb => ⟨Nat.le_trans HLT.out.2.2 hb.1, Nat.lt_of_lt_of_le hb.2 (Nat.le_trans HG6.out hu.size)⟩); clear HS6; clear hu))
  refine ret_ct 2 (.bool true) hm rfl Tryd.results23 rfl rfl _ Tryd.underlying24 rfl 3 sz_term rfl rfl ?_
  exact ⟨_, rfl, HS7.out, hm.below⟩
set_option maxHeartbeats 4000000 in
set_option maxRecDepth 100000 in
theorem treads_yes (Sv : ByteArray) (W : World) (hE : Esx W) (h10 : 10 ≤ W.heap.size) (hl : Sv.size ≤ 500) (t : Tm) (n r : Nat) (h1 : rfT 61 0 (bs Sv) = some (t, [], n)) (h2 : rdT 60 60 (bs Sv) = some (t, [], r)) :
    Calls Tryd.prog 4 #[.string Sv] W fun e w' => e = .returned (.bool true) ∧ Below W.heap.size W w' := by
  have hm := Mem.start W
  have HKN : Hid (∀ w, Below W.heap.size W w → Calls Tryd.prog 9 #[] w fun e w' => e = .returned (.bool true) ∧ Below w.heap.size w w') := fun w hW => known_any w (hE.below hW) (Nat.le_trans h10 hW.size)
  have hlen : ¬ (Sv.size : Int) > 500 := by omega
  have hlen2 : ¬ 500 < Sv.size := by omega
  have HCN : Hid (cnt t ≤ 100000) := by show cnt t ≤ 100000; have h3 := (rdT_sound _ _ _ _ _ _ h2).2.2; omega
  have HP1 : Hid (∀ w, Below W.heap.size W w → Calls Tryd.prog 22 #[.string Sv] w fun e w' => ∃ s, e = .returned (.tuple #[.agg (tcs t s).toArray, .int .i64 0]) ∧ SlT (FN w.heap.size w'.heap.size) w' s t.l ∧ Below w.heap.size w w') := fun w hW => by have h9 := parse_yes (bs Sv) w (by rw [bs_length]; omega) (hE.below hW) (Nat.le_trans h10 hW.size) t r h2; rw [mkS_bs] at h9; exact h9
  have HP2 : Hid (∀ w, Below W.heap.size W w → Calls Tryd.prog 23 #[.string Sv] w fun e w' => ∃ s, e = .returned (.tuple #[.agg (tcs t s).toArray, .bool true]) ∧ SlT (FN w.heap.size w'.heap.size) w' s t.l ∧ Below w.heap.size w w') := fun w _ => parseR_yes Sv w (by omega) t n h1
  clear hE h10 hl h1 h2
  go_enter Tryd.func4, Tryd.ntmps4
  go_wp2_with (first
    | (go_at_call 9; go_must (refine (HKN.out _ hm.below).mono ?_); rintro e wq ⟨he, hb⟩; subst he; replace hm := hm.call hb; clear hb)
    | (go_at_call 22; go_must (refine (HP1.out _ hm.below).mono ?_); rintro e w2 ⟨s1, he, hs1, hb⟩; subst he; have HS2 : Hid (SlT (FN wq.heap.size w2.heap.size) w2 s1 t.l) := hs1; obtain ⟨p1, c1, hv1, _⟩ := hs1.len; subst hv1; replace hm := hm.call hb; clear hb hs1)
    | ((with_reducible refine at_op (some 3) (.alloc 24) ?_); go_must (refine wpl_allocB _ zero_term hm ?_); clear hm; intro w3 g3 hb5 hg5 hm; have HS3 : Hid (SlT (FN wq.heap.size w2.heap.size) w3 (.slice p1 t.l.length c1) t.l) := HS2.out.below hb5; have HG3a : Hid (w2.heap.size ≤ g3 ∧ w2.heap.size ≤ w3.heap.size) := ⟨hg5, hb5.size⟩; clear HS2; clear hb5 hg5)
    | ((with_reducible refine at_op none (.store 24 (.tmp 3) (.tmp 15)) ?_); go_must (refine wpl_stwU 0 (tcs t (.slice p1 t.l.length c1)) hm rfl rfl rfl 3 sz_term rfl rfl (oneTcs _ _ _ _) ?_); clear hm; intro w4 hu hm; have HS4 : Hid (SlT (FN wq.heap.size w2.heap.size) w4 (.slice p1 t.l.length c1) t.l) := trk HS3.out hu (Or.inr HG3a.out.1); have HG3 : Hid (w2.heap.size ≤ w4.heap.size) := Nat.le_trans HG3a.out.2 hu.size; clear HS3; clear hu)
    | (go_at_call 23; go_must (refine (HP2.out _ hm.below).mono ?_); rintro e w5 ⟨s2, he, hs2, hb⟩; subst he; have HT5 : Hid (SlT (FN w4.heap.size w5.heap.size) w5 s2 t.l) := hs2; obtain ⟨p2, c2, hv2, _⟩ := hs2.len; subst hv2; have HS5 : Hid (SlT (FN wq.heap.size w2.heap.size) w5 (.slice p1 t.l.length c1) t.l) := HS4.out.below hb; have HG4 : Hid (w2.heap.size ≤ w5.heap.size) := Nat.le_trans HG3.out hb.size; clear HS4; replace hm := hm.call hb; clear hb hs2)
    | ((with_reducible refine at_op (some 5) (.alloc 24) ?_); go_must (refine wpl_allocB _ zero_term hm ?_); clear hm; intro w6 g5 hb5 hg5 hm; have HT6 : Hid (SlT (FN w4.heap.size w5.heap.size) w6 (.slice p2 t.l.length c2) t.l) := HT5.out.below hb5; have HS6 : Hid (SlT (FN wq.heap.size w2.heap.size) w6 (.slice p1 t.l.length c1) t.l) := HS5.out.below hb5; have HG5a : Hid (w5.heap.size ≤ g5) := hg5; clear HT5 HS5; clear hb5 hg5)
    | ((with_reducible refine at_op none (.store 24 (.tmp 5) (.tmp 20)) ?_); go_must (refine wpl_stwU 0 (tcs t (.slice p2 t.l.length c2)) hm rfl rfl rfl 3 sz_term rfl rfl (oneTcs _ _ _ _) ?_); clear hm; intro w7 hu hm; have HT7 : Hid (SlT (FN w4.heap.size w5.heap.size) w7 (.slice p2 t.l.length c2) t.l) := trk HT6.out hu (Or.inr HG5a.out); have HS7 : Hid (SlT (FN wq.heap.size w2.heap.size) w7 (.slice p1 t.l.length c1) t.l) := trk HS6.out hu (Or.inr (Nat.le_trans HG4.out HG5a.out)); clear HT6 HS6; clear hu)
    | ((with_reducible refine at_opG (some 35) (.load 24 (.tmp 3)) (some (12, true)) ?_); go_must (refine wpl_execG (.agg (tcs t (.slice p1 t.l.length c1)).toArray) rfl (exec_ldsG 0 (tcs t (.slice p1 t.l.length c1)) (Mem.get hm 1 rfl) rfl _ Tryd.underlying24 rfl 3 sz_term (Nat.le_refl _) rfl) ?_))
    | ((with_reducible refine at_opG (some 36) (.load 24 (.tmp 5)) (some (12, true)) ?_); go_must (refine wpl_execG (.agg (tcs t (.slice p2 t.l.length c2)).toArray) rfl (exec_ldsG 0 (tcs t (.slice p2 t.l.length c2)) (Mem.get hm 0 rfl) rfl _ Tryd.underlying24 rfl 3 sz_term (Nat.le_refl _) rfl) ?_))
    | (go_at_call 14; go_must (refine (same_any t HCN.out t _ _ true _ HS7.out HT7.out (by simp)).mono ?_); rintro e w8 ⟨he, hb⟩; subst he; replace hm := hm.call hb; clear hb))
  go_ret
  exact ⟨rfl, hm.below⟩
set_option maxHeartbeats 4000000 in
set_option maxRecDepth 100000 in
theorem treads_no (Sv : ByteArray) (W : World) (hE : Esx W) (h10 : 10 ≤ W.heap.size) (hl : Sv.size ≤ 500) (t : Tm) (ht : t = mkT 0 0 []) (h1 : ¬ ∃ t n, rfT 61 0 (bs Sv) = some (t, [], n)) (h2 : ¬ ∃ t r, rdT 60 60 (bs Sv) = some (t, [], r)) :
    Calls Tryd.prog 4 #[.string Sv] W fun e w' => e = .returned (.bool true) ∧ Below W.heap.size W w' := by
  have hm := Mem.start W
  have HKN : Hid (∀ w, Below W.heap.size W w → Calls Tryd.prog 9 #[] w fun e w' => e = .returned (.bool true) ∧ Below w.heap.size w w') := fun w hW => known_any w (hE.below hW) (Nat.le_trans h10 hW.size)
  have hlen : ¬ (Sv.size : Int) > 500 := by omega
  have hlen2 : ¬ 500 < Sv.size := by omega
  have HCN : Hid (cnt t ≤ 100000) := by show cnt t ≤ 100000; rw [ht, cnt_mk]; decide
  have HP1 : Hid (∀ w, Below W.heap.size W w → Calls Tryd.prog 22 #[.string Sv] w fun e w' => ∃ s, e = .returned (.tuple #[.agg (tcs t s).toArray, .int .i64 12]) ∧ SlT (FN w.heap.size w'.heap.size) w' s t.l ∧ Below w.heap.size w w') := fun w hW => by
    have hb9 : (bs Sv).length ≤ 100000 := by rw [bs_length]; omega
    cases hq : rdT 60 60 (bs Sv) with
    | none =>
      have h9 := parse_no1 (bs Sv) w hb9 (hE.below hW) (Nat.le_trans h10 hW.size) hq
      rw [mkS_bs] at h9
      exact h9.mono (fun e w' ⟨he, hb⟩ => ⟨.slice none 0 0, by rw [he, ht]; rfl, by rw [ht, mkT_l]; exact SlT.nil, hb⟩)
    | some q =>
      obtain ⟨a, R1, r1⟩ := q
      have h9 := parse_no2 (bs Sv) w hb9 (hE.below hW) (Nat.le_trans h10 hW.size) a R1 r1 hq (fun he => h2 ⟨a, r1, by rw [hq, he]⟩)
      rw [mkS_bs] at h9
      exact h9.mono (fun e w' ⟨he, hb⟩ => ⟨.slice none 0 0, by rw [he, ht]; rfl, by rw [ht, mkT_l]; exact SlT.nil, hb⟩)
  have HP2 : Hid (∀ w, Below W.heap.size W w → Calls Tryd.prog 23 #[.string Sv] w fun e w' => ∃ s, e = .returned (.tuple #[.agg (tcs t s).toArray, .bool false]) ∧ SlT (FN w.heap.size w'.heap.size) w' s t.l ∧ Below w.heap.size w w') := fun w _ => by
    cases hq : rfT 61 0 (bs Sv) with
    | none => exact (parseR_no1 Sv w (by omega) hq).mono (fun e w' ⟨he, hb⟩ => ⟨.slice none 0 0, by rw [he, ht]; rfl, by rw [ht, mkT_l]; exact SlT.nil, hb⟩)
    | some q =>
      obtain ⟨a, R1, r1⟩ := q
      exact (parseR_no2 Sv w (by omega) a R1 r1 hq (fun he => h1 ⟨a, r1, by rw [hq, he]⟩)).mono (fun e w' ⟨he, hb⟩ => ⟨.slice none 0 0, by rw [he, ht]; rfl, by rw [ht, mkT_l]; exact SlT.nil, hb⟩)
  clear hE h10 hl h1 h2 ht
  go_enter Tryd.func4, Tryd.ntmps4
  go_wp2_with (first
    | (go_at_call 9; go_must (refine (HKN.out _ hm.below).mono ?_); rintro e wq ⟨he, hb⟩; subst he; replace hm := hm.call hb; clear hb)
    | (go_at_call 22; go_must (refine (HP1.out _ hm.below).mono ?_); rintro e w2 ⟨s1, he, hs1, hb⟩; subst he; have HS2 : Hid (SlT (FN wq.heap.size w2.heap.size) w2 s1 t.l) := hs1; obtain ⟨p1, c1, hv1, _⟩ := hs1.len; subst hv1; replace hm := hm.call hb; clear hb hs1)
    | ((with_reducible refine at_op (some 3) (.alloc 24) ?_); go_must (refine wpl_allocB _ zero_term hm ?_); clear hm; intro w3 g3 hb5 hg5 hm; have HS3 : Hid (SlT (FN wq.heap.size w2.heap.size) w3 (.slice p1 t.l.length c1) t.l) := HS2.out.below hb5; have HG3a : Hid (w2.heap.size ≤ g3 ∧ w2.heap.size ≤ w3.heap.size) := ⟨hg5, hb5.size⟩; clear HS2; clear hb5 hg5)
    | ((with_reducible refine at_op none (.store 24 (.tmp 3) (.tmp 15)) ?_); go_must (refine wpl_stwU 0 (tcs t (.slice p1 t.l.length c1)) hm rfl rfl rfl 3 sz_term rfl rfl (oneTcs _ _ _ _) ?_); clear hm; intro w4 hu hm; have HS4 : Hid (SlT (FN wq.heap.size w2.heap.size) w4 (.slice p1 t.l.length c1) t.l) := trk HS3.out hu (Or.inr HG3a.out.1); have HG3 : Hid (w2.heap.size ≤ w4.heap.size) := Nat.le_trans HG3a.out.2 hu.size; clear HS3; clear hu)
    | (go_at_call 23; go_must (refine (HP2.out _ hm.below).mono ?_); rintro e w5 ⟨s2, he, hs2, hb⟩; subst he; have HT5 : Hid (SlT (FN w4.heap.size w5.heap.size) w5 s2 t.l) := hs2; obtain ⟨p2, c2, hv2, _⟩ := hs2.len; subst hv2; have HS5 : Hid (SlT (FN wq.heap.size w2.heap.size) w5 (.slice p1 t.l.length c1) t.l) := HS4.out.below hb; have HG4 : Hid (w2.heap.size ≤ w5.heap.size) := Nat.le_trans HG3.out hb.size; clear HS4; replace hm := hm.call hb; clear hb hs2)
    | ((with_reducible refine at_op (some 5) (.alloc 24) ?_); go_must (refine wpl_allocB _ zero_term hm ?_); clear hm; intro w6 g5 hb5 hg5 hm; have HT6 : Hid (SlT (FN w4.heap.size w5.heap.size) w6 (.slice p2 t.l.length c2) t.l) := HT5.out.below hb5; have HS6 : Hid (SlT (FN wq.heap.size w2.heap.size) w6 (.slice p1 t.l.length c1) t.l) := HS5.out.below hb5; have HG5a : Hid (w5.heap.size ≤ g5) := hg5; clear HT5 HS5; clear hb5 hg5)
    | ((with_reducible refine at_op none (.store 24 (.tmp 5) (.tmp 20)) ?_); go_must (refine wpl_stwU 0 (tcs t (.slice p2 t.l.length c2)) hm rfl rfl rfl 3 sz_term rfl rfl (oneTcs _ _ _ _) ?_); clear hm; intro w7 hu hm; have HT7 : Hid (SlT (FN w4.heap.size w5.heap.size) w7 (.slice p2 t.l.length c2) t.l) := trk HT6.out hu (Or.inr HG5a.out); have HS7 : Hid (SlT (FN wq.heap.size w2.heap.size) w7 (.slice p1 t.l.length c1) t.l) := trk HS6.out hu (Or.inr (Nat.le_trans HG4.out HG5a.out)); clear HT6 HS6; clear hu)
    | ((with_reducible refine at_opG (some 35) (.load 24 (.tmp 3)) (some (12, true)) ?_); go_must (refine wpl_execG (.agg (tcs t (.slice p1 t.l.length c1)).toArray) rfl (exec_ldsG 0 (tcs t (.slice p1 t.l.length c1)) (Mem.get hm 1 rfl) rfl _ Tryd.underlying24 rfl 3 sz_term (Nat.le_refl _) rfl) ?_))
    | ((with_reducible refine at_opG (some 36) (.load 24 (.tmp 5)) (some (12, true)) ?_); go_must (refine wpl_execG (.agg (tcs t (.slice p2 t.l.length c2)).toArray) rfl (exec_ldsG 0 (tcs t (.slice p2 t.l.length c2)) (Mem.get hm 0 rfl) rfl _ Tryd.underlying24 rfl 3 sz_term (Nat.le_refl _) rfl) ?_))
    | (go_at_call 14; go_must (refine (same_any t HCN.out t _ _ true _ HS7.out HT7.out (by simp)).mono ?_); rintro e w8 ⟨he, hb⟩; subst he; replace hm := hm.call hb; clear hb))
  go_ret
  exact ⟨rfl, hm.below⟩
theorem treads_walk (Sv : ByteArray) (W : World) (hE : Esx W) (h10 : 10 ≤ W.heap.size) :
    Calls Tryd.prog 4 #[.string Sv] W fun e w' => e = .returned (.bool true) ∧ Below W.heap.size W w' := by
  by_cases hl : Sv.size ≤ 500
  · by_cases h : ∃ t n, rfT 61 0 (bs Sv) = some (t, [], n)
    · obtain ⟨t, n, h1⟩ := h
      obtain ⟨u, r, h2⟩ := (parse_same _).1 ⟨t, n, h1⟩
      have := parse_eq h1 h2
      subst this
      exact treads_yes Sv W hE h10 hl t n r h1 h2
    · exact treads_no Sv W hE h10 hl _ rfl h (fun h2 => h ((parse_same _).2 h2))
  · have hm := Mem.start W
    have HKN : Hid (∀ w, Below W.heap.size W w → Calls Tryd.prog 9 #[] w fun e w' => e = .returned (.bool true) ∧ Below w.heap.size w w') := fun w hW => known_any w (hE.below hW) (Nat.le_trans h10 hW.size)
    have hlen : (Sv.size : Int) > 500 := by omega
    have hlen2 : 500 < Sv.size := by omega
    clear hE h10 hl
    go_enter Tryd.func4, Tryd.ntmps4
    go_wp2_with (first
      | (go_at_call 9; go_must (refine (HKN.out _ hm.below).mono ?_); rintro e w' ⟨he, hb⟩; subst he; replace hm := hm.call hb; clear hb))
    go_ret
    exact ⟨rfl, hm.below⟩
end Go.Proofs.YtbphmcbflnaenaaDoor
