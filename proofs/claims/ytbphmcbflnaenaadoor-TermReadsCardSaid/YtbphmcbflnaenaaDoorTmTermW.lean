/- The document's reader of terms: a term of whatever depth. -/
import Derived.Test.YtbphmcbflnaenaaDoorTmTermR
namespace Go.Proofs.YtbphmcbflnaenaaDoor
open Go Go.RowKit
set_option maxHeartbeats 2000000 in
set_option maxRecDepth 100000 in
theorem term_bad (f : Nat) (Sv : ByteArray) (n q : Nat) (hq : q = n + 1) (g : Nat) (w : World) (hn : n ≤ 300) (hr : Row w g [.string Sv, .int .i64 ((n : Nat) : Int), .bool true] 63) :
    Calls Tryd.prog 36 #[.pointer (some ⟨g, 0, none⟩)] w fun e w' => ∃ (t : Tm) (s : Value) (S' : ByteArray) (n' : Nat) (b' : Bool), e = .returned (.agg (tcs t s).toArray) ∧ SlT (FN w.heap.size w'.heap.size) w' s t.l ∧ Row w' g [.string S', .int .i64 ((n' : Nat) : Int), .bool b'] 63 ∧ Upd g w w' ∧ ResT f n (bs Sv) true b' n' (bs S') t := by
  have hm := Mem.enter hr
  have HQI : Hid ((n : Int) + 1 = (q : Int)) := by show _ = _; omega
  have hn3 : n ≤ 300 := hn
  clear hr hn
  go_enter Tryd.func36, Tryd.ntmps36
  go_wp2_with (first
    | ((with_reducible refine at_op (some 2) (.alloc 24) ?_); go_must (refine wpl_alloc _ zero_term hm ?_); clear hm; intro w1 g2 hm)
    | ((with_reducible refine at_op (some 9) (.load 3 (.tmp 8)) ?_); go_must (refine wpl_execG (.int .i64 (n : Int)) rfl (exec_ldx (.int .i64 (n : Int)) (Mem.cell hm 1 rfl 1) rfl ag_int) ?_))
    | ((with_reducible refine at_op none (.store 3 (.tmp 12) (.tmp 10)) ?_); go_must (refine wpl_stc 1 1 (.int .i64 ((n : Int) + 1)) hm rfl rfl rfl sz_int (by show 1 < 3; omega) rfl rfl ?_); clear hm; intro w2 hm; rw [HQI.out] at hm)
    | ((with_reducible refine at_op (some 16) (.load 4 (.tmp 15)) ?_); go_must (refine wpl_execG (.bool true) rfl (exec_ldx (.bool true) (Mem.cell hm 1 rfl 2) rfl ag_bool) ?_))
    | ((with_reducible refine at_op none (.store 4 (.tmp 33) (.const (.bool true))) ?_); go_must (refine wpl_stc 1 2 (.bool true) hm rfl rfl rfl sz_bool (by show 2 < 3; omega) rfl rfl ?_); clear hm; intro w3 hm)
    | ((with_reducible refine at_op none (.store 24 (.tmp 2) (.tmp 34)) ?_); go_must (refine wpl_stw 0 ([.int .i64 0, .int .i64 0, .slice none 0 0]) hm rfl rfl rfl 3 sz_term rfl rfl ((by intro v hv; simp only [List.mem_cons, List.not_mem_nil, or_false] at hv; rcases hv with rfl | rfl | rfl <;> rfl)) ?_); clear hm; intro w4 hm))
  refine ret_cell 0 hm rfl Tryd.results36 rfl _ Tryd.underlying24 rfl 3 sz_term rfl rfl ?_
  exact ⟨mkT 0 0 [], .slice none 0 0, Sv, q, true, rfl, (by rw [mkT_l]; exact SlT.nil), hm.get 1 rfl, hm.toUpd, by rw [hq]; exact resBad f n _ _⟩
set_option maxHeartbeats 2000000 in
set_option maxRecDepth 100000 in
theorem term_end (f : Nat) (Sv : ByteArray) (n q : Nat) (hq : q = n + 1) (g : Nat) (w : World) (hn : n ≤ 300) (hs : Sv = ⟨#[]⟩) (hn6 : n ≤ 60) (hr : Row w g [.string Sv, .int .i64 ((n : Nat) : Int), .bool false] 63) :
    Calls Tryd.prog 36 #[.pointer (some ⟨g, 0, none⟩)] w fun e w' => ∃ (t : Tm) (s : Value) (S' : ByteArray) (n' : Nat) (b' : Bool), e = .returned (.agg (tcs t s).toArray) ∧ SlT (FN w.heap.size w'.heap.size) w' s t.l ∧ Row w' g [.string S', .int .i64 ((n' : Nat) : Int), .bool b'] 63 ∧ Upd g w w' ∧ ResT f n (bs Sv) false b' n' (bs S') t := by
  have hm := Mem.enter hr
  have HQI : Hid ((n : Int) + 1 = (q : Int)) := by show _ = _; omega
  have hn3 : n ≤ 300 := hn
  have HE : Hid ((Sv == ⟨#[]⟩) = true) := by show _ = true; rw [hs]; exact eqs_yes _
  have HS0 : Hid (bs Sv = []) := by show _ = _; rw [hs]; rfl
  have HN6 : Hid (n ≤ 60) := hn6
  clear hr hn hs hn6
  go_enter Tryd.func36, Tryd.ntmps36
  go_wp2_with (first
    | ((with_reducible refine at_op (some 2) (.alloc 24) ?_); go_must (refine wpl_alloc _ zero_term hm ?_); clear hm; intro w1 g2 hm)
    | ((with_reducible refine at_op (some 9) (.load 3 (.tmp 8)) ?_); go_must (refine wpl_execG (.int .i64 (n : Int)) rfl (exec_ldx (.int .i64 (n : Int)) (Mem.cell hm 1 rfl 1) rfl ag_int) ?_))
    | ((with_reducible refine at_op none (.store 3 (.tmp 12) (.tmp 10)) ?_); go_must (refine wpl_stc 1 1 (.int .i64 ((n : Int) + 1)) hm rfl rfl rfl sz_int (by show 1 < 3; omega) rfl rfl ?_); clear hm; intro w2 hm; rw [HQI.out] at hm)
    | ((with_reducible refine at_op (some 16) (.load 4 (.tmp 15)) ?_); go_must (refine wpl_execG (.bool false) rfl (exec_ldx (.bool false) (Mem.cell hm 1 rfl 2) rfl ag_bool) ?_))
    | ((with_reducible refine at_opG (some 21) (.load 9 (.tmp 20)) (some (4, false)) ?_); go_must (refine wpl_execG (.string Sv) rfl (exec_ldx (.string Sv) (Mem.cell hm 1 rfl 0) rfl ag_str) ?_))
    | ((with_reducible refine at_opG (some 22) (.binOp .eql 9 (.tmp 21) (.const (.string { data := #[] })) 9) (some (4, false)) ?_); go_must (refine wpl_execG (.bool true) rfl (exec_eqB Sv ⟨#[]⟩ true rfl rfl (HE.out)) ?_))
    | ((with_reducible refine at_op none (.store 4 (.tmp 33) (.const (.bool true))) ?_); go_must (refine wpl_stc 1 2 (.bool true) hm rfl rfl rfl sz_bool (by show 2 < 3; omega) rfl rfl ?_); clear hm; intro w3 hm)
    | ((with_reducible refine at_op none (.store 24 (.tmp 2) (.tmp 34)) ?_); go_must (refine wpl_stw 0 ([.int .i64 0, .int .i64 0, .slice none 0 0]) hm rfl rfl rfl 3 sz_term rfl rfl ((by intro v hv; simp only [List.mem_cons, List.not_mem_nil, or_false] at hv; rcases hv with rfl | rfl | rfl <;> rfl)) ?_); clear hm; intro w4 hm))
  refine ret_cell 0 hm rfl Tryd.results36 rfl _ Tryd.underlying24 rfl 3 sz_term rfl rfl ?_
  exact ⟨mkT 0 0 [], .slice none 0 0, Sv, q, true, rfl, (by rw [mkT_l]; exact SlT.nil), hm.get 1 rfl, hm.toUpd, by rw [hq]; exact resNone HN6.out (by rw [HS0.out]; exact rfT_nil _ _)⟩
set_option maxHeartbeats 2000000 in
set_option maxRecDepth 100000 in
theorem term_deep (f : Nat) (Sv : ByteArray) (n q : Nat) (hq : q = n + 1) (g : Nat) (w : World) (hn : n ≤ 300) (hs : ¬ Sv = ⟨#[]⟩) (hn6 : n = 60) (hr : Row w g [.string Sv, .int .i64 ((n : Nat) : Int), .bool false] 63) :
    Calls Tryd.prog 36 #[.pointer (some ⟨g, 0, none⟩)] w fun e w' => ∃ (t : Tm) (s : Value) (S' : ByteArray) (n' : Nat) (b' : Bool), e = .returned (.agg (tcs t s).toArray) ∧ SlT (FN w.heap.size w'.heap.size) w' s t.l ∧ Row w' g [.string S', .int .i64 ((n' : Nat) : Int), .bool b'] 63 ∧ Upd g w w' ∧ ResT f n (bs Sv) false b' n' (bs S') t := by
  have hm := Mem.enter hr
  have HQI : Hid ((n : Int) + 1 = (q : Int)) := by show _ = _; omega
  have hn3 : n ≤ 300 := hn
  have HE : Hid ((Sv == ⟨#[]⟩) = false) := eqs_no hs
  have hgt : (q : Int) > 60 := by omega
  have HN6 : Hid (n = 60) := hn6
  clear hr hn hs hn6
  go_enter Tryd.func36, Tryd.ntmps36
  go_wp2_with (first
    | ((with_reducible refine at_op (some 2) (.alloc 24) ?_); go_must (refine wpl_alloc _ zero_term hm ?_); clear hm; intro w1 g2 hm)
    | ((with_reducible refine at_op (some 9) (.load 3 (.tmp 8)) ?_); go_must (refine wpl_execG (.int .i64 (n : Int)) rfl (exec_ldx (.int .i64 (n : Int)) (Mem.cell hm 1 rfl 1) rfl ag_int) ?_))
    | ((with_reducible refine at_op none (.store 3 (.tmp 12) (.tmp 10)) ?_); go_must (refine wpl_stc 1 1 (.int .i64 ((n : Int) + 1)) hm rfl rfl rfl sz_int (by show 1 < 3; omega) rfl rfl ?_); clear hm; intro w2 hm; rw [HQI.out] at hm)
    | ((with_reducible refine at_op (some 16) (.load 4 (.tmp 15)) ?_); go_must (refine wpl_execG (.bool false) rfl (exec_ldx (.bool false) (Mem.cell hm 1 rfl 2) rfl ag_bool) ?_))
    | ((with_reducible refine at_opG (some 21) (.load 9 (.tmp 20)) (some (4, false)) ?_); go_must (refine wpl_execG (.string Sv) rfl (exec_ldx (.string Sv) (Mem.cell hm 1 rfl 0) rfl ag_str) ?_))
    | ((with_reducible refine at_opG (some 22) (.binOp .eql 9 (.tmp 21) (.const (.string { data := #[] })) 9) (some (4, false)) ?_); go_must (refine wpl_execG (.bool false) rfl (exec_eqB Sv ⟨#[]⟩ false rfl rfl (HE.out)) ?_))
    | ((with_reducible refine at_opG (some 28) (.load 3 (.tmp 27)) (some (11, false)) ?_); go_must (refine wpl_execG (.int .i64 (q : Int)) rfl (exec_ldx (.int .i64 (q : Int)) (Mem.cell hm 1 rfl 1) rfl ag_int) ?_))
    | ((with_reducible refine at_op none (.store 4 (.tmp 33) (.const (.bool true))) ?_); go_must (refine wpl_stc 1 2 (.bool true) hm rfl rfl rfl sz_bool (by show 2 < 3; omega) rfl rfl ?_); clear hm; intro w3 hm)
    | ((with_reducible refine at_op none (.store 24 (.tmp 2) (.tmp 34)) ?_); go_must (refine wpl_stw 0 ([.int .i64 0, .int .i64 0, .slice none 0 0]) hm rfl rfl rfl 3 sz_term rfl rfl ((by intro v hv; simp only [List.mem_cons, List.not_mem_nil, or_false] at hv; rcases hv with rfl | rfl | rfl <;> rfl)) ?_); clear hm; intro w4 hm))
  refine ret_cell 0 hm rfl Tryd.results36 rfl _ Tryd.underlying24 rfl 3 sz_term rfl rfl ?_
  exact ⟨mkT 0 0 [], .slice none 0 0, Sv, q, true, rfl, (by rw [mkT_l]; exact SlT.nil), hm.get 1 rfl, hm.toUpd, by rw [hq]; exact resNone (by have h := HN6.out; omega) (rfT_deep _ (by have h := HN6.out; omega))⟩
set_option maxRecDepth 100000 in
theorem ne_byte {c : UInt8} {k : Nat} (hk : k < 256) (h : ¬ c = UInt8.ofNat k) : ((c.toNat : Int) == (k : Int)) = false := by
  refine beq_int_no _ _ (fun he => h (UInt8.toNat.inj ?_))
  have h1 : (UInt8.ofNat k).toNat = k := by simp only [UInt8.toNat_ofNat']; omega
  omega
set_option maxHeartbeats 2000000 in
set_option maxRecDepth 100000 in
theorem term_110 (f : Nat) (Sv : ByteArray) (n q : Nat) (hq : q = n + 1) (g : Nat) (w : World) (hn : n ≤ 300) (c : UInt8) (s : List UInt8) (hS : bs Sv = c :: s) (hn6 : n + 1 ≤ 60) (hz : Sv.size ≤ 100000) (hc : c = 110) (hr : Row w g [.string Sv, .int .i64 ((n : Nat) : Int), .bool false] 63) :
    Calls Tryd.prog 36 #[.pointer (some ⟨g, 0, none⟩)] w fun e w' => ∃ (t : Tm) (s : Value) (S' : ByteArray) (n' : Nat) (b' : Bool), e = .returned (.agg (tcs t s).toArray) ∧ SlT (FN w.heap.size w'.heap.size) w' s t.l ∧ Row w' g [.string S', .int .i64 ((n' : Nat) : Int), .bool b'] 63 ∧ Upd g w w' ∧ ResT (f + 1) n (bs Sv) false b' n' (bs S') t := by
  have hm := Mem.enter hr
  have HQI : Hid ((n : Int) + 1 = (q : Int)) := by show _ = _; omega
  have hn3 : n ≤ 300 := hn
  have hnz : ¬ Sv = ⟨#[]⟩ := fun h => by rw [h] at hS; cases hS
  have HE : Hid ((Sv == ⟨#[]⟩) = false) := eqs_no hnz
  have hgt : ¬ (q : Int) > 60 := by omega
  have HN6 : Hid (n + 1 ≤ 60) := by show n + 1 ≤ 60; omega
  have HQ : Hid (q = n + 1) := hq
  have HC : Hid ((bs Sv)[0]? = some c) := by show _ = _; rw [hS]; rfl
  have HS : Hid (bs Sv = c :: s) := hS
  have HZ : Hid (Sv.size ≤ 100000) := hz
  have e110 : ((c.toNat : Int) == 110) = true := by rw [hc]; rfl
  have HCC : Hid (c = 110) := hc
  obtain ⟨R, hR⟩ : ∃ R, R = mkS s := ⟨_, rfl⟩
  have HR : Hid (bs R = (bs Sv).drop 1) := by show _ = _; rw [hR, bs_mkS, hS]; rfl
  have HRS : Hid (bs R = s) := by show _ = _; rw [hR, bs_mkS]
  have HL1 : Hid (1 ≤ Sv.size) := by show 1 ≤ Sv.size; rw [← bs_length, hS]; simp
  clear hR
  clear hr hn hz hnz hn6 hS hq hc
  go_enter Tryd.func36, Tryd.ntmps36
  go_wp2_with (first
    | ((with_reducible refine at_op (some 2) (.alloc 24) ?_); go_must (refine wpl_alloc _ zero_term hm ?_); clear hm; intro w1 g2 hm)
    | ((with_reducible refine at_op (some 9) (.load 3 (.tmp 8)) ?_); go_must (refine wpl_execG (.int .i64 (n : Int)) rfl (exec_ldx (.int .i64 (n : Int)) (Mem.cell hm 1 rfl 1) rfl ag_int) ?_))
    | ((with_reducible refine at_op none (.store 3 (.tmp 12) (.tmp 10)) ?_); go_must (refine wpl_stc 1 1 (.int .i64 ((n : Int) + 1)) hm rfl rfl rfl sz_int (by show 1 < 3; omega) rfl rfl ?_); clear hm; intro w2 hm; rw [HQI.out] at hm)
    | ((with_reducible refine at_op (some 16) (.load 4 (.tmp 15)) ?_); go_must (refine wpl_execG (.bool false) rfl (exec_ldx (.bool false) (Mem.cell hm 1 rfl 2) rfl ag_bool) ?_))
    | ((with_reducible refine at_opG (some 21) (.load 9 (.tmp 20)) (some (4, false)) ?_); go_must (refine wpl_execG (.string Sv) rfl (exec_ldx (.string Sv) (Mem.cell hm 1 rfl 0) rfl ag_str) ?_))
    | ((with_reducible refine at_opG (some 22) (.binOp .eql 9 (.tmp 21) (.const (.string { data := #[] })) 9) (some (4, false)) ?_); go_must (refine wpl_execG (.bool false) rfl (exec_eqB Sv ⟨#[]⟩ false rfl rfl (HE.out)) ?_))
    | ((with_reducible refine at_opG (some 28) (.load 3 (.tmp 27)) (some (11, false)) ?_); go_must (refine wpl_execG (.int .i64 (q : Int)) rfl (exec_ldx (.int .i64 (q : Int)) (Mem.cell hm 1 rfl 1) rfl ag_int) ?_))
    | ((with_reducible refine at_op (some 38) (.load 9 (.tmp 37)) ?_); go_must (refine wpl_execG (.string Sv) rfl (exec_ldx (.string Sv) (Mem.cell hm 1 rfl 0) rfl ag_str) ?_))
    | ((with_reducible refine at_op (some 39) (.index 9 (.tmp 38) (.const (.int .i64 0))) ?_); go_must (refine wpl_execG (.int .u8 (c.toNat : Int)) rfl (exec_ixsS Sv 0 c rfl rfl rfl (HC.out)) ?_))
    | ((with_reducible refine at_op (some 49) (.load 9 (.tmp 48)) ?_); go_must (refine wpl_execG (.string Sv) rfl (exec_ldx (.string Sv) (Mem.cell hm 1 rfl 0) rfl ag_str) ?_))
    | ((with_reducible refine at_op (some 50) (.slice 9 (.tmp 49) (some (.const (.int .i64 1))) none none) ?_); go_must (refine wpl_execG (.string R) rfl (exec_sloS Sv R 1 HL1.out HR.out rfl rfl) ?_))
    | ((with_reducible refine at_op none (.store 9 (.tmp 52) (.tmp 50)) ?_); go_must (refine wpl_stc 1 0 (.string R) hm rfl rfl rfl sz_str (by show 0 < 3; omega) rfl rfl ?_); clear hm; intro w3 hm)
    | (go_at_call 47; refine (num_any R ((q : Nat) : Int) false g _ (hm.get 1 rfl)).mono ?_; rintro e wn ⟨v, S1, b1, he, hr, hu, hres⟩; subst he; have HR1 : Hid (ResN (bs R) false b1 v (bs S1)) := hres; replace hm := hm.upd 1 rfl hu hr; clear hr hu hres)
    | ((with_reducible refine at_op none (.store 24 (.tmp 2) (.tmp 58)) ?_); go_must (refine wpl_stw 0 ([.int .i64 1, .int .i64 v, .slice none 0 0]) hm rfl rfl rfl 3 sz_term rfl rfl ((by intro v hv; simp only [List.mem_cons, List.not_mem_nil, or_false] at hv; rcases hv with rfl | rfl | rfl <;> rfl)) ?_); clear hm; intro w5 hm))
  refine ret_cell 0 hm rfl Tryd.results36 rfl _ Tryd.underlying24 rfl 3 sz_term rfl rfl ?_
  have h1 := HR1.out
  rw [HRS.out] at h1
  exact ⟨mkT 1 v [], .slice none 0 0, S1, q, b1, rfl, (by rw [mkT_l]; exact SlT.nil), hm.get 1 rfl, hm.toUpd, by rw [HS.out, HQ.out]; exact res1 (Or.inl ⟨HCC.out, rfl⟩) HN6.out h1⟩
set_option maxHeartbeats 2000000 in
set_option maxRecDepth 100000 in
theorem term_107 (f : Nat) (Sv : ByteArray) (n q : Nat) (hq : q = n + 1) (g : Nat) (w : World) (hn : n ≤ 300) (c : UInt8) (s : List UInt8) (hS : bs Sv = c :: s) (hn6 : n + 1 ≤ 60) (hz : Sv.size ≤ 100000) (hc : c = 107) (hr : Row w g [.string Sv, .int .i64 ((n : Nat) : Int), .bool false] 63) :
    Calls Tryd.prog 36 #[.pointer (some ⟨g, 0, none⟩)] w fun e w' => ∃ (t : Tm) (s : Value) (S' : ByteArray) (n' : Nat) (b' : Bool), e = .returned (.agg (tcs t s).toArray) ∧ SlT (FN w.heap.size w'.heap.size) w' s t.l ∧ Row w' g [.string S', .int .i64 ((n' : Nat) : Int), .bool b'] 63 ∧ Upd g w w' ∧ ResT (f + 1) n (bs Sv) false b' n' (bs S') t := by
  have hm := Mem.enter hr
  have HQI : Hid ((n : Int) + 1 = (q : Int)) := by show _ = _; omega
  have hn3 : n ≤ 300 := hn
  have hnz : ¬ Sv = ⟨#[]⟩ := fun h => by rw [h] at hS; cases hS
  have HE : Hid ((Sv == ⟨#[]⟩) = false) := eqs_no hnz
  have hgt : ¬ (q : Int) > 60 := by omega
  have HN6 : Hid (n + 1 ≤ 60) := by show n + 1 ≤ 60; omega
  have HQ : Hid (q = n + 1) := hq
  have HC : Hid ((bs Sv)[0]? = some c) := by show _ = _; rw [hS]; rfl
  have HS : Hid (bs Sv = c :: s) := hS
  have HZ : Hid (Sv.size ≤ 100000) := hz
  have hc110 : ¬ c = 110 := by rw [hc]; decide
  have e110 : ((c.toNat : Int) == 110) = false := ne_byte (k := 110) (by omega) hc110
  have e107 : ((c.toNat : Int) == 107) = true := by rw [hc]; rfl
  have HCC : Hid (c = 107) := hc
  obtain ⟨R, hR⟩ : ∃ R, R = mkS s := ⟨_, rfl⟩
  have HR : Hid (bs R = (bs Sv).drop 1) := by show _ = _; rw [hR, bs_mkS, hS]; rfl
  have HRS : Hid (bs R = s) := by show _ = _; rw [hR, bs_mkS]
  have HL1 : Hid (1 ≤ Sv.size) := by show 1 ≤ Sv.size; rw [← bs_length, hS]; simp
  clear hR
  clear hr hn hz hnz hn6 hS hq hc hc110
  go_enter Tryd.func36, Tryd.ntmps36
  go_wp2_with (first
    | ((with_reducible refine at_op (some 2) (.alloc 24) ?_); go_must (refine wpl_alloc _ zero_term hm ?_); clear hm; intro w1 g2 hm)
    | ((with_reducible refine at_op (some 9) (.load 3 (.tmp 8)) ?_); go_must (refine wpl_execG (.int .i64 (n : Int)) rfl (exec_ldx (.int .i64 (n : Int)) (Mem.cell hm 1 rfl 1) rfl ag_int) ?_))
    | ((with_reducible refine at_op none (.store 3 (.tmp 12) (.tmp 10)) ?_); go_must (refine wpl_stc 1 1 (.int .i64 ((n : Int) + 1)) hm rfl rfl rfl sz_int (by show 1 < 3; omega) rfl rfl ?_); clear hm; intro w2 hm; rw [HQI.out] at hm)
    | ((with_reducible refine at_op (some 16) (.load 4 (.tmp 15)) ?_); go_must (refine wpl_execG (.bool false) rfl (exec_ldx (.bool false) (Mem.cell hm 1 rfl 2) rfl ag_bool) ?_))
    | ((with_reducible refine at_opG (some 21) (.load 9 (.tmp 20)) (some (4, false)) ?_); go_must (refine wpl_execG (.string Sv) rfl (exec_ldx (.string Sv) (Mem.cell hm 1 rfl 0) rfl ag_str) ?_))
    | ((with_reducible refine at_opG (some 22) (.binOp .eql 9 (.tmp 21) (.const (.string { data := #[] })) 9) (some (4, false)) ?_); go_must (refine wpl_execG (.bool false) rfl (exec_eqB Sv ⟨#[]⟩ false rfl rfl (HE.out)) ?_))
    | ((with_reducible refine at_opG (some 28) (.load 3 (.tmp 27)) (some (11, false)) ?_); go_must (refine wpl_execG (.int .i64 (q : Int)) rfl (exec_ldx (.int .i64 (q : Int)) (Mem.cell hm 1 rfl 1) rfl ag_int) ?_))
    | ((with_reducible refine at_op (some 38) (.load 9 (.tmp 37)) ?_); go_must (refine wpl_execG (.string Sv) rfl (exec_ldx (.string Sv) (Mem.cell hm 1 rfl 0) rfl ag_str) ?_))
    | ((with_reducible refine at_op (some 39) (.index 9 (.tmp 38) (.const (.int .i64 0))) ?_); go_must (refine wpl_execG (.int .u8 (c.toNat : Int)) rfl (exec_ixsS Sv 0 c rfl rfl rfl (HC.out)) ?_))
    | ((with_reducible refine at_op (some 49) (.load 9 (.tmp 48)) ?_); go_must (refine wpl_execG (.string Sv) rfl (exec_ldx (.string Sv) (Mem.cell hm 1 rfl 0) rfl ag_str) ?_))
    | ((with_reducible refine at_op (some 50) (.slice 9 (.tmp 49) (some (.const (.int .i64 1))) none none) ?_); go_must (refine wpl_execG (.string R) rfl (exec_sloS Sv R 1 HL1.out HR.out rfl rfl) ?_))
    | ((with_reducible refine at_op none (.store 9 (.tmp 52) (.tmp 50)) ?_); go_must (refine wpl_stc 1 0 (.string R) hm rfl rfl rfl sz_str (by show 0 < 3; omega) rfl rfl ?_); clear hm; intro w3 hm)
    | (go_at_call 47; refine (num_any R ((q : Nat) : Int) false g _ (hm.get 1 rfl)).mono ?_; rintro e wn ⟨v, S1, b1, he, hr, hu, hres⟩; subst he; have HR1 : Hid (ResN (bs R) false b1 v (bs S1)) := hres; replace hm := hm.upd 1 rfl hu hr; clear hr hu hres)
    | ((with_reducible refine at_op none (.store 24 (.tmp 2) (.tmp 62)) ?_); go_must (refine wpl_stw 0 ([.int .i64 2, .int .i64 v, .slice none 0 0]) hm rfl rfl rfl 3 sz_term rfl rfl ((by intro v hv; simp only [List.mem_cons, List.not_mem_nil, or_false] at hv; rcases hv with rfl | rfl | rfl <;> rfl)) ?_); clear hm; intro w5 hm))
  refine ret_cell 0 hm rfl Tryd.results36 rfl _ Tryd.underlying24 rfl 3 sz_term rfl rfl ?_
  have h1 := HR1.out
  rw [HRS.out] at h1
  exact ⟨mkT 2 v [], .slice none 0 0, S1, q, b1, rfl, (by rw [mkT_l]; exact SlT.nil), hm.get 1 rfl, hm.toUpd, by rw [HS.out, HQ.out]; exact res1 (Or.inr ⟨HCC.out, rfl⟩) HN6.out h1⟩
set_option maxHeartbeats 4000000 in
set_option maxRecDepth 100000 in
theorem term_100 (f : Nat) (Sv : ByteArray) (n q : Nat) (hq : q = n + 1) (g : Nat) (w : World) (hn : n ≤ 300) (c : UInt8) (s : List UInt8) (hS : bs Sv = c :: s) (hn6 : n + 1 ≤ 60) (hz : Sv.size ≤ 100000) (HT : TRP f) (hf : f + 1 ≤ 61) (hfn : 61 ≤ f + 1 + n) (hc : c = 100) (hr : Row w g [.string Sv, .int .i64 ((n : Nat) : Int), .bool false] 63) :
    Calls Tryd.prog 36 #[.pointer (some ⟨g, 0, none⟩)] w fun e w' => ∃ (t : Tm) (s : Value) (S' : ByteArray) (n' : Nat) (b' : Bool), e = .returned (.agg (tcs t s).toArray) ∧ SlT (FN w.heap.size w'.heap.size) w' s t.l ∧ Row w' g [.string S', .int .i64 ((n' : Nat) : Int), .bool b'] 63 ∧ Upd g w w' ∧ ResT (f + 1) n (bs Sv) false b' n' (bs S') t := by
  have hm := Mem.enter hr
  have HQI : Hid ((n : Int) + 1 = (q : Int)) := by show _ = _; omega
  have hn3 : n ≤ 300 := hn
  have hnz : ¬ Sv = ⟨#[]⟩ := fun h => by rw [h] at hS; cases hS
  have HE : Hid ((Sv == ⟨#[]⟩) = false) := eqs_no hnz
  have hgt : ¬ (q : Int) > 60 := by omega
  have HN6 : Hid (n + 1 ≤ 60) := by show n + 1 ≤ 60; omega
  have HQ : Hid (q = n + 1) := hq
  have HC : Hid ((bs Sv)[0]? = some c) := by show _ = _; rw [hS]; rfl
  have HS : Hid (bs Sv = c :: s) := hS
  have HZ : Hid (Sv.size ≤ 100000) := hz
  have hc110 : ¬ c = 110 := by rw [hc]; decide
  have hc107 : ¬ c = 107 := by rw [hc]; decide
  have e110 : ((c.toNat : Int) == 110) = false := ne_byte (k := 110) (by omega) hc110
  have e107 : ((c.toNat : Int) == 107) = false := ne_byte (k := 107) (by omega) hc107
  have e100 : ((c.toNat : Int) == 100) = true := by rw [hc]; rfl
  have HCC : Hid (c = 100) := hc
  obtain ⟨R, hR⟩ : ∃ R, R = mkS s := ⟨_, rfl⟩
  have HR : Hid (bs R = (bs Sv).drop 1) := by show _ = _; rw [hR, bs_mkS, hS]; rfl
  have HRS : Hid (bs R = s) := by show _ = _; rw [hR, bs_mkS]
  have HL1 : Hid (1 ≤ Sv.size) := by show 1 ≤ Sv.size; rw [← bs_length, hS]; simp
  clear hR
  have HIT : Hid (TRP f) := HT
  have HF : Hid (f ≤ 61) := by show f ≤ 61; omega
  have HFN : Hid (61 ≤ f + (n + 1) ∧ n + 1 ≤ 60) := ⟨by omega, hn6⟩
  have HN3 : Hid (q ≤ 300) := by show q ≤ 300; omega
  have T1 : Hid True := trivial
  have K1 : Hid True := trivial
  have K2 : Hid True := trivial
  clear hr hn hz hnz hn6 hS hq hc hc110 hc107 HT hf hfn
  go_enter Tryd.func36, Tryd.ntmps36
  go_wp2_with (first
    | ((with_reducible refine at_op (some 2) (.alloc 24) ?_); go_must (refine wpl_alloc _ zero_term hm ?_); clear hm; intro w1 g2 hm)
    | ((with_reducible refine at_op (some 9) (.load 3 (.tmp 8)) ?_); go_must (refine wpl_execG (.int .i64 (n : Int)) rfl (exec_ldx (.int .i64 (n : Int)) (Mem.cell hm 1 rfl 1) rfl ag_int) ?_))
    | ((with_reducible refine at_op none (.store 3 (.tmp 12) (.tmp 10)) ?_); go_must (refine wpl_stc 1 1 (.int .i64 ((n : Int) + 1)) hm rfl rfl rfl sz_int (by show 1 < 3; omega) rfl rfl ?_); clear hm; intro w2 hm; rw [HQI.out] at hm)
    | ((with_reducible refine at_op (some 16) (.load 4 (.tmp 15)) ?_); go_must (refine wpl_execG (.bool false) rfl (exec_ldx (.bool false) (Mem.cell hm 1 rfl 2) rfl ag_bool) ?_))
    | ((with_reducible refine at_opG (some 21) (.load 9 (.tmp 20)) (some (4, false)) ?_); go_must (refine wpl_execG (.string Sv) rfl (exec_ldx (.string Sv) (Mem.cell hm 1 rfl 0) rfl ag_str) ?_))
    | ((with_reducible refine at_opG (some 22) (.binOp .eql 9 (.tmp 21) (.const (.string { data := #[] })) 9) (some (4, false)) ?_); go_must (refine wpl_execG (.bool false) rfl (exec_eqB Sv ⟨#[]⟩ false rfl rfl (HE.out)) ?_))
    | ((with_reducible refine at_opG (some 28) (.load 3 (.tmp 27)) (some (11, false)) ?_); go_must (refine wpl_execG (.int .i64 (q : Int)) rfl (exec_ldx (.int .i64 (q : Int)) (Mem.cell hm 1 rfl 1) rfl ag_int) ?_))
    | ((with_reducible refine at_op (some 38) (.load 9 (.tmp 37)) ?_); go_must (refine wpl_execG (.string Sv) rfl (exec_ldx (.string Sv) (Mem.cell hm 1 rfl 0) rfl ag_str) ?_))
    | ((with_reducible refine at_op (some 39) (.index 9 (.tmp 38) (.const (.int .i64 0))) ?_); go_must (refine wpl_execG (.int .u8 (c.toNat : Int)) rfl (exec_ixsS Sv 0 c rfl rfl rfl (HC.out)) ?_))
    | ((with_reducible refine at_op (some 49) (.load 9 (.tmp 48)) ?_); go_must (refine wpl_execG (.string Sv) rfl (exec_ldx (.string Sv) (Mem.cell hm 1 rfl 0) rfl ag_str) ?_))
    | ((with_reducible refine at_op (some 50) (.slice 9 (.tmp 49) (some (.const (.int .i64 1))) none none) ?_); go_must (refine wpl_execG (.string R) rfl (exec_sloS Sv R 1 HL1.out HR.out rfl rfl) ?_))
    | ((with_reducible refine at_op none (.store 9 (.tmp 52) (.tmp 50)) ?_); go_must (refine wpl_stc 1 0 (.string R) hm rfl rfl rfl sz_str (by show 0 < 3; omega) rfl rfl ?_); clear hm; intro w3 hm)
    | (go_at_call 47; refine (num_any R ((q : Nat) : Int) false g _ (hm.get 1 rfl)).mono ?_; rintro e wn ⟨v, S1, b1, he, hr, hu, hres⟩; subst he; have HR1 : Hid (ResN (bs R) false b1 v (bs S1)) := hres; have HZ1 : Hid (S1.size ≤ 100000) := le_bs (Nat.le_trans hres.1 (by rw [HR.out, List.length_drop]; exact Nat.sub_le _ _)) HZ.out; replace hm := hm.upd 1 rfl hu hr; clear hr hu hres)
    | (go_at_call 48; clear K1; refine (take_any S1 ⟨#[40]⟩ ((q : Nat) : Int) b1 g _ (HZ1.out) (hm.get 1 rfl)).mono ?_; rintro e wc3 ⟨S2, b2, he, hr, hu, hres⟩; subst he; have HR2 : Hid (ResTk (bs S1) [40] b1 b2 (bs S2)) := hres; have HZ3 : Hid (S2.size ≤ 100000) := le_bs hres.1 HZ1.out; have HB3 : Hid (b2 = false → 61 ≤ f + q ∧ q ≤ 60) := fun _ => (by have h1 := HFN.out; have h2 := HQ.out; omega); replace hm := hm.upd 1 rfl hu hr; clear hr hu hres)
    | (go_at_call 36; clear T1; refine (HIT.out S2 q b2 g _ HF.out (HZ3.out) (HN3.out) (HB3.out) (hm.get 1 rfl)).mono ?_; rintro e w6 ⟨x3, sx3, S3, n3, b3, he, hsl, hr, hu, hres⟩; subst he; have HX30 : Hid (SlT (FN wc3.heap.size w6.heap.size) w6 sx3 x3.l) := hsl; obtain ⟨p3, c3, hv, _⟩ := HX30.out.len; subst hv; have HR3 : Hid (ResT f q (bs S2) b2 b3 n3 (bs S3) x3) := hres; have HL3 : Hid (g < wc3.heap.size ∧ g2 < wc3.heap.size ∧ w.heap.size ≤ wc3.heap.size ∧ wc3.heap.size ≤ w6.heap.size) := ⟨(hm.get 1 rfl).lt, (hm.get 0 rfl).lt, hm.size, hu.size⟩; have HZ4 : Hid (S3.size ≤ 100000) := le_bs HR3.out.1 HZ3.out; replace hm := hm.upd 1 rfl hu hr; clear hr hu hsl hres)
    | ((with_reducible refine at_op (some 5) (.alloc 24) ?_); go_must (refine wpl_allocB _ zero_term hm ?_); clear hm; intro w7 g5 hb5 hg5 hm; have HX7 : Hid (SlT (FN wc3.heap.size w6.heap.size) w7 (.slice p3 x3.l.length c3) x3.l) := HX30.out.below hb5; have HG5 : Hid (w6.heap.size ≤ g5 ∧ w6.heap.size ≤ w7.heap.size) := ⟨hg5, hb5.size⟩; clear HX30; clear hb5 hg5)
    | ((with_reducible refine at_op none (.store 24 (.tmp 5) (.tmp 66)) ?_); go_must (refine wpl_stwU 0 (tcs x3 (.slice p3 x3.l.length c3)) hm rfl rfl rfl 3 sz_term rfl rfl (oneTcs _ _ _ _) ?_); clear hm; intro w8 hu hm; have HX8 : Hid (SlT (FN wc3.heap.size w6.heap.size) w8 (.slice p3 x3.l.length c3) x3.l) := trk HX7.out hu (Or.inr HG5.out.1); have HG8 : Hid (w6.heap.size ≤ w8.heap.size) := Nat.le_trans HG5.out.2 hu.size; clear HX7; clear hu)
    | (go_at_call 48; clear K2; refine (take_any S3 ⟨#[41]⟩ ((n3 : Nat) : Int) b3 g _ (HZ4.out) (hm.get 2 rfl)).mono ?_; rintro e w9 ⟨S4, b4, he, hr, hu, hres⟩; subst he; have HR4 : Hid (ResTk (bs S3) [41] b3 b4 (bs S4)) := hres; have HX9 : Hid (SlT (FN wc3.heap.size w6.heap.size) w9 (.slice p3 x3.l.length c3) x3.l) := trk HX8.out hu (Or.inl HL3.out.1); have HG9 : Hid (w6.heap.size ≤ w9.heap.size) := Nat.le_trans HG8.out hu.size; clear HX8 HG8; replace hm := hm.upd 2 rfl hu hr; clear hr hu hres)
    | ((with_reducible refine at_op (some 70) (.load 24 (.tmp 5)) ?_); go_must (refine wpl_ldw 0 hm rfl rfl _ Tryd.underlying24 rfl 3 sz_term rfl ?_))
    | ((with_reducible refine at_op (some 71) (.buildSlice 22 1 #[(0, .tmp 70)]) ?_); go_must (refine wpl_bslTg x3 (.slice p3 x3.l.length c3) rfl rfl hm ?_); clear hm; intro wa ga hba hga hm; have HXA : Hid (SlT (FN wc3.heap.size wa.heap.size) wa (.slice (some ⟨ga, 0, none⟩) 1 1) [x3]) := one_mem (hm.get 0 rfl) (HX9.out.below hba) hga (hm.get 0 rfl).lt hba.size HL3.out.2.2.2 HG9.out; clear hba hga HX9)
    | ((with_reducible refine at_op none (.store 24 (.tmp 2) (.tmp 72)) ?_); go_must (refine wpl_stwU 2 ([.int .i64 5, .int .i64 v, .slice (some ⟨ga, 0, none⟩) 1 1]) hm rfl rfl rfl 3 sz_term rfl rfl ((by intro v hv; simp only [List.mem_cons, List.not_mem_nil, or_false] at hv; rcases hv with rfl | rfl | rfl <;> rfl)) ?_); clear hm; intro wb hu hm; have HXB : Hid (SlT (FN w.heap.size wb.heap.size) wb (.slice (some ⟨ga, 0, none⟩) 1 1) [x3]) := (HXA.out.keep (Keeps.upd hu (fun b hb he => by have h8 := HL3.out; have h9 := hb.1; omega))).weak (fun b hb => ⟨Nat.le_trans HL3.out.2.2.1 hb.1, Nat.lt_of_lt_of_le hb.2 hu.size⟩); clear HXA; clear hu))
  refine ret_cell 2 hm rfl Tryd.results36 rfl _ Tryd.underlying24 rfl 3 sz_term rfl rfl ?_
  refine ⟨mkT 5 v [x3], _, S4, n3, b4, rfl, (by rw [mkT_l]; exact HXB.out), hm.get 3 rfl, hm.toUpd, ?_⟩
  have h3 := HR3.out
  rw [HQ.out] at h3
  rw [HS.out, HCC.out]
  have h1 := HR1.out
  rw [HRS.out] at h1
  exact resD HN6.out h1 HR2.out h3 HR4.out
set_option maxHeartbeats 4000000 in
set_option maxRecDepth 100000 in
theorem term_115 (f : Nat) (Sv : ByteArray) (n q : Nat) (hq : q = n + 1) (g : Nat) (w : World) (hn : n ≤ 300) (c : UInt8) (s : List UInt8) (hS : bs Sv = c :: s) (hn6 : n + 1 ≤ 60) (hz : Sv.size ≤ 100000) (HT : TRP f) (hf : f + 1 ≤ 61) (hfn : 61 ≤ f + 1 + n) (hc : c = 115) (hr : Row w g [.string Sv, .int .i64 ((n : Nat) : Int), .bool false] 63) :
    Calls Tryd.prog 36 #[.pointer (some ⟨g, 0, none⟩)] w fun e w' => ∃ (t : Tm) (s : Value) (S' : ByteArray) (n' : Nat) (b' : Bool), e = .returned (.agg (tcs t s).toArray) ∧ SlT (FN w.heap.size w'.heap.size) w' s t.l ∧ Row w' g [.string S', .int .i64 ((n' : Nat) : Int), .bool b'] 63 ∧ Upd g w w' ∧ ResT (f + 1) n (bs Sv) false b' n' (bs S') t := by
  have hm := Mem.enter hr
  have HQI : Hid ((n : Int) + 1 = (q : Int)) := by show _ = _; omega
  have hn3 : n ≤ 300 := hn
  have hnz : ¬ Sv = ⟨#[]⟩ := fun h => by rw [h] at hS; cases hS
  have HE : Hid ((Sv == ⟨#[]⟩) = false) := eqs_no hnz
  have hgt : ¬ (q : Int) > 60 := by omega
  have HN6 : Hid (n + 1 ≤ 60) := by show n + 1 ≤ 60; omega
  have HQ : Hid (q = n + 1) := hq
  have HC : Hid ((bs Sv)[0]? = some c) := by show _ = _; rw [hS]; rfl
  have HS : Hid (bs Sv = c :: s) := hS
  have HZ : Hid (Sv.size ≤ 100000) := hz
  have hc110 : ¬ c = 110 := by rw [hc]; decide
  have hc107 : ¬ c = 107 := by rw [hc]; decide
  have hc100 : ¬ c = 100 := by rw [hc]; decide
  have e110 : ((c.toNat : Int) == 110) = false := ne_byte (k := 110) (by omega) hc110
  have e107 : ((c.toNat : Int) == 107) = false := ne_byte (k := 107) (by omega) hc107
  have e100 : ((c.toNat : Int) == 100) = false := ne_byte (k := 100) (by omega) hc100
  have e115 : ((c.toNat : Int) == 115) = true := by rw [hc]; rfl
  have HCC : Hid (c = 115) := hc
  have HNC : Hid (¬ (c = 110 ∨ c = 107 ∨ c = 100)) := by show ¬ _; rintro (h | h | h) <;> contradiction
  have HIT : Hid (TRP f) := HT
  have HF : Hid (f ≤ 61) := by show f ≤ 61; omega
  have HFN : Hid (61 ≤ f + (n + 1) ∧ n + 1 ≤ 60) := ⟨by omega, hn6⟩
  have HN2 : Hid (q ≤ 200) := by show q ≤ 200; omega
  clear hr hn hz hnz hn6 hS hq HT hf hfn hc hc110 hc107 hc100
  go_enter Tryd.func36, Tryd.ntmps36
  go_wp2_with (first
    | ((with_reducible refine at_op (some 2) (.alloc 24) ?_); go_must (refine wpl_alloc _ zero_term hm ?_); clear hm; intro w1 g2 hm)
    | ((with_reducible refine at_op (some 9) (.load 3 (.tmp 8)) ?_); go_must (refine wpl_execG (.int .i64 (n : Int)) rfl (exec_ldx (.int .i64 (n : Int)) (Mem.cell hm 1 rfl 1) rfl ag_int) ?_))
    | ((with_reducible refine at_op none (.store 3 (.tmp 12) (.tmp 10)) ?_); go_must (refine wpl_stc 1 1 (.int .i64 ((n : Int) + 1)) hm rfl rfl rfl sz_int (by show 1 < 3; omega) rfl rfl ?_); clear hm; intro w2 hm; rw [HQI.out] at hm)
    | ((with_reducible refine at_op (some 16) (.load 4 (.tmp 15)) ?_); go_must (refine wpl_execG (.bool false) rfl (exec_ldx (.bool false) (Mem.cell hm 1 rfl 2) rfl ag_bool) ?_))
    | ((with_reducible refine at_opG (some 21) (.load 9 (.tmp 20)) (some (4, false)) ?_); go_must (refine wpl_execG (.string Sv) rfl (exec_ldx (.string Sv) (Mem.cell hm 1 rfl 0) rfl ag_str) ?_))
    | ((with_reducible refine at_opG (some 22) (.binOp .eql 9 (.tmp 21) (.const (.string { data := #[] })) 9) (some (4, false)) ?_); go_must (refine wpl_execG (.bool false) rfl (exec_eqB Sv ⟨#[]⟩ false rfl rfl (HE.out)) ?_))
    | ((with_reducible refine at_opG (some 28) (.load 3 (.tmp 27)) (some (11, false)) ?_); go_must (refine wpl_execG (.int .i64 (q : Int)) rfl (exec_ldx (.int .i64 (q : Int)) (Mem.cell hm 1 rfl 1) rfl ag_int) ?_))
    | ((with_reducible refine at_op (some 38) (.load 9 (.tmp 37)) ?_); go_must (refine wpl_execG (.string Sv) rfl (exec_ldx (.string Sv) (Mem.cell hm 1 rfl 0) rfl ag_str) ?_))
    | ((with_reducible refine at_op (some 39) (.index 9 (.tmp 38) (.const (.int .i64 0))) ?_); go_must (refine wpl_execG (.int .u8 (c.toNat : Int)) rfl (exec_ixsS Sv 0 c rfl rfl rfl (HC.out)) ?_))
    | (go_at_call 48; refine (take_any Sv ⟨#[115, 101, 97, 108, 40]⟩ ((q : Nat) : Int) false g _ (HZ.out) (hm.get 1 rfl)).mono ?_; rintro e w3 ⟨S2, b2, he, hr, hu, hres⟩; subst he; have HR2 : Hid (ResTk (bs Sv) [115, 101, 97, 108, 40] false b2 (bs S2)) := hres; have HZ2 : Hid (S2.size ≤ 100000) := le_bs hres.1 HZ.out; have HB2 : Hid (b2 = false → 61 ≤ f + q ∧ q ≤ 60) := fun _ => (by have h1 := HFN.out; have h2 := HQ.out; omega); replace hm := hm.upd 1 rfl hu hr; clear hr hu hres)
    | (go_at_call 49; refine (two_any HIT.out 3 S2 q b2 g _ HF.out HZ2.out HN2.out HB2.out (hm.get 1 rfl)).mono ?_; rintro e w4 ⟨x, y, sx, S3, n3, b3, he, hsl, hr, hu, hres⟩; subst he; have HX0 : Hid (SlT (FN w3.heap.size w4.heap.size) w4 sx [x, y]) := hsl; have HL : Hid (g2 < w3.heap.size ∧ w.heap.size ≤ w3.heap.size) := ⟨(hm.get 0 rfl).lt, hm.size⟩; obtain ⟨p, cp, hv, _⟩ := HX0.out.len; subst hv; have HR3 : Hid (ResW f 3 q (bs S2) b2 b3 n3 (bs S3) x y) := hres; replace hm := hm.upd 1 rfl hu hr; clear hr hu hsl hres)
    | ((with_reducible refine at_op none (.store 24 (.tmp 2) (.tmp 78)) ?_); go_must (refine wpl_stwU 0 ([.int .i64 3, .int .i64 0, .slice p [x, y].length cp]) hm rfl rfl rfl 3 sz_term rfl rfl ((by intro v hv; simp only [List.mem_cons, List.not_mem_nil, or_false] at hv; rcases hv with rfl | rfl | rfl <;> rfl)) ?_); clear hm; intro w5 hu hm; have HXB : Hid (SlT (FN w.heap.size w5.heap.size) w5 (.slice p [x, y].length cp) [x, y]) := (HX0.out.keep (Keeps.upd hu (fun b hb he => by have h8 := HL.out; have h9 := hb.1; omega))).weak (fun b hb => ⟨Nat.le_trans HL.out.2 hb.1, Nat.lt_of_lt_of_le hb.2 hu.size⟩); clear HX0; clear hu))
  refine ret_cell 0 hm rfl Tryd.results36 rfl _ Tryd.underlying24 rfl 3 sz_term rfl rfl ?_
  refine ⟨mkT 3 0 [x, y], _, S3, n3, b3, rfl, (by rw [mkT_l]; exact HXB.out), hm.get 1 rfl, hm.toUpd, ?_⟩
  have h3 := HR3.out
  have h2 := HR2.out
  rw [HQ.out] at h3
  rw [HS.out] at h2 ⊢
  exact resP HN6.out HNC.out (Or.inl ⟨HCC.out, rfl, rfl⟩) h2 h3
set_option maxHeartbeats 4000000 in
set_option maxRecDepth 100000 in
theorem term_oth (f : Nat) (Sv : ByteArray) (n q : Nat) (hq : q = n + 1) (g : Nat) (w : World) (hn : n ≤ 300) (c : UInt8) (s : List UInt8) (hS : bs Sv = c :: s) (hn6 : n + 1 ≤ 60) (hz : Sv.size ≤ 100000) (HT : TRP f) (hf : f + 1 ≤ 61) (hfn : 61 ≤ f + 1 + n) (hc110 : ¬ c = 110) (hc107 : ¬ c = 107) (hc100 : ¬ c = 100) (hc115 : ¬ c = 115) (hr : Row w g [.string Sv, .int .i64 ((n : Nat) : Int), .bool false] 63) :
    Calls Tryd.prog 36 #[.pointer (some ⟨g, 0, none⟩)] w fun e w' => ∃ (t : Tm) (s : Value) (S' : ByteArray) (n' : Nat) (b' : Bool), e = .returned (.agg (tcs t s).toArray) ∧ SlT (FN w.heap.size w'.heap.size) w' s t.l ∧ Row w' g [.string S', .int .i64 ((n' : Nat) : Int), .bool b'] 63 ∧ Upd g w w' ∧ ResT (f + 1) n (bs Sv) false b' n' (bs S') t := by
  have hm := Mem.enter hr
  have HQI : Hid ((n : Int) + 1 = (q : Int)) := by show _ = _; omega
  have hn3 : n ≤ 300 := hn
  have hnz : ¬ Sv = ⟨#[]⟩ := fun h => by rw [h] at hS; cases hS
  have HE : Hid ((Sv == ⟨#[]⟩) = false) := eqs_no hnz
  have hgt : ¬ (q : Int) > 60 := by omega
  have HN6 : Hid (n + 1 ≤ 60) := by show n + 1 ≤ 60; omega
  have HQ : Hid (q = n + 1) := hq
  have HC : Hid ((bs Sv)[0]? = some c) := by show _ = _; rw [hS]; rfl
  have HS : Hid (bs Sv = c :: s) := hS
  have HZ : Hid (Sv.size ≤ 100000) := hz
  have e110 : ((c.toNat : Int) == 110) = false := ne_byte (k := 110) (by omega) hc110
  have e107 : ((c.toNat : Int) == 107) = false := ne_byte (k := 107) (by omega) hc107
  have e100 : ((c.toNat : Int) == 100) = false := ne_byte (k := 100) (by omega) hc100
  have e115 : ((c.toNat : Int) == 115) = false := ne_byte (k := 115) (by omega) hc115
  have HCC : Hid (¬ c = 115) := hc115
  have HNC : Hid (¬ (c = 110 ∨ c = 107 ∨ c = 100)) := by show ¬ _; rintro (h | h | h) <;> contradiction
  have HIT : Hid (TRP f) := HT
  have HF : Hid (f ≤ 61) := by show f ≤ 61; omega
  have HFN : Hid (61 ≤ f + (n + 1) ∧ n + 1 ≤ 60) := ⟨by omega, hn6⟩
  have HN2 : Hid (q ≤ 200) := by show q ≤ 200; omega
  clear hr hn hz hnz hn6 hS hq HT hf hfn hc110 hc107 hc100 hc115
  go_enter Tryd.func36, Tryd.ntmps36
  go_wp2_with (first
    | ((with_reducible refine at_op (some 2) (.alloc 24) ?_); go_must (refine wpl_alloc _ zero_term hm ?_); clear hm; intro w1 g2 hm)
    | ((with_reducible refine at_op (some 9) (.load 3 (.tmp 8)) ?_); go_must (refine wpl_execG (.int .i64 (n : Int)) rfl (exec_ldx (.int .i64 (n : Int)) (Mem.cell hm 1 rfl 1) rfl ag_int) ?_))
    | ((with_reducible refine at_op none (.store 3 (.tmp 12) (.tmp 10)) ?_); go_must (refine wpl_stc 1 1 (.int .i64 ((n : Int) + 1)) hm rfl rfl rfl sz_int (by show 1 < 3; omega) rfl rfl ?_); clear hm; intro w2 hm; rw [HQI.out] at hm)
    | ((with_reducible refine at_op (some 16) (.load 4 (.tmp 15)) ?_); go_must (refine wpl_execG (.bool false) rfl (exec_ldx (.bool false) (Mem.cell hm 1 rfl 2) rfl ag_bool) ?_))
    | ((with_reducible refine at_opG (some 21) (.load 9 (.tmp 20)) (some (4, false)) ?_); go_must (refine wpl_execG (.string Sv) rfl (exec_ldx (.string Sv) (Mem.cell hm 1 rfl 0) rfl ag_str) ?_))
    | ((with_reducible refine at_opG (some 22) (.binOp .eql 9 (.tmp 21) (.const (.string { data := #[] })) 9) (some (4, false)) ?_); go_must (refine wpl_execG (.bool false) rfl (exec_eqB Sv ⟨#[]⟩ false rfl rfl (HE.out)) ?_))
    | ((with_reducible refine at_opG (some 28) (.load 3 (.tmp 27)) (some (11, false)) ?_); go_must (refine wpl_execG (.int .i64 (q : Int)) rfl (exec_ldx (.int .i64 (q : Int)) (Mem.cell hm 1 rfl 1) rfl ag_int) ?_))
    | ((with_reducible refine at_op (some 38) (.load 9 (.tmp 37)) ?_); go_must (refine wpl_execG (.string Sv) rfl (exec_ldx (.string Sv) (Mem.cell hm 1 rfl 0) rfl ag_str) ?_))
    | ((with_reducible refine at_op (some 39) (.index 9 (.tmp 38) (.const (.int .i64 0))) ?_); go_must (refine wpl_execG (.int .u8 (c.toNat : Int)) rfl (exec_ixsS Sv 0 c rfl rfl rfl (HC.out)) ?_))
    | (go_at_call 48; refine (take_any Sv ⟨#[40]⟩ ((q : Nat) : Int) false g _ (HZ.out) (hm.get 1 rfl)).mono ?_; rintro e w3 ⟨S2, b2, he, hr, hu, hres⟩; subst he; have HR2 : Hid (ResTk (bs Sv) [40] false b2 (bs S2)) := hres; have HZ2 : Hid (S2.size ≤ 100000) := le_bs hres.1 HZ.out; have HB2 : Hid (b2 = false → 61 ≤ f + q ∧ q ≤ 60) := fun _ => (by have h1 := HFN.out; have h2 := HQ.out; omega); replace hm := hm.upd 1 rfl hu hr; clear hr hu hres)
    | (go_at_call 49; refine (two_any HIT.out 4 S2 q b2 g _ HF.out HZ2.out HN2.out HB2.out (hm.get 1 rfl)).mono ?_; rintro e w4 ⟨x, y, sx, S3, n3, b3, he, hsl, hr, hu, hres⟩; subst he; have HX0 : Hid (SlT (FN w3.heap.size w4.heap.size) w4 sx [x, y]) := hsl; have HL : Hid (g2 < w3.heap.size ∧ w.heap.size ≤ w3.heap.size) := ⟨(hm.get 0 rfl).lt, hm.size⟩; obtain ⟨p, cp, hv, _⟩ := HX0.out.len; subst hv; have HR3 : Hid (ResW f 4 q (bs S2) b2 b3 n3 (bs S3) x y) := hres; replace hm := hm.upd 1 rfl hu hr; clear hr hu hsl hres)
    | ((with_reducible refine at_op none (.store 24 (.tmp 2) (.tmp 82)) ?_); go_must (refine wpl_stwU 0 ([.int .i64 4, .int .i64 0, .slice p [x, y].length cp]) hm rfl rfl rfl 3 sz_term rfl rfl ((by intro v hv; simp only [List.mem_cons, List.not_mem_nil, or_false] at hv; rcases hv with rfl | rfl | rfl <;> rfl)) ?_); clear hm; intro w5 hu hm; have HXB : Hid (SlT (FN w.heap.size w5.heap.size) w5 (.slice p [x, y].length cp) [x, y]) := (HX0.out.keep (Keeps.upd hu (fun b hb he => by have h8 := HL.out; have h9 := hb.1; omega))).weak (fun b hb => ⟨Nat.le_trans HL.out.2 hb.1, Nat.lt_of_lt_of_le hb.2 hu.size⟩); clear HX0; clear hu))
  refine ret_cell 0 hm rfl Tryd.results36 rfl _ Tryd.underlying24 rfl 3 sz_term rfl rfl ?_
  refine ⟨mkT 4 0 [x, y], _, S3, n3, b3, rfl, (by rw [mkT_l]; exact HXB.out), hm.get 1 rfl, hm.toUpd, ?_⟩
  have h3 := HR3.out
  have h2 := HR2.out
  rw [HQ.out] at h3
  rw [HS.out] at h2 ⊢
  exact resP HN6.out HNC.out (Or.inr ⟨HCC.out, rfl, rfl⟩) h2 h3
set_option maxRecDepth 100000 in
theorem term_all : ∀ f, TRP f := by
  intro f
  induction f with
  | zero =>
    intro Sv n b g w _ _ hn hb hr
    cases b with
    | true => exact term_bad 0 Sv n _ rfl g w hn hr
    | false => have := hb rfl; omega
  | succ f ih =>
    intro Sv n b g w hf hz hn hb hr
    cases b with
    | true => exact term_bad _ Sv n _ rfl g w hn hr
    | false =>
      obtain ⟨h61, h60⟩ := hb rfl
      by_cases hs : Sv = ⟨#[]⟩
      · exact term_end _ Sv n _ rfl g w hn hs h60 hr
      · by_cases hd : n = 60
        · exact term_deep _ Sv n _ rfl g w hn hs hd hr
        · obtain ⟨c, s, hS⟩ : ∃ c s, bs Sv = c :: s := by
            cases h : bs Sv with
            | nil => exact absurd (bs_inj (by rw [h]; rfl)) hs
            | cons c s => exact ⟨c, s, rfl⟩
          by_cases h1 : c = 110
          · exact term_110 f Sv n _ rfl g w hn c s hS (by omega) hz h1 hr
          · by_cases h2 : c = 107
            · exact term_107 f Sv n _ rfl g w hn c s hS (by omega) hz h2 hr
            · by_cases h3 : c = 100
              · exact term_100 f Sv n _ rfl g w hn c s hS (by omega) hz ih hf h61 h3 hr
              · by_cases h4 : c = 115
                · exact term_115 f Sv n _ rfl g w hn c s hS (by omega) hz ih hf h61 h4 hr
                · exact term_oth f Sv n _ rfl g w hn c s hS (by omega) hz ih hf h61 h1 h2 h3 h4 hr
end Go.Proofs.YtbphmcbflnaenaaDoor
