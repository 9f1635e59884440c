/- Package term: Count, formOf, formed, Is. -/
import Derived.Test.YtbiinchmbclmcaaDoorTmAt
namespace Go.Proofs.YtbiinchmbclmcaaDoor
open Go Go.RowKit
set_option maxRecDepth 100000 in
theorem oneTcs (t : Tm) (p : Option Addr) (m c : Nat) : ∀ v ∈ tcs t (.slice p m c), v.oneCell' = true := by
  intro v hv
  simp only [tcs, List.mem_cons, List.not_mem_nil, or_false] at hv
  rcases hv with rfl | rfl | rfl <;> rfl
set_option maxRecDepth 100000 in
theorem sum_take {l : List Tm} {k : Nat} {x : Tm} (hx : l[k]? = some x) : ((l.take (k + 1)).map cnt).sum = ((l.take k).map cnt).sum + cnt x := by
  rw [List.take_add_one, hx]; simp
set_option maxRecDepth 100000 in
theorem sum_ge {l : List Tm} {k : Nat} (h : k ≤ l.length) : k ≤ ((l.take k).map cnt).sum := by
  induction l generalizing k with
  | nil => simp at h; omega
  | cons x l ih =>
    cases k with
    | zero => omega
    | succ k =>
      have h1 := ih (k := k) (by simpa using h)
      have h2 := cnt_pos x
      simp only [List.take_succ_cons, List.map_cons, List.sum_cons]
      omega
set_option maxRecDepth 100000 in
theorem beq_int (a b : Int) (h : a = b) : (a == b) = true := by rw [h]; exact beq_self_eq_true b
set_option maxRecDepth 100000 in
theorem beq_int_no (a b : Int) (h : a ≠ b) : (a == b) = false := beq_eq_false_iff_ne.2 h
set_option maxRecDepth 100000 in
theorem get_of {l : List Tm} {k m : Nat} (hm : m = l.length) (h : k < m) : ∃ x, l[k]? = some x := by
  subst hm; exact ⟨l[k], List.getElem?_eq_getElem h⟩
set_option maxHeartbeats 4000000 in
set_option maxRecDepth 100000 in
theorem countTo_any {F : Nat → Prop} (t : Tm) : ∀ (n : Nat) (s : Value) (w : World), 1 ≤ n → n ≤ 100 → SlT F w s t.l →
    Calls Tryd.prog 20 #[.int .i64 (n : Int), .agg (tcs t s).toArray] w fun e w' => e = .returned (.int .i64 ((min n (cnt t) : Nat) : Int)) ∧ Below w.heap.size w w' := by
  induction t using Tm.ind with
  | h t ih =>
  intro n s w hn1 hn2 hs
  obtain ⟨p, cap, rfl, hcap⟩ := hs.len
  obtain ⟨m, hml⟩ : ∃ m, m = t.l.length := ⟨_, rfl⟩
  have HIH : Hid _ := ih
  have HM : Hid (∀ _ : Unit, m = t.l.length) := fun _ => hml
  have HS : Hid (SlT F w (.slice p m cap) t.l) := by rw [hml]; exact hs
  have HTK : Hid (∀ _ : Unit, ((t.l.take m).map cnt).sum + 1 = cnt t) := fun _ => by rw [hml, List.take_length, cnt_eq]; omega
  rw [← hml]
  clear ih hs hml hcap
  have hm := Mem.start w
  go_enter Tryd.func20, Tryd.ntmps20
  go_wp2_with (first
    | ((with_reducible refine at_op (some 3) (.box 24 (.tmp 1)) ?_); go_must (refine wpl_box (tcs t (.slice p m cap)) rfl hm ?_); clear hm; intro w1 g1 hm)
    | ((with_reducible refine at_op (some 9) (.load 22 (.tmp 8)) ?_); go_must (refine wpl_execG (.slice p m cap) rfl (exec_ldx (.slice p m cap) (Mem.cell hm 0 rfl 2) rfl ag_terms) ?_)))
  go_loopw [11, 5] (fun vi vc wr => ∃ k c : Nat, k ≤ m ∧ vi = .int .i64 (k : Int) ∧ vc = .int .i64 (c : Int) ∧ Hid (c = min n (1 + ((t.l.take k).map cnt).sum)) ∧ Hid (Mem w [] wr [])) (fun vi _ _ => m - (intOf vi).toNat)
  case atStart => exact ⟨0, 1, by omega, rfl, rfl, by show _ = _; simp; omega, hm.sub (List.nil_sublist _)⟩
  case round =>
    clear hm
    obtain ⟨k, c, hk, rfl, rfl, HC, HMM⟩ := hrel
    by_cases hlt : k < m
    · have hki : (k : Int) < (m : Int) := by omega
      obtain ⟨b, o, rfl⟩ := HS.out.at (show 0 < m by omega)
      obtain ⟨x, hx⟩ := get_of (HM.out ()) hlt
      have hm := HMM.out
      obtain ⟨px, mx, cx, c0, c1, c2, rfl, hsx⟩ := (HS.out.below hm.below).cells hx
      have HX : Hid (SlT F wr (.slice px x.l.length cx) x.l) := hsx
      have HNX : Hid (1 + ((t.l.take (k + 1)).map cnt).sum = 1 + ((t.l.take k).map cnt).sum + cnt x) := by show _ = _; rw [sum_take hx]; omega
      have HMX : Hid (x ∈ t.l) := List.mem_of_getElem? hx
      have hcn : c ≤ n := by have := HC.out; omega
      have HCN := HC
      obtain ⟨mx, hmx⟩ : ∃ mx, mx = x.l.length := ⟨_, rfl⟩
      have HX2 : Hid (SlT F wr (.slice px mx cx) x.l) := by rw [hmx]; exact HX.out
      rw [← hmx] at c2
      clear hsx hx HMM HX hmx
      by_cases hc : c = n
      · have hci : ((c : Int) == (n : Int)) = true := beq_int _ _ (by omega)
        have HR : Hid (∀ _ : Unit, min n (cnt t) = c) := fun _ => by
          have h1 := HCN.out; have h2 := HTK.out ()
          have h3 : ((t.l.take k).map cnt).sum ≤ ((t.l.take m).map cnt).sum := by
            have e := List.take_append_drop k (t.l.take m)
            rw [List.take_take, Nat.min_eq_left (by omega)] at e
            rw [← e, List.map_append, List.sum_append]; omega
          omega
        clear hc HC HCN HNX
        go_wp2_with (first
          | ((with_reducible refine at_op (some 13) (.indexAddr 22 (.tmp 9) (.tmp 11)) ?_); go_must (refine wpl_execG (.pointer (some ⟨b, o + k * 3, none⟩)) rfl (exec_ixT k rfl rfl rfl hlt) ?_))
          | ((with_reducible refine at_op (some 14) (.load 24 (.tmp 13)) ?_); go_must (refine wpl_execG (.agg (tcs x (.slice px mx cx)).toArray) rfl (exec_ldT rfl c0 c1 c2) ?_))
          | ((with_reducible refine at_op (some 7) (.alloc 24) ?_); go_must (refine wpl_alloc _ zero_term hm ?_); clear hm; intro w2 g2 hm)
          | ((with_reducible refine at_op none (.store 24 (.tmp 7) (.tmp 14)) ?_); go_must (refine wpl_stw 0 (tcs x (.slice px mx cx)) hm rfl rfl rfl 3 sz_term rfl rfl (oneTcs _ _ _ _) ?_); clear hm; intro w3 hm))
        go_ret
        exact ⟨by rw [HR.out ()]; rfl, hm.below⟩
      · have hci : ((c : Int) == (n : Int)) = false := beq_int_no _ _ (by omega)
        obtain ⟨d, hd⟩ : ∃ d, d = min (n - c) (cnt x) := ⟨_, rfl⟩
        have hd1 : d ≤ 100 := by omega
        have hk100 : k < 100 := by
          have h1 := sum_ge (l := t.l) (k := k) (by have := HM.out (); omega)
          have h2 := HCN.out
          omega
        have HND : Hid (c + d = min n (1 + ((t.l.take (k + 1)).map cnt).sum)) := by show _ = _; have h1 := HCN.out; have h2 := HNX.out; omega
        have hw : IntKind.i64.wrap ((n : Int) - (c : Int)) = ((n - c : Nat) : Int) := (wrapi _ (by omega) (by omega)).trans (by omega)
        have hw2 : IntKind.i64.wrap ((c : Int) + (d : Int)) = ((c + d : Nat) : Int) := (wrapi _ (by omega) (by omega)).trans (by omega)
        have HCALL : Hid (∀ W, Below wr.heap.size wr W → Calls Tryd.prog 20 #[.int .i64 ((n - c : Nat) : Int), .agg (tcs x (.slice px mx cx)).toArray] W fun e w' => e = .returned (.int .i64 (d : Int)) ∧ Below W.heap.size W w') := fun W hW => by
          have h9 := HIH.out x HMX.out (n - c) (.slice px mx cx) W (by omega) (by omega) (HX2.out.below hW)
          rw [← hd] at h9
          exact h9
        have HST := Hid.out (show Hid (wr = wr) from rfl)
        have HB0 : Hid (Mem w [] wr []) := hm
        replace hm := Mem.start wr
        clear hc hd HC HCN HNX
        go_wp2_with (first
          | ((with_reducible refine at_op (some 13) (.indexAddr 22 (.tmp 9) (.tmp 11)) ?_); go_must (refine wpl_execG (.pointer (some ⟨b, o + k * 3, none⟩)) rfl (exec_ixT k rfl rfl rfl hlt) ?_))
          | ((with_reducible refine at_op (some 14) (.load 24 (.tmp 13)) ?_); go_must (refine wpl_execG (.agg (tcs x (.slice px mx cx)).toArray) rfl (exec_ldT rfl c0 c1 c2) ?_))
          | ((with_reducible refine at_op (some 7) (.alloc 24) ?_); go_must (refine wpl_alloc _ zero_term hm ?_); clear hm; intro w2 g2 hm)
          | ((with_reducible refine at_op none (.store 24 (.tmp 7) (.tmp 14)) ?_); go_must (refine wpl_stw 0 (tcs x (.slice px mx cx)) hm rfl rfl rfl 3 sz_term rfl rfl (oneTcs _ _ _ _) ?_); clear hm; intro w3 hm)
          | ((with_reducible refine at_op (some 22) (.load 24 (.tmp 7)) ?_); go_must (refine wpl_ldw 0 hm rfl rfl _ Tryd.underlying24 rfl 3 sz_term rfl ?_))
          | (go_at_call 20; go_must (refine (HCALL.out _ hm.below).mono ?_); rintro e w4 ⟨he, hb⟩; subst he; replace hm := hm.call hb; clear hb))
        go_roundw
        case rel => exact ⟨k + 1, c + d, by omega, by go_num, by first | rfl | (rw [hw2]), HND.out, HB0.out.call hm.below⟩
        case measure => simp [intOf]; omega
    · have hkn : m = k := by omega
      subst hkn
      have hni : ¬ (m : Int) < (m : Int) := by omega
      have HR : Hid (∀ _ : Unit, min n (cnt t) = c) := fun _ => by have h1 := HC.out; have h2 := HTK.out (); omega
      have hm := HMM.out
      clear HC
      go_wp2_with fail
      go_ret
      exact ⟨by rw [HR.out ()]; rfl, hm.below⟩
set_option maxHeartbeats 1000000 in
set_option maxRecDepth 100000 in
theorem count_any {F : Nat → Prop} (t : Tm) (s : Value) (w : World) (hs : SlT F w s t.l) :
    Calls Tryd.prog 10 #[.agg (tcs t s).toArray] w fun e w' => e = .returned (.int .i64 ((min 61 (cnt t) : Nat) : Int)) ∧ Below w.heap.size w w' := by
  have hm := Mem.start w
  have HS : Hid (SlT F w s t.l) := hs
  have HC : Hid (∀ W, Below w.heap.size w W → Calls Tryd.prog 20 #[.int .i64 61, .agg (tcs t s).toArray] W fun e w' => e = .returned (.int .i64 ((min 61 (cnt t) : Nat) : Int)) ∧ Below W.heap.size W w') := fun W hW => countTo_any t 61 s W (by omega) (by omega) (HS.out.below hW)
  obtain ⟨c, hc⟩ : ∃ c, c = min 61 (cnt t) := ⟨_, rfl⟩
  rw [← hc] at HC ⊢
  clear hs hc
  go_enter Tryd.func10, Tryd.ntmps10
  go_wp2_with (first
    | ((with_reducible refine at_op (some 1) (.box 24 (.tmp 0)) ?_); go_must (refine wpl_box (tcs t s) rfl hm ?_); clear hm; intro w1 g1 hm)
    | ((with_reducible refine at_op (some 3) (.load 24 (.tmp 1)) ?_); go_must (refine wpl_ldw 0 hm rfl rfl _ Tryd.underlying24 rfl 3 sz_term rfl ?_))
    | (go_at_call 20; go_must (refine (HC.out _ hm.below).mono ?_); rintro e w2 ⟨he, hb⟩; subst he; replace hm := hm.call hb; clear hb))
  go_ret
  exact ⟨rfl, hm.below⟩
/-! What a kind's form is. -/
def fmv (k : Int) : List Value := if 1 ≤ k ∧ k ≤ 5 then [.string (mkS (wd k)), .bool (nb k), .int .i64 (kn k : Int)] else [.string noStr, .bool false, .int .i64 0]
set_option maxRecDepth 100000 in
theorem fmv_one (k : Int) : ∀ v ∈ fmv k, v.oneCell' = true := by
  intro v hv
  unfold fmv at hv
  split at hv
  all_goals
    simp only [List.mem_cons, List.not_mem_nil, or_false] at hv
    rcases hv with rfl | rfl | rfl <;> rfl
set_option maxRecDepth 100000 in
theorem fmv_len (k : Int) : (fmv k).length = 3 := by unfold fmv; split <;> rfl
set_option maxRecDepth 100000 in
theorem fmv_get {k : Int} (h : 1 ≤ k ∧ k ≤ 5) : fmv k = [.string (mkS (wd k)), .bool (nb k), .int .i64 (kn k : Int)] := if_pos h
set_option maxHeartbeats 2000000 in
set_option maxRecDepth 100000 in
theorem formOf_any (k : Int) (w : World) :
    Calls Tryd.prog 24 #[.int .i64 k] w fun e w' => e = .returned (.tuple #[.agg (fmv k).toArray, .bool (decide (1 ≤ k ∧ k ≤ 5))]) ∧ Below w.heap.size w w' := by
  have hm := Mem.start w
  have hcase : k = 1 ∨ k = 2 ∨ k = 3 ∨ k = 4 ∨ k = 5 ∨ ¬ (1 ≤ k ∧ k ≤ 5) := by omega
  rcases hcase with rfl | rfl | rfl | rfl | rfl | hk
  · have HF : Hid (∀ _ : Unit, fmv 1 = [.string (mkS [110]), .bool true, .int .i64 0]) := fun _ => rfl
    go_enter Tryd.func24, Tryd.ntmps24
    go_wp2_with (first
      | ((with_reducible refine at_op (some 2) (.alloc 57) ?_); go_must (refine wpl_alloc _ zero_form hm ?_); clear hm; intro w1 g1 hm)
      | ((with_reducible refine at_op none (.store 57 (.tmp 2) (.tmp 7)) ?_); go_must (refine wpl_stw 0 ([.string (mkS [110]), .bool true, .int .i64 0]) hm rfl rfl rfl 3 sz_form rfl rfl ((by intro v hv; simp only [List.mem_cons, List.not_mem_nil, or_false] at hv; rcases hv with rfl | rfl | rfl <;> rfl)) ?_); clear hm; intro w2 hm))
    refine ret_ct 0 (.bool true) hm rfl Tryd.results24 rfl rfl _ Tryd.underlying57 rfl 3 sz_form rfl rfl ?_
    rw [HF.out ()]
    exact ⟨rfl, hm.below⟩
  · have HF : Hid (∀ _ : Unit, fmv 2 = [.string (mkS [107]), .bool true, .int .i64 0]) := fun _ => rfl
    go_enter Tryd.func24, Tryd.ntmps24
    go_wp2_with (first
      | ((with_reducible refine at_op (some 2) (.alloc 57) ?_); go_must (refine wpl_alloc _ zero_form hm ?_); clear hm; intro w1 g1 hm)
      | ((with_reducible refine at_op none (.store 57 (.tmp 2) (.tmp 10)) ?_); go_must (refine wpl_stw 0 ([.string (mkS [107]), .bool true, .int .i64 0]) hm rfl rfl rfl 3 sz_form rfl rfl ((by intro v hv; simp only [List.mem_cons, List.not_mem_nil, or_false] at hv; rcases hv with rfl | rfl | rfl <;> rfl)) ?_); clear hm; intro w2 hm))
    refine ret_ct 0 (.bool true) hm rfl Tryd.results24 rfl rfl _ Tryd.underlying57 rfl 3 sz_form rfl rfl ?_
    rw [HF.out ()]
    exact ⟨rfl, hm.below⟩
  · have HF : Hid (∀ _ : Unit, fmv 3 = [.string (mkS [115, 101, 97, 108]), .bool false, .int .i64 2]) := fun _ => rfl
    go_enter Tryd.func24, Tryd.ntmps24
    go_wp2_with (first
      | ((with_reducible refine at_op (some 2) (.alloc 57) ?_); go_must (refine wpl_alloc _ zero_form hm ?_); clear hm; intro w1 g1 hm)
      | ((with_reducible refine at_op none (.store 57 (.tmp 2) (.tmp 13)) ?_); go_must (refine wpl_stw 0 ([.string (mkS [115, 101, 97, 108]), .bool false, .int .i64 2]) hm rfl rfl rfl 3 sz_form rfl rfl ((by intro v hv; simp only [List.mem_cons, List.not_mem_nil, or_false] at hv; rcases hv with rfl | rfl | rfl <;> rfl)) ?_); clear hm; intro w2 hm))
    refine ret_ct 0 (.bool true) hm rfl Tryd.results24 rfl rfl _ Tryd.underlying57 rfl 3 sz_form rfl rfl ?_
    rw [HF.out ()]
    exact ⟨rfl, hm.below⟩
  · have HF : Hid (∀ _ : Unit, fmv 4 = [.string noStr, .bool false, .int .i64 2]) := fun _ => rfl
    go_enter Tryd.func24, Tryd.ntmps24
    go_wp2_with (first
      | ((with_reducible refine at_op (some 2) (.alloc 57) ?_); go_must (refine wpl_alloc _ zero_form hm ?_); clear hm; intro w1 g1 hm)
      | ((with_reducible refine at_op none (.store 57 (.tmp 2) (.tmp 16)) ?_); go_must (refine wpl_stw 0 ([.string noStr, .bool false, .int .i64 2]) hm rfl rfl rfl 3 sz_form rfl rfl ((by intro v hv; simp only [List.mem_cons, List.not_mem_nil, or_false] at hv; rcases hv with rfl | rfl | rfl <;> rfl)) ?_); clear hm; intro w2 hm))
    refine ret_ct 0 (.bool true) hm rfl Tryd.results24 rfl rfl _ Tryd.underlying57 rfl 3 sz_form rfl rfl ?_
    rw [HF.out ()]
    exact ⟨rfl, hm.below⟩
  · have HF : Hid (∀ _ : Unit, fmv 5 = [.string (mkS [100]), .bool true, .int .i64 1]) := fun _ => rfl
    go_enter Tryd.func24, Tryd.ntmps24
    go_wp2_with (first
      | ((with_reducible refine at_op (some 2) (.alloc 57) ?_); go_must (refine wpl_alloc _ zero_form hm ?_); clear hm; intro w1 g1 hm)
      | ((with_reducible refine at_op none (.store 57 (.tmp 2) (.tmp 19)) ?_); go_must (refine wpl_stw 0 ([.string (mkS [100]), .bool true, .int .i64 1]) hm rfl rfl rfl 3 sz_form rfl rfl ((by intro v hv; simp only [List.mem_cons, List.not_mem_nil, or_false] at hv; rcases hv with rfl | rfl | rfl <;> rfl)) ?_); clear hm; intro w2 hm))
    refine ret_ct 0 (.bool true) hm rfl Tryd.results24 rfl rfl _ Tryd.underlying57 rfl 3 sz_form rfl rfl ?_
    rw [HF.out ()]
    exact ⟨rfl, hm.below⟩
  · have HF : Hid (∀ _ : Unit, fmv k = [.string noStr, .bool false, .int .i64 0] ∧ decide (1 ≤ k ∧ k ≤ 5) = false) := fun _ => ⟨if_neg hk, decide_eq_false hk⟩
    have e1 : (k == (1 : Int)) = false := beq_int_no _ _ (by omega)
    have e2 : (k == (2 : Int)) = false := beq_int_no _ _ (by omega)
    have e3 : (k == (3 : Int)) = false := beq_int_no _ _ (by omega)
    have e4 : (k == (4 : Int)) = false := beq_int_no _ _ (by omega)
    have e5 : (k == (5 : Int)) = false := beq_int_no _ _ (by omega)
    clear hk
    go_enter Tryd.func24, Tryd.ntmps24
    go_wp2_with (first
      | ((with_reducible refine at_op (some 2) (.alloc 57) ?_); go_must (refine wpl_alloc _ zero_form hm ?_); clear hm; intro w1 g1 hm)
      | ((with_reducible refine at_op none (.store 57 (.tmp 2) (.tmp 20)) ?_); go_must (refine wpl_stw 0 ([.string noStr, .bool false, .int .i64 0]) hm rfl rfl rfl 3 sz_form rfl rfl ((by intro v hv; simp only [List.mem_cons, List.not_mem_nil, or_false] at hv; rcases hv with rfl | rfl | rfl <;> rfl)) ?_); clear hm; intro w2 hm))
    refine ret_ct 0 (.bool false) hm rfl Tryd.results24 rfl rfl _ Tryd.underlying57 rfl 3 sz_form rfl rfl ?_
    rw [(HF.out ()).1, (HF.out ()).2]
    exact ⟨rfl, hm.below⟩
def hasF (b : Bool) (n : Int) : Bool := if b then decide (0 ≤ n ∧ n ≤ 99) else decide (n = 0)
set_option maxHeartbeats 1000000 in
set_option maxRecDepth 100000 in
theorem has_any (k n : Int) (h : 1 ≤ k ∧ k ≤ 5) (w : World) :
    Calls Tryd.prog 25 #[.agg (fmv k).toArray, .int .i64 n] w fun e w' => e = .returned (.bool (hasF (nb k) n)) ∧ Below w.heap.size w w' := by
  have hm := Mem.start w
  have HF : Hid (∀ _ : Unit, fmv k = [.string (mkS (wd k)), .bool (nb k), .int .i64 (kn k : Int)]) := fun _ => fmv_get h
  rw [HF.out ()]
  clear h
  cases hb : nb k with
  | true =>
    have HR : Hid (∀ _ : Unit, hasF true n = (decide (0 ≤ n) && decide (n ≤ 99))) := fun _ => by simp [hasF]
    rw [HR.out ()]
    clear hb
    go_enter Tryd.func25, Tryd.ntmps25
    go_wp2_with (first
      | ((with_reducible refine at_op (some 2) (.box 57 (.tmp 0)) ?_); go_must (refine wpl_box [.string (mkS (wd k)), .bool true, .int .i64 (kn k : Int)] rfl hm ?_); clear hm; intro w1 g1 hm)
      | ((with_reducible refine at_op (some 6) (.load 4 (.tmp 5)) ?_); go_must (refine wpl_execG (.bool true) rfl (exec_ldx (.bool true) (Mem.cell hm 0 rfl 1) rfl ag_bool) ?_)))
    all_goals go_ret
    all_goals exact ⟨by first | rfl | (simp_all; done) | (simp_all; omega), hm.below⟩
  | false =>
    have HR : Hid (∀ _ : Unit, hasF false n = decide (n = 0)) := fun _ => rfl
    rw [HR.out ()]
    clear hb
    go_enter Tryd.func25, Tryd.ntmps25
    go_wp2_with (first
      | ((with_reducible refine at_op (some 2) (.box 57 (.tmp 0)) ?_); go_must (refine wpl_box [.string (mkS (wd k)), .bool false, .int .i64 (kn k : Int)] rfl hm ?_); clear hm; intro w1 g1 hm)
      | ((with_reducible refine at_op (some 6) (.load 4 (.tmp 5)) ?_); go_must (refine wpl_execG (.bool false) rfl (exec_ldx (.bool false) (Mem.cell hm 0 rfl 1) rfl ag_bool) ?_)))
    all_goals go_ret
    all_goals exact ⟨by first | rfl | (simp_all; done) | (simp_all; omega), hm.below⟩
end Go.Proofs.YtbiinchmbclmcaaDoor
