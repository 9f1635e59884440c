/- Package term: formed, Is. -/
import Derived.Test.YtbiinchmbclmcaaDoorTmCount
namespace Go.Proofs.YtbiinchmbclmcaaDoor
open Go Go.RowKit
set_option maxHeartbeats 4000000 in
set_option maxRecDepth 100000 in
theorem formed_any {F : Nat → Prop} (t : Tm) : ∀ (s : Value) (w : World), cnt t ≤ 100 → SlT F w s t.l →
    Calls Tryd.prog 15 #[.agg (tcs t s).toArray] w fun e w' => e = .returned (.bool (okT t)) ∧ Below w.heap.size w w' := by
  induction t using Tm.ind with
  | h t ih =>
  intro s w hc hs
  have HIH : Hid _ := ih
  clear ih
  obtain ⟨p, cap, rfl, hcap⟩ := hs.len
  obtain ⟨m, hml⟩ : ∃ m, m = t.l.length := ⟨_, rfl⟩
  have HM : Hid (∀ _ : Unit, m = t.l.length) := fun _ => hml
  have HS : Hid (SlT F w (.slice p m cap) t.l) := by rw [hml]; exact hs
  have HOK : Hid (∀ _ : Unit, okT t = (decide (1 ≤ t.k ∧ t.k ≤ 5) && decide (m = kn t.k) && hasF (nb t.k) t.n && t.l.all okT)) := fun _ => by rw [okT_eq, hml]; rfl
  rw [← hml]
  have hm100 : m < 100 := by
    have h1 := sum_ge (l := t.l) (k := t.l.length) (Nat.le_refl _)
    rw [List.take_length] at h1
    have h2 := cnt_eq t
    omega
  have HC : Hid (cnt t ≤ 100) := hc
  clear hs hml hcap hc
  have hm := Mem.start w
  by_cases hk : 1 ≤ t.k ∧ t.k ≤ 5
  · have HF1 : Hid (∀ _ : Unit, ∀ v ∈ [Value.string (mkS (wd t.k)), .bool (nb t.k), .int .i64 (kn t.k : Int)], v.oneCell' = true) := fun _ => by rw [← fmv_get hk]; exact fmv_one _
    have HHAS : Hid (∀ W, Calls Tryd.prog 25 #[.agg [Value.string (mkS (wd t.k)), .bool (nb t.k), .int .i64 (kn t.k : Int)].toArray, .int .i64 t.n] W fun e w' => e = .returned (.bool (hasF (nb t.k) t.n)) ∧ Below W.heap.size W w') := fun W => by
      have := has_any t.k t.n hk W
      rw [fmv_get hk] at this
      exact this
    have HFO : Hid (∀ W, Calls Tryd.prog 24 #[.int .i64 t.k] W fun e w' => e = .returned (.tuple #[.agg [Value.string (mkS (wd t.k)), .bool (nb t.k), .int .i64 (kn t.k : Int)].toArray, .bool true]) ∧ Below W.heap.size W w') := fun W => by
      have := formOf_any t.k W
      rw [fmv_get hk, decide_eq_true hk] at this
      exact this
    have HOK2 : Hid (∀ _ : Unit, okT t = (decide (m = kn t.k) && hasF (nb t.k) t.n && t.l.all okT)) := fun _ => by rw [HOK.out (), decide_eq_true hk, Bool.true_and]
    clear hk HOK
    by_cases hmk : m = kn t.k
    · have hne : ((m : Int) != (kn t.k : Int)) = false := by simp [hmk]
      cases hh : hasF (nb t.k) t.n with
      | false =>
        have HR : Hid (∀ _ : Unit, okT t = false) := fun _ => by rw [HOK2.out (), hh, Bool.and_false, Bool.false_and]
        rw [hh] at HHAS
        clear hh hmk
        go_enter Tryd.func15, Tryd.ntmps15
        go_wp2_with (first
          | ((with_reducible refine at_op (some 1) (.box 24 (.tmp 0)) ?_); go_must (refine wpl_box (tcs t (.slice p m cap)) rfl hm ?_); clear hm; intro w1 g1 hm)
          | ((with_reducible refine at_op (some 9) (.load 3 (.tmp 8)) ?_); go_must (refine wpl_execG (.int .i64 t.k) rfl (exec_ldx (.int .i64 t.k) (Mem.cell hm 0 rfl 0) rfl ag_int) ?_))
          | (go_at_call 24; go_must (refine (HFO.out _).mono ?_); rintro e w2 ⟨he, hb⟩; subst he; replace hm := hm.call hb; clear hb)
          | ((with_reducible refine at_op (some 3) (.alloc 57) ?_); go_must (refine wpl_alloc _ zero_form hm ?_); clear hm; intro w3 g3 hm)
          | ((with_reducible refine at_op none (.store 57 (.tmp 3) (.tmp 11)) ?_); go_must (refine wpl_stw 0 ([Value.string (mkS (wd t.k)), .bool (nb t.k), .int .i64 (kn t.k : Int)]) hm rfl rfl rfl 3 sz_form rfl rfl ((HF1.out ())) ?_); clear hm; intro w4 hm)
          | ((with_reducible refine at_opG (some 17) (.load 22 (.tmp 16)) (some (2, false)) ?_); go_must (refine wpl_execG (.slice p m cap) rfl (exec_ldx (.slice p m cap) (Mem.cell hm 1 rfl 2) rfl ag_terms) ?_))
          | ((with_reducible refine at_opG (some 20) (.load 3 (.tmp 19)) (some (2, false)) ?_); go_must (refine wpl_execG (.int .i64 (kn t.k : Int)) rfl (exec_ldx (.int .i64 (kn t.k : Int)) (Mem.cell hm 0 rfl 2) rfl ag_int) ?_))
          | ((with_reducible refine at_opG (some 24) (.load 57 (.tmp 3)) (some (10, false)) ?_); go_must (refine wpl_execG (.agg ([Value.string (mkS (wd t.k)), .bool (nb t.k), .int .i64 (kn t.k : Int)]).toArray) rfl (exec_ldsG 0 ([Value.string (mkS (wd t.k)), .bool (nb t.k), .int .i64 (kn t.k : Int)]) (Mem.get hm 0 rfl) rfl _ Tryd.underlying57 rfl 3 sz_form (Nat.le_refl _) rfl) ?_))
          | ((with_reducible refine at_opG (some 26) (.load 3 (.tmp 25)) (some (10, false)) ?_); go_must (refine wpl_execG (.int .i64 t.n) rfl (exec_ldx (.int .i64 t.n) (Mem.cell hm 1 rfl 1) rfl ag_int) ?_))
          | (go_at_call 25; go_must (refine (HHAS.out _).mono ?_); rintro e w5 ⟨he, hb⟩; subst he; replace hm := hm.call hb; clear hb))
        go_ret
        exact ⟨by rw [HR.out ()]; rfl, hm.below⟩
      | true =>
        have HOK3 : Hid (∀ _ : Unit, okT t = t.l.all okT) := fun _ => by rw [HOK2.out (), hh, decide_eq_true hmk]; rfl
        rw [hh] at HHAS
        clear hh hmk HOK2
        go_enter Tryd.func15, Tryd.ntmps15
        go_wp2_with (first
          | ((with_reducible refine at_op (some 1) (.box 24 (.tmp 0)) ?_); go_must (refine wpl_box (tcs t (.slice p m cap)) rfl hm ?_); clear hm; intro w1 g1 hm)
          | ((with_reducible refine at_op (some 9) (.load 3 (.tmp 8)) ?_); go_must (refine wpl_execG (.int .i64 t.k) rfl (exec_ldx (.int .i64 t.k) (Mem.cell hm 0 rfl 0) rfl ag_int) ?_))
          | (go_at_call 24; go_must (refine (HFO.out _).mono ?_); rintro e w2 ⟨he, hb⟩; subst he; replace hm := hm.call hb; clear hb)
          | ((with_reducible refine at_op (some 3) (.alloc 57) ?_); go_must (refine wpl_alloc _ zero_form hm ?_); clear hm; intro w3 g3 hm)
          | ((with_reducible refine at_op none (.store 57 (.tmp 3) (.tmp 11)) ?_); go_must (refine wpl_stw 0 ([Value.string (mkS (wd t.k)), .bool (nb t.k), .int .i64 (kn t.k : Int)]) hm rfl rfl rfl 3 sz_form rfl rfl ((HF1.out ())) ?_); clear hm; intro w4 hm)
          | ((with_reducible refine at_opG (some 17) (.load 22 (.tmp 16)) (some (2, false)) ?_); go_must (refine wpl_execG (.slice p m cap) rfl (exec_ldx (.slice p m cap) (Mem.cell hm 1 rfl 2) rfl ag_terms) ?_))
          | ((with_reducible refine at_opG (some 20) (.load 3 (.tmp 19)) (some (2, false)) ?_); go_must (refine wpl_execG (.int .i64 (kn t.k : Int)) rfl (exec_ldx (.int .i64 (kn t.k : Int)) (Mem.cell hm 0 rfl 2) rfl ag_int) ?_))
          | ((with_reducible refine at_opG (some 24) (.load 57 (.tmp 3)) (some (10, false)) ?_); go_must (refine wpl_execG (.agg ([Value.string (mkS (wd t.k)), .bool (nb t.k), .int .i64 (kn t.k : Int)]).toArray) rfl (exec_ldsG 0 ([Value.string (mkS (wd t.k)), .bool (nb t.k), .int .i64 (kn t.k : Int)]) (Mem.get hm 0 rfl) rfl _ Tryd.underlying57 rfl 3 sz_form (Nat.le_refl _) rfl) ?_))
          | ((with_reducible refine at_opG (some 26) (.load 3 (.tmp 25)) (some (10, false)) ?_); go_must (refine wpl_execG (.int .i64 t.n) rfl (exec_ldx (.int .i64 t.n) (Mem.cell hm 1 rfl 1) rfl ag_int) ?_))
          | (go_at_call 25; go_must (refine (HHAS.out _).mono ?_); rintro e w5 ⟨he, hb⟩; subst he; replace hm := hm.call hb; clear hb)
          | ((with_reducible refine at_op (some 31) (.load 22 (.tmp 30)) ?_); go_must (refine wpl_execG (.slice p m cap) rfl (exec_ldx (.slice p m cap) (Mem.cell hm 1 rfl 2) rfl ag_terms) ?_)))
        go_loopw [33] (fun vi wr => ∃ k : Nat, k ≤ m ∧ vi = .int .i64 (k : Int) ∧ Hid ((t.l.take k).all okT = true) ∧ Hid (Mem w [] wr [])) (fun vi _ => m - (intOf vi).toNat)
        case atStart => exact ⟨0, by omega, rfl, rfl, hm.sub (List.nil_sublist _)⟩
        case round =>
          clear hm
          obtain ⟨k, hk, rfl, HA, HMM⟩ := hrel
          by_cases hlt : k < m
          · have hki : (k : Int) < (m : Int) := by omega
            obtain ⟨b, o, rfl⟩ := HS.out.at (show 0 < m by omega)
            obtain ⟨x, hx⟩ := get_of (HM.out ()) hlt
            have hm := HMM.out
            obtain ⟨px, mx, cx, c0, c1, c2, hmx, hsx⟩ := (HS.out.below hm.below).cells hx
            have HMX : Hid (x ∈ t.l) := List.mem_of_getElem? hx
            have HCX : Hid (cnt x ≤ 100) := by show _ ≤ _; have := cnt_lt HMX.out; have := HC.out; omega
            have HX2 : Hid (SlT F wr (.slice px mx cx) x.l) := hsx
            have HNX : Hid (∀ _ : Unit, (t.l.take (k + 1)).all okT = okT x) := fun _ => by rw [List.take_add_one, hx]; simp only [List.all_append, HA.out]; simp
            have HB0 : Hid (Mem w [] wr []) := hm
            replace hm := Mem.start wr
            clear hsx hx HMM HA hmx
            cases hox : okT x with
            | false =>
              have HR : Hid (∀ _ : Unit, okT t = false) := fun _ => by
                rw [HOK3.out (), List.all_eq_false]
                exact ⟨x, HMX.out, by rw [hox]; decide⟩
              have HCALL : Hid (∀ W, Below wr.heap.size wr W → Calls Tryd.prog 15 #[.agg (tcs x (.slice px mx cx)).toArray] W fun e w' => e = .returned (.bool false) ∧ Below W.heap.size W w') := fun W hW => by
                have h9 := HIH.out x HMX.out (.slice px mx cx) W HCX.out (HX2.out.below hW)
                rw [hox] at h9
                exact h9
              clear hox HNX
              go_wp2_with (first
                | ((with_reducible refine at_op (some 35) (.indexAddr 22 (.tmp 31) (.tmp 33)) ?_); go_must (refine wpl_execG (.pointer (some ⟨b, o + k * 3, none⟩)) rfl (exec_ixT k rfl rfl rfl hlt) ?_))
                | ((with_reducible refine at_op (some 36) (.load 24 (.tmp 35)) ?_); go_must (refine wpl_execG (.agg (tcs x (.slice px mx cx)).toArray) rfl (exec_ldT rfl c0 c1 c2) ?_))
                | ((with_reducible refine at_op (some 6) (.alloc 24) ?_); go_must (refine wpl_alloc _ zero_term hm ?_); clear hm; intro w2 g2 hm)
                | ((with_reducible refine at_op none (.store 24 (.tmp 6) (.tmp 36)) ?_); go_must (refine wpl_stw 0 (tcs x (.slice px mx cx)) hm rfl rfl rfl 3 sz_term rfl rfl (oneTcs _ _ _ _) ?_); clear hm; intro w3 hm)
                | ((with_reducible refine at_op (some 37) (.load 24 (.tmp 6)) ?_); go_must (refine wpl_ldw 0 hm rfl rfl _ Tryd.underlying24 rfl 3 sz_term rfl ?_))
                | (go_at_call 15; go_must (refine (HCALL.out _ hm.below).mono ?_); rintro e w4 ⟨he, hb⟩; subst he; replace hm := hm.call hb; clear hb))
              go_ret
              exact ⟨by rw [HR.out ()]; rfl, (HB0.out.call hm.below).below⟩
            | true =>
              have HCALL : Hid (∀ W, Below wr.heap.size wr W → Calls Tryd.prog 15 #[.agg (tcs x (.slice px mx cx)).toArray] W fun e w' => e = .returned (.bool true) ∧ Below W.heap.size W w') := fun W hW => by
                have h9 := HIH.out x HMX.out (.slice px mx cx) W HCX.out (HX2.out.below hW)
                rw [hox] at h9
                exact h9
              have HNY : Hid ((t.l.take (k + 1)).all okT = true) := by show _ = _; rw [HNX.out (), hox]
              clear hox HNX
              go_wp2_with (first
                | ((with_reducible refine at_op (some 35) (.indexAddr 22 (.tmp 31) (.tmp 33)) ?_); go_must (refine wpl_execG (.pointer (some ⟨b, o + k * 3, none⟩)) rfl (exec_ixT k rfl rfl rfl hlt) ?_))
                | ((with_reducible refine at_op (some 36) (.load 24 (.tmp 35)) ?_); go_must (refine wpl_execG (.agg (tcs x (.slice px mx cx)).toArray) rfl (exec_ldT rfl c0 c1 c2) ?_))
                | ((with_reducible refine at_op (some 6) (.alloc 24) ?_); go_must (refine wpl_alloc _ zero_term hm ?_); clear hm; intro w2 g2 hm)
                | ((with_reducible refine at_op none (.store 24 (.tmp 6) (.tmp 36)) ?_); go_must (refine wpl_stw 0 (tcs x (.slice px mx cx)) hm rfl rfl rfl 3 sz_term rfl rfl (oneTcs _ _ _ _) ?_); clear hm; intro w3 hm)
                | ((with_reducible refine at_op (some 37) (.load 24 (.tmp 6)) ?_); go_must (refine wpl_ldw 0 hm rfl rfl _ Tryd.underlying24 rfl 3 sz_term rfl ?_))
                | (go_at_call 15; go_must (refine (HCALL.out _ hm.below).mono ?_); rintro e w4 ⟨he, hb⟩; subst he; replace hm := hm.call hb; clear hb))
              go_roundw
              case rel => exact ⟨k + 1, by omega, by go_num, HNY.out, HB0.out.call hm.below⟩
              case measure => simp [intOf]; omega
          · have hkn : m = k := by omega
            subst hkn
            have hni : ¬ (m : Int) < (m : Int) := by omega
            have HR : Hid (∀ _ : Unit, okT t = true) := fun _ => by
              have h1 := HA.out
              rw [HM.out (), List.take_length] at h1
              rw [HOK3.out (), h1]
            have hm := HMM.out
            clear HA
            go_wp2_with fail
            go_ret
            exact ⟨by rw [HR.out ()]; rfl, hm.below⟩
    · have hne : ((m : Int) != (kn t.k : Int)) = true := by simp; omega
      have HR : Hid (∀ _ : Unit, okT t = false) := fun _ => by rw [HOK2.out (), decide_eq_false hmk]; rfl
      clear hmk HOK2
      go_enter Tryd.func15, Tryd.ntmps15
      go_wp2_with (first
        | ((with_reducible refine at_op (some 1) (.box 24 (.tmp 0)) ?_); go_must (refine wpl_box (tcs t (.slice p m cap)) rfl hm ?_); clear hm; intro w1 g1 hm)
        | ((with_reducible refine at_op (some 9) (.load 3 (.tmp 8)) ?_); go_must (refine wpl_execG (.int .i64 t.k) rfl (exec_ldx (.int .i64 t.k) (Mem.cell hm 0 rfl 0) rfl ag_int) ?_))
        | (go_at_call 24; go_must (refine (HFO.out _).mono ?_); rintro e w2 ⟨he, hb⟩; subst he; replace hm := hm.call hb; clear hb)
        | ((with_reducible refine at_op (some 3) (.alloc 57) ?_); go_must (refine wpl_alloc _ zero_form hm ?_); clear hm; intro w3 g3 hm)
        | ((with_reducible refine at_op none (.store 57 (.tmp 3) (.tmp 11)) ?_); go_must (refine wpl_stw 0 ([Value.string (mkS (wd t.k)), .bool (nb t.k), .int .i64 (kn t.k : Int)]) hm rfl rfl rfl 3 sz_form rfl rfl ((HF1.out ())) ?_); clear hm; intro w4 hm)
        | ((with_reducible refine at_opG (some 17) (.load 22 (.tmp 16)) (some (2, false)) ?_); go_must (refine wpl_execG (.slice p m cap) rfl (exec_ldx (.slice p m cap) (Mem.cell hm 1 rfl 2) rfl ag_terms) ?_))
        | ((with_reducible refine at_opG (some 20) (.load 3 (.tmp 19)) (some (2, false)) ?_); go_must (refine wpl_execG (.int .i64 (kn t.k : Int)) rfl (exec_ldx (.int .i64 (kn t.k : Int)) (Mem.cell hm 0 rfl 2) rfl ag_int) ?_)))
      go_ret
      exact ⟨by rw [HR.out ()]; rfl, hm.below⟩
  · have HF1 : Hid (∀ _ : Unit, ∀ v ∈ [Value.string noStr, .bool false, .int .i64 0], v.oneCell' = true) := fun _ => by
      intro v hv; simp only [List.mem_cons, List.not_mem_nil, or_false] at hv; rcases hv with rfl | rfl | rfl <;> rfl
    have HFO : Hid (∀ W, Calls Tryd.prog 24 #[.int .i64 t.k] W fun e w' => e = .returned (.tuple #[.agg [.string noStr, .bool false, .int .i64 0].toArray, .bool false]) ∧ Below W.heap.size W w') := fun W => by
      have := formOf_any t.k W
      rw [fmv, if_neg hk, decide_eq_false hk] at this
      exact this
    have HR : Hid (∀ _ : Unit, okT t = false) := fun _ => by rw [HOK.out (), decide_eq_false hk]; rfl
    clear hk HOK
    go_enter Tryd.func15, Tryd.ntmps15
    go_wp2_with (first
      | ((with_reducible refine at_op (some 1) (.box 24 (.tmp 0)) ?_); go_must (refine wpl_box (tcs t (.slice p m cap)) rfl hm ?_); clear hm; intro w1 g1 hm)
      | ((with_reducible refine at_op (some 9) (.load 3 (.tmp 8)) ?_); go_must (refine wpl_execG (.int .i64 t.k) rfl (exec_ldx (.int .i64 t.k) (Mem.cell hm 0 rfl 0) rfl ag_int) ?_))
      | (go_at_call 24; go_must (refine (HFO.out _).mono ?_); rintro e w2 ⟨he, hb⟩; subst he; replace hm := hm.call hb; clear hb)
      | ((with_reducible refine at_op (some 3) (.alloc 57) ?_); go_must (refine wpl_alloc _ zero_form hm ?_); clear hm; intro w3 g3 hm)
      | ((with_reducible refine at_op none (.store 57 (.tmp 3) (.tmp 11)) ?_); go_must (refine wpl_stw 0 ([.string noStr, .bool false, .int .i64 0]) hm rfl rfl rfl 3 sz_form rfl rfl ((HF1.out ())) ?_); clear hm; intro w4 hm))
    go_ret
    exact ⟨by rw [HR.out ()]; rfl, hm.below⟩
set_option maxHeartbeats 1000000 in
set_option maxRecDepth 100000 in
theorem is_any {F : Nat → Prop} (t : Tm) (s : Value) (w : World) (hs : SlT F w s t.l) :
    Calls Tryd.prog 7 #[.agg (tcs t s).toArray] w fun e w' => e = .returned (.bool (isT t)) ∧ Below w.heap.size w w' := by
  have hm := Mem.start w
  have HS : Hid (SlT F w s t.l) := hs
  have HC : Hid (∀ W, Below w.heap.size w W → Calls Tryd.prog 10 #[.agg (tcs t s).toArray] W fun e w' => e = .returned (.int .i64 ((min 61 (cnt t) : Nat) : Int)) ∧ Below W.heap.size W w') := fun W hW => count_any t s W (HS.out.below hW)
  obtain ⟨c, hc⟩ : ∃ c, c = min 61 (cnt t) := ⟨_, rfl⟩
  rw [← hc] at HC
  by_cases h60 : cnt t ≤ 60
  · have hci : decide ((c : Int) ≤ 60) = true := decide_eq_true (by omega)
    have HFM : Hid (∀ W, Below w.heap.size w W → Calls Tryd.prog 15 #[.agg (tcs t s).toArray] W fun e w' => e = .returned (.bool (okT t)) ∧ Below W.heap.size W w') := fun W hW => formed_any t s W (by omega) (HS.out.below hW)
    have HR : Hid (∀ _ : Unit, isT t = okT t) := fun _ => by rw [isT, decide_eq_true h60, Bool.true_and]
    clear hs hc h60
    go_enter Tryd.func7, Tryd.ntmps7
    go_wp2_with (first
      | ((with_reducible refine at_op (some 1) (.box 24 (.tmp 0)) ?_); go_must (refine wpl_box (tcs t s) rfl hm ?_); clear hm; intro w1 g1 hm)
      | ((with_reducible refine at_op (some 3) (.load 24 (.tmp 1)) ?_); go_must (refine wpl_ldw 0 hm rfl rfl _ Tryd.underlying24 rfl 3 sz_term rfl ?_))
      | (go_at_call 10; go_must (refine (HC.out _ hm.below).mono ?_); rintro e w2 ⟨he, hb⟩; subst he; replace hm := hm.call hb; clear hb)
      | ((with_reducible refine at_opG (some 7) (.load 24 (.tmp 1)) (some (3, true)) ?_); go_must (refine wpl_execG (.agg (tcs t s).toArray) rfl (exec_ldsG 0 (tcs t s) (Mem.get hm 0 rfl) rfl _ Tryd.underlying24 rfl 3 sz_term (Nat.le_refl _) rfl) ?_))
      | (go_at_call 15; go_must (refine (HFM.out _ hm.below).mono ?_); rintro e w3 ⟨he, hb⟩; subst he; replace hm := hm.call hb; clear hb))
    go_ret
    exact ⟨by rw [HR.out ()]; rfl, hm.below⟩
  · have hci : decide ((c : Int) ≤ 60) = false := decide_eq_false (by omega)
    have HR : Hid (∀ _ : Unit, isT t = false) := fun _ => by rw [isT, decide_eq_false h60, Bool.false_and]
    clear hs hc h60
    go_enter Tryd.func7, Tryd.ntmps7
    go_wp2_with (first
      | ((with_reducible refine at_op (some 1) (.box 24 (.tmp 0)) ?_); go_must (refine wpl_box (tcs t s) rfl hm ?_); clear hm; intro w1 g1 hm)
      | ((with_reducible refine at_op (some 3) (.load 24 (.tmp 1)) ?_); go_must (refine wpl_ldw 0 hm rfl rfl _ Tryd.underlying24 rfl 3 sz_term rfl ?_))
      | (go_at_call 10; go_must (refine (HC.out _ hm.below).mono ?_); rintro e w2 ⟨he, hb⟩; subst he; replace hm := hm.call hb; clear hb))
    go_ret
    exact ⟨by rw [HR.out ()]; rfl, hm.below⟩
end Go.Proofs.YtbiinchmbclmcaaDoor
