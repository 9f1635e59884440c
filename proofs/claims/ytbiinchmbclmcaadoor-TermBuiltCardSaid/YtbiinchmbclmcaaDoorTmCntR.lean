/- The document's Count; few; what is like on top; where kids lie. -/
import Derived.Test.YtbiinchmbclmcaaDoorTmOpen
import Derived.Test.YtbiinchmbclmcaaDoorTmSameR
namespace Go.Proofs.YtbiinchmbclmcaaDoor
open Go Go.RowKit
set_option maxHeartbeats 4000000 in
set_option maxRecDepth 100000 in
theorem countR_any {F : Nat → Prop} (t : Tm) : ∀ (n : Nat) (s : Value) (w : World), n ≤ 100 → SlT F w s t.l →
    Calls Tryd.prog 14 #[.agg (tcs t s).toArray, .int .i64 (n : Int)] w fun e w' => e = .returned (.int .i64 ((min (n + 1) (cnt t) : Nat) : Int)) ∧ Below w.heap.size w w' := by
  induction t using Tm.ind with
  | h t ih =>
  intro n s w hn2 hs
  obtain ⟨p, cap, rfl, hcap⟩ := hs.len
  obtain ⟨m, hml⟩ : ∃ m, m = t.l.length := ⟨_, rfl⟩
  have HIH : Hid _ := ih
  have HM : Hid (∀ _ : Unit, m = t.l.length) := fun _ => hml
  have HS : Hid (SlT F w (.slice p m cap) t.l) := by rw [hml]; exact hs
  have HTK : Hid (∀ _ : Unit, ((t.l.take m).map cnt).sum + 1 = cnt t) := fun _ => by rw [hml, List.take_length, cnt_eq]; omega
  rw [← hml]
  clear ih hs hml hcap
  have hm := Mem.start w
  go_enter Tryd.func14, Tryd.ntmps14
  go_wp2_with (first
    | ((with_reducible refine at_op (some 2) (.box 24 (.tmp 0)) ?_); go_must (refine wpl_box (tcs t (.slice p m cap)) rfl hm ?_); clear hm; intro w1 g1 hm))
  have hmB : Hid (Mem w [] w1 [(g1, tcs t (.slice p m cap), 24)]) := hm
  go_loopw [6, 5] (fun vi vc wr => ∃ k c : Nat, k ≤ m ∧ vi = .int .i64 (k : Int) ∧ vc = .int .i64 (c : Int) ∧ Hid (c = min (n + 1) (1 + ((t.l.take k).map cnt).sum)) ∧ Hid (Mem w [] wr [(g1, tcs t (.slice p m cap), 24)])) (fun vi _ _ => m - (intOf vi).toNat)
  case atStart => exact ⟨0, 1, by omega, rfl, rfl, by show _ = _; simp, hm⟩
  case round =>
    clear hm hmB
    obtain ⟨k, c, hk, rfl, rfl, HC, HMM⟩ := hrel
    by_cases hlt : k < m
    · have hki : (k : Int) < (m : Int) := by omega
      obtain ⟨b, o, rfl⟩ := HS.out.at (show 0 < m by omega)
      obtain ⟨x, hx⟩ := get_of (HM.out ()) hlt
      have hm := HMM.out
      obtain ⟨px, mx, cx, c0, c1, c2, rfl, hsx⟩ := (HS.out.below hm.below).cells hx
      have HX : Hid (SlT F wr (.slice px x.l.length cx) x.l) := hsx
      have HNX : Hid (1 + ((t.l.take (k + 1)).map cnt).sum = 1 + ((t.l.take k).map cnt).sum + cnt x) := by show _ = _; rw [sum_take hx]; omega
      have HMX : Hid (x ∈ t.l) := List.mem_of_getElem? hx
      have hcn : c ≤ n + 1 := by have := HC.out; omega
      have HCN := HC
      obtain ⟨mx, hmx⟩ : ∃ mx, mx = x.l.length := ⟨_, rfl⟩
      have HX2 : Hid (SlT F wr (.slice px mx cx) x.l) := by rw [hmx]; exact HX.out
      rw [← hmx] at c2
      clear hsx hx HMM HX hmx
      by_cases hc : c = n + 1
      · have hci : ¬ (c : Int) ≤ (n : Int) := by omega
        have hci2 : ¬ c ≤ n := by omega
        have HR : Hid (∀ _ : Unit, min (n + 1) (cnt t) = c) := fun _ => by
          have h1 := HCN.out; have h2 := HTK.out ()
          have h3 : ((t.l.take k).map cnt).sum ≤ ((t.l.take m).map cnt).sum := by
            have e := List.take_append_drop k (t.l.take m)
            rw [List.take_take, Nat.min_eq_left (by omega)] at e
            rw [← e, List.map_append, List.sum_append]; omega
          omega
        clear hc HC HCN HNX
        go_wp2_with (first
          | ((with_reducible refine at_op (some 9) (.load 22 (.tmp 8)) ?_); go_must (refine wpl_execG (.slice (some ⟨b, o, none⟩) m cap) rfl (exec_ldx (.slice (some ⟨b, o, none⟩) m cap) (Mem.cell hm 0 rfl 2) rfl ag_terms) ?_)))
        go_ret
        exact ⟨by rw [HR.out ()]; rfl, hm.below⟩
      · have hci : (c : Int) ≤ (n : Int) := by omega
        have hci2 : c ≤ n := by omega
        obtain ⟨d, hd⟩ : ∃ d, d = min (n - c + 1) (cnt x) := ⟨_, rfl⟩
        have hd1 : d ≤ 101 := by omega
        have hk100 : k < 101 := by
          have h1 := sum_ge (l := t.l) (k := k) (by have := HM.out (); omega)
          have h2 := HCN.out
          omega
        have HND : Hid (c + d = min (n + 1) (1 + ((t.l.take (k + 1)).map cnt).sum)) := by show _ = _; have h1 := HCN.out; have h2 := HNX.out; omega
        have hw : IntKind.i64.wrap ((n : Int) - (c : Int)) = ((n - c : Nat) : Int) := (wrapi _ (by omega) (by omega)).trans (by omega)
        have hw2 : IntKind.i64.wrap ((c : Int) + (d : Int)) = ((c + d : Nat) : Int) := (wrapi _ (by omega) (by omega)).trans (by omega)
        have HCALL : Hid (∀ W, Below wr.heap.size wr W → Calls Tryd.prog 14 #[.agg (tcs x (.slice px mx cx)).toArray, .int .i64 ((n - c : Nat) : Int)] W fun e w' => e = .returned (.int .i64 (d : Int)) ∧ Below W.heap.size W w') := fun W hW => by
          have h9 := HIH.out x HMX.out (n - c) (.slice px mx cx) W (by omega) (HX2.out.below hW)
          rw [← hd] at h9
          exact h9
        have HB0 : Hid (Mem w [] wr [(g1, tcs t (.slice (some ⟨b, o, none⟩) m cap), 24)]) := hm
        have HBW : Hid (Below wr.heap.size wr wr) := Below.refl _ _
        clear hc hd HC HCN HNX
        go_wp2_with (first
          | ((with_reducible refine at_op (some 9) (.load 22 (.tmp 8)) ?_); go_must (refine wpl_execG (.slice (some ⟨b, o, none⟩) m cap) rfl (exec_ldx (.slice (some ⟨b, o, none⟩) m cap) (Mem.cell hm 0 rfl 2) rfl ag_terms) ?_))
          | ((with_reducible refine at_op (some 21) (.load 22 (.tmp 20)) ?_); go_must (refine wpl_execG (.slice (some ⟨b, o, none⟩) m cap) rfl (exec_ldx (.slice (some ⟨b, o, none⟩) m cap) (Mem.cell hm 0 rfl 2) rfl ag_terms) ?_))
          | ((with_reducible refine at_op (some 23) (.indexAddr 22 (.tmp 21) (.tmp 22)) ?_); go_must (refine wpl_execG (.pointer (some ⟨b, o + k * 3, none⟩)) rfl (exec_ixT k rfl rfl rfl hlt) ?_))
          | ((with_reducible refine at_op (some 24) (.load 24 (.tmp 23)) ?_); go_must (refine wpl_execG (.agg (tcs x (.slice px mx cx)).toArray) rfl (exec_ldT rfl c0 c1 c2) ?_))
          | (go_at_call 14; go_must (refine (HCALL.out _ HBW.out).mono ?_); rintro e w4 ⟨he, hb⟩; subst he; replace hm := hm.call hb; clear hb))
        go_roundw
        case rel => exact ⟨k + 1, c + d, by omega, by go_num, by first | rfl | (rw [hw2]), HND.out, hm⟩
        case measure => simp [intOf]; omega
    · have hkn : m = k := by omega
      subst hkn
      have hni : ¬ (m : Int) < (m : Int) := by omega
      have HR : Hid (∀ _ : Unit, min (n + 1) (cnt t) = c) := fun _ => by have h1 := HC.out; have h2 := HTK.out (); omega
      have hm := HMM.out
      clear HC
      go_wp2_with (first
        | ((with_reducible refine at_op (some 9) (.load 22 (.tmp 8)) ?_); go_must (refine wpl_execG (.slice p m cap) rfl (exec_ldx (.slice p m cap) (Mem.cell hm 0 rfl 2) rfl ag_terms) ?_)))
      go_ret
      exact ⟨by rw [HR.out ()]; rfl, hm.below⟩
set_option maxHeartbeats 1000000 in
set_option maxRecDepth 100000 in
theorem few_any {F : Nat → Prop} (t : Tm) (s : Value) (w : World) (hs : SlT F w s t.l) :
    Calls Tryd.prog 6 #[.agg (tcs t s).toArray] w fun e w' => e = .returned (.bool (decide (cnt t ≤ 80))) ∧ Below w.heap.size w w' := by
  have hm := Mem.start w
  have HS : Hid (SlT F w s t.l) := hs
  have HC : Hid (∀ W, Below w.heap.size w W → Calls Tryd.prog 14 #[.agg (tcs t s).toArray, .int .i64 80] W fun e w' => e = .returned (.int .i64 ((min 81 (cnt t) : Nat) : Int)) ∧ Below W.heap.size W w') := fun W hW => countR_any t 80 s W (by omega) (HS.out.below hW)
  obtain ⟨c, hc⟩ : ∃ c, c = min 81 (cnt t) := ⟨_, rfl⟩
  have HD : Hid (decide (cnt t ≤ 80) = decide ((c : Int) ≤ 80)) := by show decide _ = decide _; congr 1; apply propext; constructor <;> intro h <;> omega
  rw [← hc] at HC
  clear hs hc
  go_enter Tryd.func6, Tryd.ntmps6
  go_wp2_with (first
    | ((with_reducible refine at_op (some 1) (.box 24 (.tmp 0)) ?_); go_must (refine wpl_box (tcs t s) rfl hm ?_); clear hm; intro w1 g1 hm)
    | ((with_reducible refine at_op (some 3) (.load 24 (.tmp 1)) ?_); go_must (refine wpl_ldw 0 hm rfl rfl _ Tryd.underlying24 rfl 3 sz_term rfl ?_))
    | (go_at_call 14; go_must (refine (HC.out _ hm.below).mono ?_); rintro e w2 ⟨he, hb⟩; subst he; replace hm := hm.call hb; clear hb))
  go_ret
  exact ⟨by rw [HD.out]; rfl, hm.below⟩
end Go.Proofs.YtbiinchmbclmcaaDoor
