/- The statement TermBuilt: for every input the law returns true and each argument reads as it did; nothing is assumed but what its row lists: that seven variables of the library (tables of bits and of runes, the errors of numerals) hold at the start what its text lays. -/
import Derived.Test.YtbiinchmbclmcaaDoorTmFrame
import Derived.Test.YtbiinchmbclmcaaDoorTermBuiltS
import Derived.Test.YtbiinchmbclmcaaDoorTermBuiltG
namespace Go.Proofs.YtbiinchmbclmcaaDoor
open Go Go.RowKit
theorem un_u8s : Tryd.prog.underlying 31 = some (.slice 5) := Tryd.underlying31
set_option maxHeartbeats 4000000 in
set_option maxRecDepth 100000 in
theorem tbuilt_0 (ta tb : Tm) (sa sb : Value) (n : Int) (_bn : 0 ≤ n ∧ n < 256) (Wa : World) (hE : Esx Wa) (h10 : 10 ≤ Wa.heap.size) (hs : SlT (fun _ => True) Wa sa ta.l) (hv : SlT (fun _ => True) Wa sb tb.l) (fa : ¬ cnt ta ≤ 80) :
    Calls Tryd.prog 4 #[.agg (tcs ta sa).toArray, .agg (tcs tb sb).toArray, .int .u8 n] Wa fun e w' => e = .returned (.bool true) ∧ Below Wa.heap.size Wa w' := by
  have hm := Mem.start Wa
  have HSA : Hid (SlT (fun _ => True) Wa sa ta.l) := hs
  have HSB : Hid (SlT (fun _ => True) Wa sb tb.l) := hv
  have HKN : Hid (∀ w, Below Wa.heap.size Wa w → Calls Tryd.prog 5 #[] w fun e w' => e = .returned (.bool true) ∧ Below w.heap.size w w') := fun w hW => known_any w (hE.below hW) (Nat.le_trans h10 hW.size)
  have HFA : Hid (∀ w, Below Wa.heap.size Wa w → Calls Tryd.prog 6 #[.agg (tcs ta sa).toArray] w fun e w' => e = .returned (.bool false) ∧ Below w.heap.size w w') := fun w hW => by have h := few_any ta sa w (HSA.out.below hW); rw [decide_eq_false fa] at h; exact h
  clear hE h10 hs hv _bn fa
  go_enter Tryd.func4, Tryd.ntmps4
  go_wp2_with (first
    | ((with_reducible refine at_op (some 3) (.box 24 (.tmp 0)) ?_); go_must (refine wpl_box (tcs ta sa) rfl hm ?_); clear hm; intro w1 g1 hm)
    | ((with_reducible refine at_op (some 4) (.box 24 (.tmp 1)) ?_); go_must (refine wpl_box (tcs tb sb) rfl hm ?_); clear hm; intro w2 g2 hm)
    | (go_at_call 5; go_must (refine (HKN.out _ hm.below).mono ?_); rintro e wk ⟨he, hb⟩; subst he; replace hm := hm.call hb; clear hb))
  refine wp_ends0 ?_
  refine anyH_startB (T := fun W => Mem Wa [] W [(g2, tcs tb sb, 24), (g1, tcs ta sa, 24)]) (by kernel_rfl) hm ?_
  intro wc hbw hmw
  replace hm : Mem Wa [] wc [(g2, tcs tb sb, 24), (g1, tcs ta sa, 24)] := hmw
  clear hbw hmw
  refine anyH_take 0 (v := .agg (tcs ta sa).toArray) rfl (by kernel_rfl) (by kernel_rfl) (by kernel_rfl) rfl (fun W hW => exec_ldsG 0 (tcs ta sa) (Mem.get hW 1 rfl) rfl _ Tryd.underlying24 rfl 3 sz_term (Nat.le_refl _) rfl) hm ?_
  go_simp
  refine wpAnyH_all (rs := [1]) (by kernel_rfl) (by simp) ?_
  intro i hi
  simp only [List.mem_cons, List.not_mem_nil, or_false] at hi
  subst hi
  refine anyH_opW 1 rfl rfl ?_
  intro K hK
  go_wp2_with (go_at_call 6; refine (HFA.out _ hm.below).mono ?_; rintro e wd1 ⟨he, hb⟩; subst he; replace hm := hm.call hb; clear hb)
  refine hK _ _ hm ?_
  clear hK K
  go_simp
  refine anyH_take 2 (v := .bool true) rfl (by kernel_rfl) (by kernel_rfl) (by kernel_rfl) rfl (fun W _ => by go_simp) hm ?_
  go_simp
  refine anyH_take 3 (v := .bool true) rfl (by kernel_rfl) (by kernel_rfl) (by kernel_rfl) rfl (fun W _ => by go_simp) hm ?_
  go_simp
  refine anyH_skip 4 rfl (by kernel_rfl) (by kernel_rfl) (by kernel_rfl) rfl hm ?_
  go_simp
  refine anyH_skip 5 rfl (by kernel_rfl) (by kernel_rfl) (by kernel_rfl) rfl hm ?_
  go_simp
  refine anyH_skip 6 rfl (by kernel_rfl) (by kernel_rfl) (by kernel_rfl) rfl hm ?_
  go_simp
  refine anyH_take 7 (v := .bool true) rfl (by kernel_rfl) (by kernel_rfl) (by kernel_rfl) rfl (fun W _ => by go_simp) hm ?_
  go_simp
  refine anyH_take 8 (v := .bool true) rfl (by kernel_rfl) (by kernel_rfl) (by kernel_rfl) rfl (fun W _ => by go_simp) hm ?_
  go_simp
  refine anyH_skip 9 rfl (by kernel_rfl) (by kernel_rfl) (by kernel_rfl) rfl hm ?_
  go_simp
  refine anyH_skip 10 rfl (by kernel_rfl) (by kernel_rfl) (by kernel_rfl) rfl hm ?_
  go_simp
  refine anyH_skip 11 rfl (by kernel_rfl) (by kernel_rfl) (by kernel_rfl) rfl hm ?_
  go_simp
  refine anyH_take 12 (v := .bool true) rfl (by kernel_rfl) (by kernel_rfl) (by kernel_rfl) rfl (fun W _ => by go_simp) hm ?_
  go_simp
  refine anyH_take 13 (v := .bool true) rfl (by kernel_rfl) (by kernel_rfl) (by kernel_rfl) rfl (fun W _ => by go_simp) hm ?_
  go_simp
  refine anyH_skip 14 rfl (by kernel_rfl) (by kernel_rfl) (by kernel_rfl) rfl hm ?_
  go_simp
  refine anyH_skip 15 rfl (by kernel_rfl) (by kernel_rfl) (by kernel_rfl) rfl hm ?_
  go_simp
  refine anyH_skip 16 rfl (by kernel_rfl) (by kernel_rfl) (by kernel_rfl) rfl hm ?_
  go_simp
  refine anyH_take 17 (v := .bool true) rfl (by kernel_rfl) (by kernel_rfl) (by kernel_rfl) rfl (fun W _ => by go_simp) hm ?_
  go_simp
  refine anyH_take 18 (v := .bool true) rfl (by kernel_rfl) (by kernel_rfl) (by kernel_rfl) rfl (fun W _ => by go_simp) hm ?_
  go_simp
  refine anyH_skip 19 rfl (by kernel_rfl) (by kernel_rfl) (by kernel_rfl) rfl hm ?_
  go_simp
  refine anyH_skip 20 rfl (by kernel_rfl) (by kernel_rfl) (by kernel_rfl) rfl hm ?_
  go_simp
  refine anyH_skip 21 rfl (by kernel_rfl) (by kernel_rfl) (by kernel_rfl) rfl hm ?_
  go_simp
  refine anyH_skip 22 rfl (by kernel_rfl) (by kernel_rfl) (by kernel_rfl) rfl hm ?_
  go_simp
  refine anyH_skip 23 rfl (by kernel_rfl) (by kernel_rfl) (by kernel_rfl) rfl hm ?_
  go_simp
  refine anyH_skip 24 rfl (by kernel_rfl) (by kernel_rfl) (by kernel_rfl) rfl hm ?_
  go_simp
  refine anyH_take 25 (v := .bool true) rfl (by kernel_rfl) (by kernel_rfl) (by kernel_rfl) rfl (fun W _ => by go_simp) hm ?_
  go_simp
  refine wpAnyH_done (by kernel_rfl) ?_ _
  simp only [endsIn]
  go_wp2_with fail
  go_ret
  exact ⟨rfl, hm.below⟩
set_option maxHeartbeats 4000000 in
set_option maxRecDepth 100000 in
theorem tbuilt_1 (ta tb : Tm) (sa sb : Value) (n : Int) (_bn : 0 ≤ n ∧ n < 256) (Wa : World) (hE : Esx Wa) (h10 : 10 ≤ Wa.heap.size) (hs : SlT (fun _ => True) Wa sa ta.l) (hv : SlT (fun _ => True) Wa sb tb.l) (fa : cnt ta ≤ 80) (fb : ¬ cnt tb ≤ 80) :
    Calls Tryd.prog 4 #[.agg (tcs ta sa).toArray, .agg (tcs tb sb).toArray, .int .u8 n] Wa fun e w' => e = .returned (.bool true) ∧ Below Wa.heap.size Wa w' := by
  have hm := Mem.start Wa
  have HSA : Hid (SlT (fun _ => True) Wa sa ta.l) := hs
  have HSB : Hid (SlT (fun _ => True) Wa sb tb.l) := hv
  have HKN : Hid (∀ w, Below Wa.heap.size Wa w → Calls Tryd.prog 5 #[] w fun e w' => e = .returned (.bool true) ∧ Below w.heap.size w w') := fun w hW => known_any w (hE.below hW) (Nat.le_trans h10 hW.size)
  have HFA : Hid (∀ w, Below Wa.heap.size Wa w → Calls Tryd.prog 6 #[.agg (tcs ta sa).toArray] w fun e w' => e = .returned (.bool true) ∧ Below w.heap.size w w') := fun w hW => by have h := few_any ta sa w (HSA.out.below hW); rw [decide_eq_true fa] at h; exact h
  have HFB : Hid (∀ w, Below Wa.heap.size Wa w → Calls Tryd.prog 6 #[.agg (tcs tb sb).toArray] w fun e w' => e = .returned (.bool false) ∧ Below w.heap.size w w') := fun w hW => by have h := few_any tb sb w (HSB.out.below hW); rw [decide_eq_false fb] at h; exact h
  clear hE h10 hs hv _bn fa fb
  go_enter Tryd.func4, Tryd.ntmps4
  go_wp2_with (first
    | ((with_reducible refine at_op (some 3) (.box 24 (.tmp 0)) ?_); go_must (refine wpl_box (tcs ta sa) rfl hm ?_); clear hm; intro w1 g1 hm)
    | ((with_reducible refine at_op (some 4) (.box 24 (.tmp 1)) ?_); go_must (refine wpl_box (tcs tb sb) rfl hm ?_); clear hm; intro w2 g2 hm)
    | (go_at_call 5; go_must (refine (HKN.out _ hm.below).mono ?_); rintro e wk ⟨he, hb⟩; subst he; replace hm := hm.call hb; clear hb))
  refine wp_ends0 ?_
  refine anyH_startB (T := fun W => Mem Wa [] W [(g2, tcs tb sb, 24), (g1, tcs ta sa, 24)]) (by kernel_rfl) hm ?_
  intro wc hbw hmw
  replace hm : Mem Wa [] wc [(g2, tcs tb sb, 24), (g1, tcs ta sa, 24)] := hmw
  clear hbw hmw
  refine anyH_take 0 (v := .agg (tcs ta sa).toArray) rfl (by kernel_rfl) (by kernel_rfl) (by kernel_rfl) rfl (fun W hW => exec_ldsG 0 (tcs ta sa) (Mem.get hW 1 rfl) rfl _ Tryd.underlying24 rfl 3 sz_term (Nat.le_refl _) rfl) hm ?_
  go_simp
  refine wpAnyH_all (rs := [1]) (by kernel_rfl) (by simp) ?_
  intro i hi
  simp only [List.mem_cons, List.not_mem_nil, or_false] at hi
  subst hi
  refine anyH_opW 1 rfl rfl ?_
  intro K hK
  go_wp2_with (go_at_call 6; refine (HFA.out _ hm.below).mono ?_; rintro e wd1 ⟨he, hb⟩; subst he; replace hm := hm.call hb; clear hb)
  refine hK _ _ hm ?_
  clear hK K
  go_simp
  refine anyH_take 2 (v := .bool false) rfl (by kernel_rfl) (by kernel_rfl) (by kernel_rfl) rfl (fun W _ => by go_simp) hm ?_
  go_simp
  refine anyH_take 3 (v := .bool false) rfl (by kernel_rfl) (by kernel_rfl) (by kernel_rfl) rfl (fun W _ => by go_simp) hm ?_
  go_simp
  refine anyH_takeG 4 (v := .agg (tcs tb sb).toArray) rfl (by kernel_rfl) (by kernel_rfl) (by kernel_rfl) rfl (fun W hW => exec_ldsG 0 (tcs tb sb) (Mem.get hW 0 rfl) rfl _ Tryd.underlying24 rfl 3 sz_term (Nat.le_refl _) rfl) hm ?_
  go_simp
  refine wpAnyH_all (rs := [5]) (by kernel_rfl) (by simp) ?_
  intro i hi
  simp only [List.mem_cons, List.not_mem_nil, or_false] at hi
  subst hi
  refine anyH_opW 5 rfl rfl ?_
  intro K hK
  go_wp2_with (go_at_call 6; refine (HFB.out _ hm.below).mono ?_; rintro e wd5 ⟨he, hb⟩; subst he; replace hm := hm.call hb; clear hb)
  refine hK _ _ hm ?_
  clear hK K
  go_simp
  refine anyH_takeG 6 (v := .bool true) rfl (by kernel_rfl) (by kernel_rfl) (by kernel_rfl) rfl (fun W _ => by go_simp) hm ?_
  go_simp
  refine anyH_take 7 (v := .bool true) rfl (by kernel_rfl) (by kernel_rfl) (by kernel_rfl) rfl (fun W _ => by go_simp) hm ?_
  go_simp
  refine anyH_take 8 (v := .bool true) rfl (by kernel_rfl) (by kernel_rfl) (by kernel_rfl) rfl (fun W _ => by go_simp) hm ?_
  go_simp
  refine anyH_skip 9 rfl (by kernel_rfl) (by kernel_rfl) (by kernel_rfl) rfl hm ?_
  go_simp
  refine anyH_skip 10 rfl (by kernel_rfl) (by kernel_rfl) (by kernel_rfl) rfl hm ?_
  go_simp
  refine anyH_skip 11 rfl (by kernel_rfl) (by kernel_rfl) (by kernel_rfl) rfl hm ?_
  go_simp
  refine anyH_take 12 (v := .bool true) rfl (by kernel_rfl) (by kernel_rfl) (by kernel_rfl) rfl (fun W _ => by go_simp) hm ?_
  go_simp
  refine anyH_take 13 (v := .bool true) rfl (by kernel_rfl) (by kernel_rfl) (by kernel_rfl) rfl (fun W _ => by go_simp) hm ?_
  go_simp
  refine anyH_skip 14 rfl (by kernel_rfl) (by kernel_rfl) (by kernel_rfl) rfl hm ?_
  go_simp
  refine anyH_skip 15 rfl (by kernel_rfl) (by kernel_rfl) (by kernel_rfl) rfl hm ?_
  go_simp
  refine anyH_skip 16 rfl (by kernel_rfl) (by kernel_rfl) (by kernel_rfl) rfl hm ?_
  go_simp
  refine anyH_take 17 (v := .bool true) rfl (by kernel_rfl) (by kernel_rfl) (by kernel_rfl) rfl (fun W _ => by go_simp) hm ?_
  go_simp
  refine anyH_take 18 (v := .bool true) rfl (by kernel_rfl) (by kernel_rfl) (by kernel_rfl) rfl (fun W _ => by go_simp) hm ?_
  go_simp
  refine anyH_skip 19 rfl (by kernel_rfl) (by kernel_rfl) (by kernel_rfl) rfl hm ?_
  go_simp
  refine anyH_skip 20 rfl (by kernel_rfl) (by kernel_rfl) (by kernel_rfl) rfl hm ?_
  go_simp
  refine anyH_skip 21 rfl (by kernel_rfl) (by kernel_rfl) (by kernel_rfl) rfl hm ?_
  go_simp
  refine anyH_skip 22 rfl (by kernel_rfl) (by kernel_rfl) (by kernel_rfl) rfl hm ?_
  go_simp
  refine anyH_skip 23 rfl (by kernel_rfl) (by kernel_rfl) (by kernel_rfl) rfl hm ?_
  go_simp
  refine anyH_skip 24 rfl (by kernel_rfl) (by kernel_rfl) (by kernel_rfl) rfl hm ?_
  go_simp
  refine anyH_take 25 (v := .bool true) rfl (by kernel_rfl) (by kernel_rfl) (by kernel_rfl) rfl (fun W _ => by go_simp) hm ?_
  go_simp
  refine wpAnyH_done (by kernel_rfl) ?_ _
  simp only [endsIn]
  go_wp2_with fail
  go_ret
  exact ⟨rfl, hm.below⟩
set_option maxHeartbeats 4000000 in
set_option maxRecDepth 100000 in
theorem tbuilt_2 (ta tb : Tm) (sa sb : Value) (n : Int) (_bn : 0 ≤ n ∧ n < 256) (Wa : World) (hE : Esx Wa) (h10 : 10 ≤ Wa.heap.size) (hs : SlT (fun _ => True) Wa sa ta.l) (hv : SlT (fun _ => True) Wa sb tb.l) (fa : cnt ta ≤ 80) (fb : cnt tb ≤ 80) (ia : isT ta = false) :
    Calls Tryd.prog 4 #[.agg (tcs ta sa).toArray, .agg (tcs tb sb).toArray, .int .u8 n] Wa fun e w' => e = .returned (.bool true) ∧ Below Wa.heap.size Wa w' := by
  have hm := Mem.start Wa
  have HSA : Hid (SlT (fun _ => True) Wa sa ta.l) := hs
  have HSB : Hid (SlT (fun _ => True) Wa sb tb.l) := hv
  have HKN : Hid (∀ w, Below Wa.heap.size Wa w → Calls Tryd.prog 5 #[] w fun e w' => e = .returned (.bool true) ∧ Below w.heap.size w w') := fun w hW => known_any w (hE.below hW) (Nat.le_trans h10 hW.size)
  have HFA : Hid (∀ w, Below Wa.heap.size Wa w → Calls Tryd.prog 6 #[.agg (tcs ta sa).toArray] w fun e w' => e = .returned (.bool true) ∧ Below w.heap.size w w') := fun w hW => by have h := few_any ta sa w (HSA.out.below hW); rw [decide_eq_true fa] at h; exact h
  have HFB : Hid (∀ w, Below Wa.heap.size Wa w → Calls Tryd.prog 6 #[.agg (tcs tb sb).toArray] w fun e w' => e = .returned (.bool true) ∧ Below w.heap.size w w') := fun w hW => by have h := few_any tb sb w (HSB.out.below hW); rw [decide_eq_true fb] at h; exact h
  have HIA : Hid (∀ w, Below Wa.heap.size Wa w → Calls Tryd.prog 7 #[.agg (tcs ta sa).toArray] w fun e w' => e = .returned (.bool false) ∧ Below w.heap.size w w') := fun w hW => by have h := is_any ta sa w (HSA.out.below hW); rw [ia] at h; exact h
  clear hE h10 hs hv _bn fa fb ia
  go_enter Tryd.func4, Tryd.ntmps4
  go_wp2_with (first
    | ((with_reducible refine at_op (some 3) (.box 24 (.tmp 0)) ?_); go_must (refine wpl_box (tcs ta sa) rfl hm ?_); clear hm; intro w1 g1 hm)
    | ((with_reducible refine at_op (some 4) (.box 24 (.tmp 1)) ?_); go_must (refine wpl_box (tcs tb sb) rfl hm ?_); clear hm; intro w2 g2 hm)
    | (go_at_call 5; go_must (refine (HKN.out _ hm.below).mono ?_); rintro e wk ⟨he, hb⟩; subst he; replace hm := hm.call hb; clear hb))
  refine wp_ends0 ?_
  refine anyH_startB (T := fun W => Mem Wa [] W [(g2, tcs tb sb, 24), (g1, tcs ta sa, 24)]) (by kernel_rfl) hm ?_
  intro wc hbw hmw
  replace hm : Mem Wa [] wc [(g2, tcs tb sb, 24), (g1, tcs ta sa, 24)] := hmw
  clear hbw hmw
  refine anyH_take 0 (v := .agg (tcs ta sa).toArray) rfl (by kernel_rfl) (by kernel_rfl) (by kernel_rfl) rfl (fun W hW => exec_ldsG 0 (tcs ta sa) (Mem.get hW 1 rfl) rfl _ Tryd.underlying24 rfl 3 sz_term (Nat.le_refl _) rfl) hm ?_
  go_simp
  refine wpAnyH_all (rs := [1]) (by kernel_rfl) (by simp) ?_
  intro i hi
  simp only [List.mem_cons, List.not_mem_nil, or_false] at hi
  subst hi
  refine anyH_opW 1 rfl rfl ?_
  intro K hK
  go_wp2_with (go_at_call 6; refine (HFA.out _ hm.below).mono ?_; rintro e wd1 ⟨he, hb⟩; subst he; replace hm := hm.call hb; clear hb)
  refine hK _ _ hm ?_
  clear hK K
  go_simp
  refine anyH_take 2 (v := .bool false) rfl (by kernel_rfl) (by kernel_rfl) (by kernel_rfl) rfl (fun W _ => by go_simp) hm ?_
  go_simp
  refine anyH_take 3 (v := .bool false) rfl (by kernel_rfl) (by kernel_rfl) (by kernel_rfl) rfl (fun W _ => by go_simp) hm ?_
  go_simp
  refine anyH_takeG 4 (v := .agg (tcs tb sb).toArray) rfl (by kernel_rfl) (by kernel_rfl) (by kernel_rfl) rfl (fun W hW => exec_ldsG 0 (tcs tb sb) (Mem.get hW 0 rfl) rfl _ Tryd.underlying24 rfl 3 sz_term (Nat.le_refl _) rfl) hm ?_
  go_simp
  refine wpAnyH_all (rs := [5]) (by kernel_rfl) (by simp) ?_
  intro i hi
  simp only [List.mem_cons, List.not_mem_nil, or_false] at hi
  subst hi
  refine anyH_opW 5 rfl rfl ?_
  intro K hK
  go_wp2_with (go_at_call 6; refine (HFB.out _ hm.below).mono ?_; rintro e wd5 ⟨he, hb⟩; subst he; replace hm := hm.call hb; clear hb)
  refine hK _ _ hm ?_
  clear hK K
  go_simp
  refine anyH_takeG 6 (v := .bool false) rfl (by kernel_rfl) (by kernel_rfl) (by kernel_rfl) rfl (fun W _ => by go_simp) hm ?_
  go_simp
  refine anyH_take 7 (v := .bool false) rfl (by kernel_rfl) (by kernel_rfl) (by kernel_rfl) rfl (fun W _ => by go_simp) hm ?_
  go_simp
  refine anyH_take 8 (v := .bool false) rfl (by kernel_rfl) (by kernel_rfl) (by kernel_rfl) rfl (fun W _ => by go_simp) hm ?_
  go_simp
  refine anyH_takeG 9 (v := .agg (tcs ta sa).toArray) rfl (by kernel_rfl) (by kernel_rfl) (by kernel_rfl) rfl (fun W hW => exec_ldsG 0 (tcs ta sa) (Mem.get hW 1 rfl) rfl _ Tryd.underlying24 rfl 3 sz_term (Nat.le_refl _) rfl) hm ?_
  go_simp
  refine wpAnyH_all (rs := [10]) (by kernel_rfl) (by simp) ?_
  intro i hi
  simp only [List.mem_cons, List.not_mem_nil, or_false] at hi
  subst hi
  refine anyH_opW 10 rfl rfl ?_
  intro K hK
  go_wp2_with (go_at_call 7; refine (HIA.out _ hm.below).mono ?_; rintro e wd10 ⟨he, hb⟩; subst he; replace hm := hm.call hb; clear hb)
  refine hK _ _ hm ?_
  clear hK K
  go_simp
  refine anyH_takeG 11 (v := .bool true) rfl (by kernel_rfl) (by kernel_rfl) (by kernel_rfl) rfl (fun W _ => by go_simp) hm ?_
  go_simp
  refine anyH_take 12 (v := .bool true) rfl (by kernel_rfl) (by kernel_rfl) (by kernel_rfl) rfl (fun W _ => by go_simp) hm ?_
  go_simp
  refine anyH_take 13 (v := .bool true) rfl (by kernel_rfl) (by kernel_rfl) (by kernel_rfl) rfl (fun W _ => by go_simp) hm ?_
  go_simp
  refine anyH_skip 14 rfl (by kernel_rfl) (by kernel_rfl) (by kernel_rfl) rfl hm ?_
  go_simp
  refine anyH_skip 15 rfl (by kernel_rfl) (by kernel_rfl) (by kernel_rfl) rfl hm ?_
  go_simp
  refine anyH_skip 16 rfl (by kernel_rfl) (by kernel_rfl) (by kernel_rfl) rfl hm ?_
  go_simp
  refine anyH_take 17 (v := .bool true) rfl (by kernel_rfl) (by kernel_rfl) (by kernel_rfl) rfl (fun W _ => by go_simp) hm ?_
  go_simp
  refine anyH_take 18 (v := .bool true) rfl (by kernel_rfl) (by kernel_rfl) (by kernel_rfl) rfl (fun W _ => by go_simp) hm ?_
  go_simp
  refine anyH_skip 19 rfl (by kernel_rfl) (by kernel_rfl) (by kernel_rfl) rfl hm ?_
  go_simp
  refine anyH_skip 20 rfl (by kernel_rfl) (by kernel_rfl) (by kernel_rfl) rfl hm ?_
  go_simp
  refine anyH_skip 21 rfl (by kernel_rfl) (by kernel_rfl) (by kernel_rfl) rfl hm ?_
  go_simp
  refine anyH_skip 22 rfl (by kernel_rfl) (by kernel_rfl) (by kernel_rfl) rfl hm ?_
  go_simp
  refine anyH_skip 23 rfl (by kernel_rfl) (by kernel_rfl) (by kernel_rfl) rfl hm ?_
  go_simp
  refine anyH_skip 24 rfl (by kernel_rfl) (by kernel_rfl) (by kernel_rfl) rfl hm ?_
  go_simp
  refine anyH_take 25 (v := .bool true) rfl (by kernel_rfl) (by kernel_rfl) (by kernel_rfl) rfl (fun W _ => by go_simp) hm ?_
  go_simp
  refine wpAnyH_done (by kernel_rfl) ?_ _
  simp only [endsIn]
  go_wp2_with fail
  go_ret
  exact ⟨rfl, hm.below⟩
set_option maxHeartbeats 4000000 in
set_option maxRecDepth 100000 in
theorem tbuilt_3 (ta tb : Tm) (sa sb : Value) (n : Int) (_bn : 0 ≤ n ∧ n < 256) (Wa : World) (hE : Esx Wa) (h10 : 10 ≤ Wa.heap.size) (hs : SlT (fun _ => True) Wa sa ta.l) (hv : SlT (fun _ => True) Wa sb tb.l) (fa : cnt ta ≤ 80) (fb : cnt tb ≤ 80) (ia : isT ta = true) (ib : isT tb = false) :
    Calls Tryd.prog 4 #[.agg (tcs ta sa).toArray, .agg (tcs tb sb).toArray, .int .u8 n] Wa fun e w' => e = .returned (.bool true) ∧ Below Wa.heap.size Wa w' := by
  have hm := Mem.start Wa
  have HSA : Hid (SlT (fun _ => True) Wa sa ta.l) := hs
  have HSB : Hid (SlT (fun _ => True) Wa sb tb.l) := hv
  have HKN : Hid (∀ w, Below Wa.heap.size Wa w → Calls Tryd.prog 5 #[] w fun e w' => e = .returned (.bool true) ∧ Below w.heap.size w w') := fun w hW => known_any w (hE.below hW) (Nat.le_trans h10 hW.size)
  have HFA : Hid (∀ w, Below Wa.heap.size Wa w → Calls Tryd.prog 6 #[.agg (tcs ta sa).toArray] w fun e w' => e = .returned (.bool true) ∧ Below w.heap.size w w') := fun w hW => by have h := few_any ta sa w (HSA.out.below hW); rw [decide_eq_true fa] at h; exact h
  have HFB : Hid (∀ w, Below Wa.heap.size Wa w → Calls Tryd.prog 6 #[.agg (tcs tb sb).toArray] w fun e w' => e = .returned (.bool true) ∧ Below w.heap.size w w') := fun w hW => by have h := few_any tb sb w (HSB.out.below hW); rw [decide_eq_true fb] at h; exact h
  have HIA : Hid (∀ w, Below Wa.heap.size Wa w → Calls Tryd.prog 7 #[.agg (tcs ta sa).toArray] w fun e w' => e = .returned (.bool true) ∧ Below w.heap.size w w') := fun w hW => by have h := is_any ta sa w (HSA.out.below hW); rw [ia] at h; exact h
  have HIB : Hid (∀ w, Below Wa.heap.size Wa w → Calls Tryd.prog 7 #[.agg (tcs tb sb).toArray] w fun e w' => e = .returned (.bool false) ∧ Below w.heap.size w w') := fun w hW => by have h := is_any tb sb w (HSB.out.below hW); rw [ib] at h; exact h
  clear hE h10 hs hv _bn fa fb ia ib
  go_enter Tryd.func4, Tryd.ntmps4
  go_wp2_with (first
    | ((with_reducible refine at_op (some 3) (.box 24 (.tmp 0)) ?_); go_must (refine wpl_box (tcs ta sa) rfl hm ?_); clear hm; intro w1 g1 hm)
    | ((with_reducible refine at_op (some 4) (.box 24 (.tmp 1)) ?_); go_must (refine wpl_box (tcs tb sb) rfl hm ?_); clear hm; intro w2 g2 hm)
    | (go_at_call 5; go_must (refine (HKN.out _ hm.below).mono ?_); rintro e wk ⟨he, hb⟩; subst he; replace hm := hm.call hb; clear hb))
  refine wp_ends0 ?_
  refine anyH_startB (T := fun W => Mem Wa [] W [(g2, tcs tb sb, 24), (g1, tcs ta sa, 24)]) (by kernel_rfl) hm ?_
  intro wc hbw hmw
  replace hm : Mem Wa [] wc [(g2, tcs tb sb, 24), (g1, tcs ta sa, 24)] := hmw
  clear hbw hmw
  refine anyH_take 0 (v := .agg (tcs ta sa).toArray) rfl (by kernel_rfl) (by kernel_rfl) (by kernel_rfl) rfl (fun W hW => exec_ldsG 0 (tcs ta sa) (Mem.get hW 1 rfl) rfl _ Tryd.underlying24 rfl 3 sz_term (Nat.le_refl _) rfl) hm ?_
  go_simp
  refine wpAnyH_all (rs := [1]) (by kernel_rfl) (by simp) ?_
  intro i hi
  simp only [List.mem_cons, List.not_mem_nil, or_false] at hi
  subst hi
  refine anyH_opW 1 rfl rfl ?_
  intro K hK
  go_wp2_with (go_at_call 6; refine (HFA.out _ hm.below).mono ?_; rintro e wd1 ⟨he, hb⟩; subst he; replace hm := hm.call hb; clear hb)
  refine hK _ _ hm ?_
  clear hK K
  go_simp
  refine anyH_take 2 (v := .bool false) rfl (by kernel_rfl) (by kernel_rfl) (by kernel_rfl) rfl (fun W _ => by go_simp) hm ?_
  go_simp
  refine anyH_take 3 (v := .bool false) rfl (by kernel_rfl) (by kernel_rfl) (by kernel_rfl) rfl (fun W _ => by go_simp) hm ?_
  go_simp
  refine anyH_takeG 4 (v := .agg (tcs tb sb).toArray) rfl (by kernel_rfl) (by kernel_rfl) (by kernel_rfl) rfl (fun W hW => exec_ldsG 0 (tcs tb sb) (Mem.get hW 0 rfl) rfl _ Tryd.underlying24 rfl 3 sz_term (Nat.le_refl _) rfl) hm ?_
  go_simp
  refine wpAnyH_all (rs := [5]) (by kernel_rfl) (by simp) ?_
  intro i hi
  simp only [List.mem_cons, List.not_mem_nil, or_false] at hi
  subst hi
  refine anyH_opW 5 rfl rfl ?_
  intro K hK
  go_wp2_with (go_at_call 6; refine (HFB.out _ hm.below).mono ?_; rintro e wd5 ⟨he, hb⟩; subst he; replace hm := hm.call hb; clear hb)
  refine hK _ _ hm ?_
  clear hK K
  go_simp
  refine anyH_takeG 6 (v := .bool false) rfl (by kernel_rfl) (by kernel_rfl) (by kernel_rfl) rfl (fun W _ => by go_simp) hm ?_
  go_simp
  refine anyH_take 7 (v := .bool false) rfl (by kernel_rfl) (by kernel_rfl) (by kernel_rfl) rfl (fun W _ => by go_simp) hm ?_
  go_simp
  refine anyH_take 8 (v := .bool false) rfl (by kernel_rfl) (by kernel_rfl) (by kernel_rfl) rfl (fun W _ => by go_simp) hm ?_
  go_simp
  refine anyH_takeG 9 (v := .agg (tcs ta sa).toArray) rfl (by kernel_rfl) (by kernel_rfl) (by kernel_rfl) rfl (fun W hW => exec_ldsG 0 (tcs ta sa) (Mem.get hW 1 rfl) rfl _ Tryd.underlying24 rfl 3 sz_term (Nat.le_refl _) rfl) hm ?_
  go_simp
  refine wpAnyH_all (rs := [10]) (by kernel_rfl) (by simp) ?_
  intro i hi
  simp only [List.mem_cons, List.not_mem_nil, or_false] at hi
  subst hi
  refine anyH_opW 10 rfl rfl ?_
  intro K hK
  go_wp2_with (go_at_call 7; refine (HIA.out _ hm.below).mono ?_; rintro e wd10 ⟨he, hb⟩; subst he; replace hm := hm.call hb; clear hb)
  refine hK _ _ hm ?_
  clear hK K
  go_simp
  refine anyH_takeG 11 (v := .bool false) rfl (by kernel_rfl) (by kernel_rfl) (by kernel_rfl) rfl (fun W _ => by go_simp) hm ?_
  go_simp
  refine anyH_take 12 (v := .bool false) rfl (by kernel_rfl) (by kernel_rfl) (by kernel_rfl) rfl (fun W _ => by go_simp) hm ?_
  go_simp
  refine anyH_take 13 (v := .bool false) rfl (by kernel_rfl) (by kernel_rfl) (by kernel_rfl) rfl (fun W _ => by go_simp) hm ?_
  go_simp
  refine anyH_takeG 14 (v := .agg (tcs tb sb).toArray) rfl (by kernel_rfl) (by kernel_rfl) (by kernel_rfl) rfl (fun W hW => exec_ldsG 0 (tcs tb sb) (Mem.get hW 0 rfl) rfl _ Tryd.underlying24 rfl 3 sz_term (Nat.le_refl _) rfl) hm ?_
  go_simp
  refine wpAnyH_all (rs := [15]) (by kernel_rfl) (by simp) ?_
  intro i hi
  simp only [List.mem_cons, List.not_mem_nil, or_false] at hi
  subst hi
  refine anyH_opW 15 rfl rfl ?_
  intro K hK
  go_wp2_with (go_at_call 7; refine (HIB.out _ hm.below).mono ?_; rintro e wd15 ⟨he, hb⟩; subst he; replace hm := hm.call hb; clear hb)
  refine hK _ _ hm ?_
  clear hK K
  go_simp
  refine anyH_takeG 16 (v := .bool true) rfl (by kernel_rfl) (by kernel_rfl) (by kernel_rfl) rfl (fun W _ => by go_simp) hm ?_
  go_simp
  refine anyH_take 17 (v := .bool true) rfl (by kernel_rfl) (by kernel_rfl) (by kernel_rfl) rfl (fun W _ => by go_simp) hm ?_
  go_simp
  refine anyH_take 18 (v := .bool true) rfl (by kernel_rfl) (by kernel_rfl) (by kernel_rfl) rfl (fun W _ => by go_simp) hm ?_
  go_simp
  refine anyH_skip 19 rfl (by kernel_rfl) (by kernel_rfl) (by kernel_rfl) rfl hm ?_
  go_simp
  refine anyH_skip 20 rfl (by kernel_rfl) (by kernel_rfl) (by kernel_rfl) rfl hm ?_
  go_simp
  refine anyH_skip 21 rfl (by kernel_rfl) (by kernel_rfl) (by kernel_rfl) rfl hm ?_
  go_simp
  refine anyH_skip 22 rfl (by kernel_rfl) (by kernel_rfl) (by kernel_rfl) rfl hm ?_
  go_simp
  refine anyH_skip 23 rfl (by kernel_rfl) (by kernel_rfl) (by kernel_rfl) rfl hm ?_
  go_simp
  refine anyH_skip 24 rfl (by kernel_rfl) (by kernel_rfl) (by kernel_rfl) rfl hm ?_
  go_simp
  refine anyH_take 25 (v := .bool true) rfl (by kernel_rfl) (by kernel_rfl) (by kernel_rfl) rfl (fun W _ => by go_simp) hm ?_
  go_simp
  refine wpAnyH_done (by kernel_rfl) ?_ _
  simp only [endsIn]
  go_wp2_with fail
  go_ret
  exact ⟨rfl, hm.below⟩
set_option maxHeartbeats 4000000 in
set_option maxRecDepth 100000 in
theorem tbuilt_4 (ta tb : Tm) (sa sb : Value) (n : Int) (_bn : 0 ≤ n ∧ n < 256) (Wa : World) (hE : Esx Wa) (h10 : 10 ≤ Wa.heap.size) (hs : SlT (fun _ => True) Wa sa ta.l) (hv : SlT (fun _ => True) Wa sb tb.l) (fa : cnt ta ≤ 80) (fb : cnt tb ≤ 80) (ia : isT ta = true) (ib : isT tb = true) (hc : 59 < cnt ta + cnt tb) :
    Calls Tryd.prog 4 #[.agg (tcs ta sa).toArray, .agg (tcs tb sb).toArray, .int .u8 n] Wa fun e w' => e = .returned (.bool true) ∧ Below Wa.heap.size Wa w' := by
  have hm := Mem.start Wa
  have HSA : Hid (SlT (fun _ => True) Wa sa ta.l) := hs
  have HSB : Hid (SlT (fun _ => True) Wa sb tb.l) := hv
  have HKN : Hid (∀ w, Below Wa.heap.size Wa w → Calls Tryd.prog 5 #[] w fun e w' => e = .returned (.bool true) ∧ Below w.heap.size w w') := fun w hW => known_any w (hE.below hW) (Nat.le_trans h10 hW.size)
  have HFA : Hid (∀ w, Below Wa.heap.size Wa w → Calls Tryd.prog 6 #[.agg (tcs ta sa).toArray] w fun e w' => e = .returned (.bool true) ∧ Below w.heap.size w w') := fun w hW => by have h := few_any ta sa w (HSA.out.below hW); rw [decide_eq_true fa] at h; exact h
  have HFB : Hid (∀ w, Below Wa.heap.size Wa w → Calls Tryd.prog 6 #[.agg (tcs tb sb).toArray] w fun e w' => e = .returned (.bool true) ∧ Below w.heap.size w w') := fun w hW => by have h := few_any tb sb w (HSB.out.below hW); rw [decide_eq_true fb] at h; exact h
  have HIA : Hid (∀ w, Below Wa.heap.size Wa w → Calls Tryd.prog 7 #[.agg (tcs ta sa).toArray] w fun e w' => e = .returned (.bool true) ∧ Below w.heap.size w w') := fun w hW => by have h := is_any ta sa w (HSA.out.below hW); rw [ia] at h; exact h
  have HIB : Hid (∀ w, Below Wa.heap.size Wa w → Calls Tryd.prog 7 #[.agg (tcs tb sb).toArray] w fun e w' => e = .returned (.bool true) ∧ Below w.heap.size w w') := fun w hW => by have h := is_any tb sb w (HSB.out.below hW); rw [ib] at h; exact h
  obtain ⟨ca, hca⟩ : ∃ c, c = min 61 (cnt ta) := ⟨_, rfl⟩
  obtain ⟨cb, hcb⟩ : ∃ c, c = min 61 (cnt tb) := ⟨_, rfl⟩
  have HCA : Hid (∀ w, Below Wa.heap.size Wa w → Calls Tryd.prog 10 #[.agg (tcs ta sa).toArray] w fun e w' => e = .returned (.int .i64 (ca : Int)) ∧ Below w.heap.size w w') := fun w hW => by rw [hca]; exact count_any ta sa w (HSA.out.below hW)
  have HCB : Hid (∀ w, Below Wa.heap.size Wa w → Calls Tryd.prog 10 #[.agg (tcs tb sb).toArray] w fun e w' => e = .returned (.int .i64 (cb : Int)) ∧ Below w.heap.size w w') := fun w hW => by rw [hcb]; exact count_any tb sb w (HSB.out.below hW)
  have HCS : Hid (IntKind.i64.wrap ((ca : Int) + (cb : Int)) = (ca : Int) + (cb : Int)) := wrapi _ (by omega) (by omega)
  have HCC : Hid (59 < (ca : Int) + (cb : Int)) := by show _ < _; have h1 := (isT_iff.1 ia).1; have h2 := (isT_iff.1 ib).1; omega
  clear hE h10 hs hv _bn fa fb ia ib hc hca hcb
  go_enter Tryd.func4, Tryd.ntmps4
  go_wp2_with (first
    | ((with_reducible refine at_op (some 3) (.box 24 (.tmp 0)) ?_); go_must (refine wpl_box (tcs ta sa) rfl hm ?_); clear hm; intro w1 g1 hm)
    | ((with_reducible refine at_op (some 4) (.box 24 (.tmp 1)) ?_); go_must (refine wpl_box (tcs tb sb) rfl hm ?_); clear hm; intro w2 g2 hm)
    | (go_at_call 5; go_must (refine (HKN.out _ hm.below).mono ?_); rintro e wk ⟨he, hb⟩; subst he; replace hm := hm.call hb; clear hb))
  refine wp_ends0 ?_
  refine anyH_startB (T := fun W => Mem Wa [] W [(g2, tcs tb sb, 24), (g1, tcs ta sa, 24)]) (by kernel_rfl) hm ?_
  intro wc hbw hmw
  replace hm : Mem Wa [] wc [(g2, tcs tb sb, 24), (g1, tcs ta sa, 24)] := hmw
  clear hbw hmw
  refine anyH_take 0 (v := .agg (tcs ta sa).toArray) rfl (by kernel_rfl) (by kernel_rfl) (by kernel_rfl) rfl (fun W hW => exec_ldsG 0 (tcs ta sa) (Mem.get hW 1 rfl) rfl _ Tryd.underlying24 rfl 3 sz_term (Nat.le_refl _) rfl) hm ?_
  go_simp
  refine wpAnyH_all (rs := [1]) (by kernel_rfl) (by simp) ?_
  intro i hi
  simp only [List.mem_cons, List.not_mem_nil, or_false] at hi
  subst hi
  refine anyH_opW 1 rfl rfl ?_
  intro K hK
  go_wp2_with (go_at_call 6; refine (HFA.out _ hm.below).mono ?_; rintro e wd1 ⟨he, hb⟩; subst he; replace hm := hm.call hb; clear hb)
  refine hK _ _ hm ?_
  clear hK K
  go_simp
  refine anyH_take 2 (v := .bool false) rfl (by kernel_rfl) (by kernel_rfl) (by kernel_rfl) rfl (fun W _ => by go_simp) hm ?_
  go_simp
  refine anyH_take 3 (v := .bool false) rfl (by kernel_rfl) (by kernel_rfl) (by kernel_rfl) rfl (fun W _ => by go_simp) hm ?_
  go_simp
  refine anyH_takeG 4 (v := .agg (tcs tb sb).toArray) rfl (by kernel_rfl) (by kernel_rfl) (by kernel_rfl) rfl (fun W hW => exec_ldsG 0 (tcs tb sb) (Mem.get hW 0 rfl) rfl _ Tryd.underlying24 rfl 3 sz_term (Nat.le_refl _) rfl) hm ?_
  go_simp
  refine wpAnyH_all (rs := [5]) (by kernel_rfl) (by simp) ?_
  intro i hi
  simp only [List.mem_cons, List.not_mem_nil, or_false] at hi
  subst hi
  refine anyH_opW 5 rfl rfl ?_
  intro K hK
  go_wp2_with (go_at_call 6; refine (HFB.out _ hm.below).mono ?_; rintro e wd5 ⟨he, hb⟩; subst he; replace hm := hm.call hb; clear hb)
  refine hK _ _ hm ?_
  clear hK K
  go_simp
  refine anyH_takeG 6 (v := .bool false) rfl (by kernel_rfl) (by kernel_rfl) (by kernel_rfl) rfl (fun W _ => by go_simp) hm ?_
  go_simp
  refine anyH_take 7 (v := .bool false) rfl (by kernel_rfl) (by kernel_rfl) (by kernel_rfl) rfl (fun W _ => by go_simp) hm ?_
  go_simp
  refine anyH_take 8 (v := .bool false) rfl (by kernel_rfl) (by kernel_rfl) (by kernel_rfl) rfl (fun W _ => by go_simp) hm ?_
  go_simp
  refine anyH_takeG 9 (v := .agg (tcs ta sa).toArray) rfl (by kernel_rfl) (by kernel_rfl) (by kernel_rfl) rfl (fun W hW => exec_ldsG 0 (tcs ta sa) (Mem.get hW 1 rfl) rfl _ Tryd.underlying24 rfl 3 sz_term (Nat.le_refl _) rfl) hm ?_
  go_simp
  refine wpAnyH_all (rs := [10]) (by kernel_rfl) (by simp) ?_
  intro i hi
  simp only [List.mem_cons, List.not_mem_nil, or_false] at hi
  subst hi
  refine anyH_opW 10 rfl rfl ?_
  intro K hK
  go_wp2_with (go_at_call 7; refine (HIA.out _ hm.below).mono ?_; rintro e wd10 ⟨he, hb⟩; subst he; replace hm := hm.call hb; clear hb)
  refine hK _ _ hm ?_
  clear hK K
  go_simp
  refine anyH_takeG 11 (v := .bool false) rfl (by kernel_rfl) (by kernel_rfl) (by kernel_rfl) rfl (fun W _ => by go_simp) hm ?_
  go_simp
  refine anyH_take 12 (v := .bool false) rfl (by kernel_rfl) (by kernel_rfl) (by kernel_rfl) rfl (fun W _ => by go_simp) hm ?_
  go_simp
  refine anyH_take 13 (v := .bool false) rfl (by kernel_rfl) (by kernel_rfl) (by kernel_rfl) rfl (fun W _ => by go_simp) hm ?_
  go_simp
  refine anyH_takeG 14 (v := .agg (tcs tb sb).toArray) rfl (by kernel_rfl) (by kernel_rfl) (by kernel_rfl) rfl (fun W hW => exec_ldsG 0 (tcs tb sb) (Mem.get hW 0 rfl) rfl _ Tryd.underlying24 rfl 3 sz_term (Nat.le_refl _) rfl) hm ?_
  go_simp
  refine wpAnyH_all (rs := [15]) (by kernel_rfl) (by simp) ?_
  intro i hi
  simp only [List.mem_cons, List.not_mem_nil, or_false] at hi
  subst hi
  refine anyH_opW 15 rfl rfl ?_
  intro K hK
  go_wp2_with (go_at_call 7; refine (HIB.out _ hm.below).mono ?_; rintro e wd15 ⟨he, hb⟩; subst he; replace hm := hm.call hb; clear hb)
  refine hK _ _ hm ?_
  clear hK K
  go_simp
  refine anyH_takeG 16 (v := .bool false) rfl (by kernel_rfl) (by kernel_rfl) (by kernel_rfl) rfl (fun W _ => by go_simp) hm ?_
  go_simp
  refine anyH_take 17 (v := .bool false) rfl (by kernel_rfl) (by kernel_rfl) (by kernel_rfl) rfl (fun W _ => by go_simp) hm ?_
  go_simp
  refine anyH_take 18 (v := .bool false) rfl (by kernel_rfl) (by kernel_rfl) (by kernel_rfl) rfl (fun W _ => by go_simp) hm ?_
  go_simp
  refine anyH_takeG 19 (v := .agg (tcs ta sa).toArray) rfl (by kernel_rfl) (by kernel_rfl) (by kernel_rfl) rfl (fun W hW => exec_ldsG 0 (tcs ta sa) (Mem.get hW 1 rfl) rfl _ Tryd.underlying24 rfl 3 sz_term (Nat.le_refl _) rfl) hm ?_
  go_simp
  refine anyH_takeG 21 (v := .agg (tcs tb sb).toArray) rfl (by kernel_rfl) (by kernel_rfl) (by kernel_rfl) rfl (fun W hW => exec_ldsG 0 (tcs tb sb) (Mem.get hW 0 rfl) rfl _ Tryd.underlying24 rfl 3 sz_term (Nat.le_refl _) rfl) hm ?_
  go_simp
  refine wpAnyH_all (rs := [20]) (by kernel_rfl) (by simp) ?_
  intro i hi
  simp only [List.mem_cons, List.not_mem_nil, or_false] at hi
  subst hi
  refine anyH_opW 20 rfl rfl ?_
  intro K hK
  go_wp2_with (go_at_call 10; refine (HCA.out _ hm.below).mono ?_; rintro e wd20 ⟨he, hb⟩; subst he; replace hm := hm.call hb; clear hb)
  refine hK _ _ hm ?_
  clear hK K
  go_simp
  refine wpAnyH_all (rs := [22]) (by kernel_rfl) (by simp) ?_
  intro i hi
  simp only [List.mem_cons, List.not_mem_nil, or_false] at hi
  subst hi
  refine anyH_opW 22 rfl rfl ?_
  intro K hK
  go_wp2_with (go_at_call 10; refine (HCB.out _ hm.below).mono ?_; rintro e wd22 ⟨he, hb⟩; subst he; replace hm := hm.call hb; clear hb)
  refine hK _ _ hm ?_
  clear hK K
  go_simp
  refine anyH_takeG 23 (v := .int .i64 ((ca : Int) + (cb : Int))) rfl (by kernel_rfl) (by kernel_rfl) (by kernel_rfl) rfl (fun W _ => by go_simp; exact HCS.out) hm ?_
  go_simp
  refine anyH_takeG 24 (v := .bool true) rfl (by kernel_rfl) (by kernel_rfl) (by kernel_rfl) rfl (fun W _ => by go_simp; exact HCC.out) hm ?_
  go_simp
  refine anyH_take 25 (v := .bool true) rfl (by kernel_rfl) (by kernel_rfl) (by kernel_rfl) rfl (fun W _ => by go_simp) hm ?_
  go_simp
  refine wpAnyH_done (by kernel_rfl) ?_ _
  simp only [endsIn]
  go_wp2_with fail
  go_ret
  exact ⟨rfl, hm.below⟩
set_option maxHeartbeats 4000000 in
set_option maxRecDepth 100000 in
theorem tbuilt_s (ta tb : Tm) (sa sb : Value) (n : Int) (bn : 0 ≤ n ∧ n < 256) (Wa : World) (hE : Esx Wa) (h10 : 10 ≤ Wa.heap.size) (hs : SlT (fun _ => True) Wa sa ta.l) (hv : SlT (fun _ => True) Wa sb tb.l) (fa : cnt ta ≤ 80) (fb : cnt tb ≤ 80) (ia : isT ta = true) (ib : isT tb = true) (hc : cnt ta + cnt tb ≤ 59) (k : Nat) (hk : n % 100 = (k : Int)) (hk9 : k < 10) :
    Calls Tryd.prog 4 #[.agg (tcs ta sa).toArray, .agg (tcs tb sb).toArray, .int .u8 n] Wa fun e w' => e = .returned (.bool true) ∧ Below Wa.heap.size Wa w' := by
  obtain ⟨ca, hca⟩ : ∃ c, c = min 61 (cnt ta) := ⟨_, rfl⟩
  obtain ⟨cb, hcb⟩ : ∃ c, c = min 61 (cnt tb) := ⟨_, rfl⟩
  obtain ⟨la, hla⟩ : ∃ l, l = txt ta := ⟨_, rfl⟩
  obtain ⟨lb, hlb⟩ : ∃ l, l = txt tb := ⟨_, rfl⟩
  obtain ⟨ld, hld⟩ : ∃ l, l = dig (k : Int) := ⟨_, rfl⟩
  have oka := (isT_iff.1 ia).2
  have okb := (isT_iff.1 ib).2
  obtain ⟨q1, q1k, q6⟩ := rem_small bn.1 hk
  have q2 : wrap64 (k : Int) = (k : Int) := wrap_small q1k
  have q3 : ca ≤ 61 ∧ cb ≤ 61 ∧ k ≤ 99 := ⟨by rw [hca]; exact Nat.min_le_left _ _, by rw [hcb]; exact Nat.min_le_left _ _, q1k⟩
  have q4 : IntKind.i64.wrap ((ca : Int) + (cb : Int)) = (ca : Int) + (cb : Int) := sum_small q3.1 q3.2.1
  have q5 : (ca : Int) + (cb : Int) ≤ 59 := by rw [hca, hcb]; exact min_small hc
  have za : la.length ≤ 500 := by have h1 := txt_len ta oka; have h2 := (isT_iff.1 ia).1; rw [hla]; omega
  have zb : lb.length ≤ 500 := by have h1 := txt_len tb okb; have h2 := (isT_iff.1 ib).1; rw [hlb]; omega
  have zd : ld.length ≤ 2 := by rw [hld]; exact (dig_len _).2
  have c2 : ∀ k : Int, cnt (mkT k 0 [ta, tb]) ≤ 60 := fun k => by rw [cnt_mk]; simp; omega
  have c1 : ∀ n : Int, cnt (mkT 5 n [ta]) ≤ 60 := fun n => by rw [cnt_mk]; simp; omega
  obtain ⟨s1, s2, s3, s4, _, es4, _, ks1, ks2, ks3, ks4⟩ := chain_two [115, 101, 97, 108, 40] la lb (Nat.le_refl 5) za zb
  obtain ⟨p1, p2, p3, p4, ep3, ep4, zp3, kp1, kp2, kp3, kp4⟩ := chain_two [40] la lb (by decide) za zb
  obtain ⟨d1, d2, d3, d4, ed4, kd1, kd2, kd3, kd4⟩ := chain_one ld la zd za
  obtain ⟨c1', n0, n1, n2, n3, n4, n5, n6, n7, n8⟩ := nums_small hk9
  exact tbuilt_s_w ta tb sa sb n Wa ca cb k la lb ld s1 s2 s3 s4 p1 p2 p3 p4 d1 d2 d3 d4 c1' (fun w hW => known_any w (hE.below hW) (Nat.le_trans h10 hW.size)) (fun w hW => by have h := few_any ta sa w (hs.below hW); rw [decide_eq_true fa] at h; exact h) (fun w hW => by have h := few_any tb sb w (hv.below hW); rw [decide_eq_true fb] at h; exact h) (fun w hW => by have h := is_any ta sa w (hs.below hW); rw [ia] at h; exact h) (fun w hW => by have h := is_any tb sb w (hv.below hW); rw [ib] at h; exact h) (fun w hW => by rw [hca]; exact count_any ta sa w (hs.below hW)) (fun w hW => by rw [hcb]; exact count_any tb sb w (hv.below hW)) (q4) (q5) (hs) (hv) (⟨(isT_iff.1 ia).1, (isT_iff.1 ib).1⟩) (fun w hW => by have h := print_any ta sa w (hs.below hW); rw [if_pos ia, ← hla] at h; exact h) (fun w hW => by have h := print_any tb sb w (hv.below hW); rw [if_pos ib, ← hlb] at h; exact h) (fun _ => ks1) (fun _ => ks2) (fun _ => ks3) (fun _ => ks4) (fun _ => kp1) (fun _ => kp2) (fun _ => kp3) (fun _ => kp4) (fun _ => kd1) (fun _ => kd2) (fun _ => kd3) (fun _ => kd4) (fun w hW => parse_built s4 (by rw [txt_two (Or.inl rfl), es4, hla, hlb]; rfl) rfl (ok_two (Or.inl rfl) oka okb) (c2 _) w (hE.below hW) (Nat.le_trans h10 hW.size)) (fun w hW => parse_built p4 (by rw [txt_two (Or.inr rfl), ep4, hla, hlb]; rfl) rfl (ok_two (Or.inr rfl) oka okb) (c2 _) w (hE.below hW) (Nat.le_trans h10 hW.size)) (fun w hW => parse_built d4 (by rw [txt_one, ed4, hla, hld]) rfl (ok_one q1.1 q1.2 oka) (c1 _) w (hE.below hW) (Nat.le_trans h10 hW.size)) (fun w hW => parse_no1 p3 w zp3 (hE.below hW) (Nat.le_trans h10 hW.size) (by rw [ep3, hla, hlb]; exact rd_cut oka okb hc)) (q6) (hk) (q2) (q3.1) (q3.2.1) (q3.2.2) (fun _ => by rw [hld]; exact n0) (n1) (n2) (n3) (n4) (n5) (n6) (n7) (n8)
set_option maxHeartbeats 4000000 in
set_option maxRecDepth 100000 in
theorem tbuilt_g (ta tb : Tm) (sa sb : Value) (n : Int) (bn : 0 ≤ n ∧ n < 256) (Wa : World) (hE : Esx Wa) (h10 : 10 ≤ Wa.heap.size) (hs : SlT (fun _ => True) Wa sa ta.l) (hv : SlT (fun _ => True) Wa sb tb.l) (fa : cnt ta ≤ 80) (fb : cnt tb ≤ 80) (ia : isT ta = true) (ib : isT tb = true) (hc : cnt ta + cnt tb ≤ 59) (k : Nat) (hk : n % 100 = (k : Int)) (hk9 : ¬ k < 10) :
    Calls Tryd.prog 4 #[.agg (tcs ta sa).toArray, .agg (tcs tb sb).toArray, .int .u8 n] Wa fun e w' => e = .returned (.bool true) ∧ Below Wa.heap.size Wa w' := by
  obtain ⟨ca, hca⟩ : ∃ c, c = min 61 (cnt ta) := ⟨_, rfl⟩
  obtain ⟨cb, hcb⟩ : ∃ c, c = min 61 (cnt tb) := ⟨_, rfl⟩
  obtain ⟨la, hla⟩ : ∃ l, l = txt ta := ⟨_, rfl⟩
  obtain ⟨lb, hlb⟩ : ∃ l, l = txt tb := ⟨_, rfl⟩
  obtain ⟨ld, hld⟩ : ∃ l, l = dig (k : Int) := ⟨_, rfl⟩
  have oka := (isT_iff.1 ia).2
  have okb := (isT_iff.1 ib).2
  obtain ⟨q1, q1k, q6⟩ := rem_small bn.1 hk
  have q2 : wrap64 (k : Int) = (k : Int) := wrap_small q1k
  have q3 : ca ≤ 61 ∧ cb ≤ 61 ∧ k ≤ 99 := ⟨by rw [hca]; exact Nat.min_le_left _ _, by rw [hcb]; exact Nat.min_le_left _ _, q1k⟩
  have q4 : IntKind.i64.wrap ((ca : Int) + (cb : Int)) = (ca : Int) + (cb : Int) := sum_small q3.1 q3.2.1
  have q5 : (ca : Int) + (cb : Int) ≤ 59 := by rw [hca, hcb]; exact min_small hc
  have za : la.length ≤ 500 := by have h1 := txt_len ta oka; have h2 := (isT_iff.1 ia).1; rw [hla]; omega
  have zb : lb.length ≤ 500 := by have h1 := txt_len tb okb; have h2 := (isT_iff.1 ib).1; rw [hlb]; omega
  have zd : ld.length ≤ 2 := by rw [hld]; exact (dig_len _).2
  have c2 : ∀ k : Int, cnt (mkT k 0 [ta, tb]) ≤ 60 := fun k => by rw [cnt_mk]; simp; omega
  have c1 : ∀ n : Int, cnt (mkT 5 n [ta]) ≤ 60 := fun n => by rw [cnt_mk]; simp; omega
  obtain ⟨s1, s2, s3, s4, _, es4, _, ks1, ks2, ks3, ks4⟩ := chain_two [115, 101, 97, 108, 40] la lb (Nat.le_refl 5) za zb
  obtain ⟨p1, p2, p3, p4, ep3, ep4, zp3, kp1, kp2, kp3, kp4⟩ := chain_two [40] la lb (by decide) za zb
  obtain ⟨d1, d2, d3, d4, ed4, kd1, kd2, kd3, kd4⟩ := chain_one ld la zd za
  obtain ⟨r1, r2, c1', c2', n0, ⟨n1, n2, n3, n4, n5, n6, n7⟩, ⟨n8, n9, n10, n11, n12, n13, n14⟩, n15, n16, n17⟩ := nums_great hk9 (Nat.lt_succ_of_le q1k)
  exact tbuilt_g_w ta tb sa sb n Wa ca cb k la lb ld s1 s2 s3 s4 p1 p2 p3 p4 d1 d2 d3 d4 r1 r2 c1' c2' (fun w hW => known_any w (hE.below hW) (Nat.le_trans h10 hW.size)) (fun w hW => by have h := few_any ta sa w (hs.below hW); rw [decide_eq_true fa] at h; exact h) (fun w hW => by have h := few_any tb sb w (hv.below hW); rw [decide_eq_true fb] at h; exact h) (fun w hW => by have h := is_any ta sa w (hs.below hW); rw [ia] at h; exact h) (fun w hW => by have h := is_any tb sb w (hv.below hW); rw [ib] at h; exact h) (fun w hW => by rw [hca]; exact count_any ta sa w (hs.below hW)) (fun w hW => by rw [hcb]; exact count_any tb sb w (hv.below hW)) (q4) (q5) (hs) (hv) (⟨(isT_iff.1 ia).1, (isT_iff.1 ib).1⟩) (fun w hW => by have h := print_any ta sa w (hs.below hW); rw [if_pos ia, ← hla] at h; exact h) (fun w hW => by have h := print_any tb sb w (hv.below hW); rw [if_pos ib, ← hlb] at h; exact h) (fun _ => ks1) (fun _ => ks2) (fun _ => ks3) (fun _ => ks4) (fun _ => kp1) (fun _ => kp2) (fun _ => kp3) (fun _ => kp4) (fun _ => kd1) (fun _ => kd2) (fun _ => kd3) (fun _ => kd4) (fun w hW => parse_built s4 (by rw [txt_two (Or.inl rfl), es4, hla, hlb]; rfl) rfl (ok_two (Or.inl rfl) oka okb) (c2 _) w (hE.below hW) (Nat.le_trans h10 hW.size)) (fun w hW => parse_built p4 (by rw [txt_two (Or.inr rfl), ep4, hla, hlb]; rfl) rfl (ok_two (Or.inr rfl) oka okb) (c2 _) w (hE.below hW) (Nat.le_trans h10 hW.size)) (fun w hW => parse_built d4 (by rw [txt_one, ed4, hla, hld]) rfl (ok_one q1.1 q1.2 oka) (c1 _) w (hE.below hW) (Nat.le_trans h10 hW.size)) (fun w hW => parse_no1 p3 w zp3 (hE.below hW) (Nat.le_trans h10 hW.size) (by rw [ep3, hla, hlb]; exact rd_cut oka okb hc)) (q6) (hk) (q2) (q3.1) (q3.2.1) (q3.2.2) (fun _ => by rw [hld]; exact n0) (n2) (n3) (n4) (n5) (n6) (n7) (n9) (n10) (n11) (n12) (n13) (n14) (n15) (n16) (n17)
theorem tbuilt_walk (ta tb : Tm) (sa sb : Value) (n : Int) (bn : 0 ≤ n ∧ n < 256) (W : World) (hE : Esx W) (h10 : 10 ≤ W.heap.size) (hs : SlT (fun _ => True) W sa ta.l) (hv : SlT (fun _ => True) W sb tb.l) :
    Calls Tryd.prog 4 #[.agg (tcs ta sa).toArray, .agg (tcs tb sb).toArray, .int .u8 n] W fun e w' => e = .returned (.bool true) ∧ Below W.heap.size W w' := by
  by_cases fa : cnt ta ≤ 80
  · by_cases fb : cnt tb ≤ 80
    · cases ia : isT ta with
      | true =>
        cases ib : isT tb with
        | true =>
          by_cases hc : cnt ta + cnt tb ≤ 59
          · obtain ⟨k, hk⟩ : ∃ k : Nat, n % 100 = (k : Int) := ⟨(n % 100).toNat, by omega⟩
            by_cases hk9 : k < 10
            · exact tbuilt_s ta tb sa sb n bn W hE h10 hs hv fa fb ia ib hc k hk hk9
            · exact tbuilt_g ta tb sa sb n bn W hE h10 hs hv fa fb ia ib hc k hk hk9
          · exact tbuilt_4 ta tb sa sb n bn W hE h10 hs hv fa fb ia ib (by omega)
        | false => exact tbuilt_3 ta tb sa sb n bn W hE h10 hs hv fa fb ia ib
      | false => exact tbuilt_2 ta tb sa sb n bn W hE h10 hs hv fa fb ia
    · exact tbuilt_1 ta tb sa sb n bn W hE h10 hs hv fa fb
  · exact tbuilt_0 ta tb sa sb n bn W hE h10 hs hv fa
end Go.Proofs.YtbiinchmbclmcaaDoor
namespace Go.Proofs.YtbiinchmbclmcaaDoor.termBuilt
open Go Go.ChangeShapes Go.WideShapes Go.ChangeAt Go.RowKit

set_option maxRecDepth 100000 in
theorem contract (H : Type) (enc : TypeId × Value → H) (W : World) (base : Nat) (args : Array Value) (ds gs : List (DataW H)) (before : List MemPlace)
    (hval : ∀ (j : Nat) t v, Tryd.f4.params[j]? = some t → args[j]? = some v → Value.okWide Tryd.prog W .any base t v)
    (hW : DataW.Whole enc Tryd.prog Tryd.f4.params.toList Rows.termBuiltSpec.vars false W args.toList ds gs before) (hL : laidMetH Tryd.prog Rows.termBuiltRow.laid W) (hSh : W.ShapedOpen Tryd.prog) :
    Calls Tryd.prog 4 args W fun e W' => ∃ v, e = .returned v ∧ Rows.termBuiltSpec.post enc Tryd.prog Tryd.f4 false true false false W args v W' := by
  have hW' := hW
  obtain ⟨p, q, hA0, hV, rfl, hfz, hnd⟩ := hW
  have hA : DataW.TrodAll enc Tryd.prog W 0 (fun _ => true) true Tryd.f4.params.toList args.toList ds p := hA0
  rw [Tryd.params4] at hA hval
  obtain ⟨v0, vs0, d0, ds0, p0, q0, hargs, rfl, rfl, h0, r0⟩ := trodAll_cons hA
  obtain ⟨v1, vs1, d1, ds1, p1, q1, rfl, rfl, rfl, h1, r1⟩ := trodAll_cons r0
  obtain ⟨v2, vs2, d2, ds2, p2, q2, rfl, rfl, rfl, h2, r2⟩ := trodAll_cons r1
  obtain ⟨rfl, rfl, rfl⟩ := trodAll_nil r2
  obtain rfl : args = #[v0, v1, v2] := by cases args; simp_all
  obtain ⟨rfl, rfl⟩ := trodVars_none hV
  have k0 := h0
  have lt0 : ∀ x ∈ p0, x.block < W.heap.size := by obtain ⟨m, hm⟩ := k0; exact DataW.trod_lt m _ _ _ hm
  have k1 := h1
  have lt1 : ∀ x ∈ p1, x.block < W.heap.size := by obtain ⟨m, hm⟩ := k1; exact DataW.trod_lt m _ _ _ hm
  have k2 := h2
  have lt2 : ∀ x ∈ p2, x.block < W.heap.size := by obtain ⟨m, hm⟩ := k2; exact DataW.trod_lt m _ _ _ hm
  obtain ⟨t, s, rfl, hs⟩ := open_term (hval 0 24 v0 rfl rfl) h0
  obtain ⟨u, s2, rfl, hs2⟩ := open_term (hval 1 24 v1 rfl rfl) h1
  obtain ⟨n, rfl, rfl, rfl, wn⟩ := open_int Tryd.underlying5 (hval 2 5 v2 rfl rfl) h2
  have bn := bounds_u8 wn
  clear hA0
  refine (tbuilt_walk t u s s2 n ⟨bn.1, by omega⟩ W (esx_of hL) (ten_of hSh) hs hs2).mono fun e W' ⟨he, bel⟩ => ?_
  subst he
  exact ⟨_, rfl, _, _, _, [], _, [], hW', trodAll_mk1 (shut_bool Tryd.underlying4 _), (trodAll_cons_mk (Below.trod laidOut (by kernel_rfl) (of_decide_eq_true (by kernel_rfl)) k0 bel lt0) (trodAll_cons_mk (Below.trod laidOut (by kernel_rfl) (of_decide_eq_true (by kernel_rfl)) k1 bel lt1) (trodAll_cons_mk (Below.trod laidOut (by kernel_rfl) (of_decide_eq_true (by kernel_rfl)) k2 bel lt2) trodAll_mk0))), rfl, bel.frame _, fun h => by cases h⟩

set_option maxRecDepth 100000 in
theorem reads (os : Os) {H : Type} (enc : TypeId × Value → H) : ∃ places, DataW.whole enc Tryd.prog ((World.laidAll Tryd.prog os Rows.termBuiltRow.laid).forCall (fun _ _ => 0) ⟨#[], #[Value.agg #[Value.int IntKind.i64 0, Value.int IntKind.i64 0, Value.slice none 0 0], Value.agg #[Value.int IntKind.i64 0, Value.int IntKind.i64 0, Value.slice none 0 0], Value.int IntKind.u8 0], []⟩).memory Tryd.f4.params.toList Rows.termBuiltSpec.vars false (#[Value.agg #[Value.int IntKind.i64 0, Value.int IntKind.i64 0, Value.slice none 0 0], Value.agg #[Value.int IntKind.i64 0, Value.int IntKind.i64 0, Value.slice none 0 0], Value.int IntKind.u8 0] : Array Value).toList 8 = some ([.agg [.lit (.int .i64 0), .lit (.int .i64 0), .nil], .agg [.lit (.int .i64 0), .lit (.int .i64 0), .nil], .lit (.int .u8 0)], [], places) :=
  ⟨[], by kernel_rfl⟩

set_option maxRecDepth 100000 in
theorem lifted (os : Os) (started : os.Started) (H : Type) (enc : TypeId × Value → H) (F : Stop.Interp) :
    ReturnsInHanded {} Tryd.checked os 4 .any ((OpenSpec.ofChange Rows.termBuiltSpec).preRow enc Tryd.prog Tryd.f4 Rows.termBuiltRow.domain false Rows.termBuiltRow.laid) (((OpenSpec.ofChange Rows.termBuiltSpec).at F).post enc Tryd.prog Tryd.f4 false true false false) := by
  obtain ⟨places, hx⟩ := reads os enc
  refine returnsInHanded_of_row (C := Tryd.checked) (s := OpenSpec.ofChange Rows.termBuiltSpec) own started (by kernel_rfl) Tryd.func4
    (witness_row_at (enc := enc) (C := Tryd.checked) false (World.laidAll Tryd.prog os Rows.termBuiltRow.laid) #[Value.agg #[Value.int IntKind.i64 0, Value.int IntKind.i64 0, Value.slice none 0 0], Value.agg #[Value.int IntKind.i64 0, Value.int IntKind.i64 0, Value.slice none 0 0], Value.int IntKind.u8 0] (World.laidAll_os _ _ _) (by kernel_rfl) (by kernel_rfl) (by kernel_rfl)
      (OpenSpec.preRow_of_cond 8 hx (by kernel_rfl) (fun k hk => by cases hk) (by kernel_rfl) (laidMet_laidAll _ (by kernel_rfl) (by kernel_rfl)))) ?_
  intro W base args ds gs before hval hW _ _ _ hL hSh _
  exact contract H enc W base args ds gs before hval hW hL hSh

set_option maxRecDepth 100000 in
theorem said : Rows.TermBuiltSaid :=
  OpenClaim.holds_of_cond 4 Tryd.f4 rfl rfl rfl rfl rfl rfl rfl ⟨rfl, rfl, rfl, rfl, rfl⟩ rfl rfl rfl rfl rfl (by kernel_rfl) Tryd.func4 (by kernel_rfl)
    (of_decide_eq_true (by kernel_rfl)) (by unfold Func.isWrapper; first | (rw [if_pos (by decide +kernel)]; kernel_rfl) | (rw [if_neg (by decide +kernel)]; exact ⟨rfl, rfl⟩))
    (fun os started H enc _ F => by rw [OpenClaim.pre_eq_preRow]; exact lifted os started H enc F)

set_option maxRecDepth 100000 in
theorem plain (f : FuncId) (fn : Func) (hf : Tryd.pinned.checked.prog.funcNamed Rows.termBuiltRow.func = some f) (hfn : Tryd.pinned.checked.prog.funcs[f]? = some fn) :
    true = Tryd.pinned.checked.prog.looks [] ∧ ∀ (j : Nat) t, fn.params[j]? = some t → Tryd.pinned.checked.prog.wantsStandIn t = false := by
  obtain rfl : f = 4 := Option.some.inj ((show Tryd.prog.funcNamed Rows.termBuiltRow.func = some 4 by kernel_rfl).symm.trans hf) |>.symm
  obtain rfl : fn = Tryd.f4 := (Option.some.inj (Tryd.func4.symm.trans hfn)).symm
  refine ⟨by kernel_rfl, fun j t ht => ?_⟩
  have hall : ∀ u ∈ Tryd.f4.params.toList, Tryd.prog.wantsStandIn u = false := by
    rw [Tryd.params4]
    intro u hu
    simp only [List.mem_cons, List.not_mem_nil, or_false] at hu
    rcases hu with rfl | rfl | rfl <;> kernel_rfl
  exact hall t (Array.mem_toList_iff.2 (Array.mem_of_getElem? ht))
end Go.Proofs.YtbiinchmbclmcaaDoor.termBuilt
namespace Go.Proofs.YtbiinchmbclmcaaDoor
open Go
set_option maxRecDepth 100000 in
theorem termBuilt_card : Rows.TermBuiltCardSaid :=
  Claim7.holds_tied_plain_at .later [] _ _ _ _ termBuilt.said (fun _ h => by cases h) (by kernel_rfl) (fun _ h => by cases h) termBuilt_row_tie rfl ⟨rfl, rfl⟩ (by kernel_rfl) rfl termBuilt.plain (by kernel_rfl)
end Go.Proofs.YtbiinchmbclmcaaDoor
