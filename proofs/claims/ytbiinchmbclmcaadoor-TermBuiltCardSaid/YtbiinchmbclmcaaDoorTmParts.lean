/- Package term: Parts. -/
import Derived.Test.YtbiinchmbclmcaaDoorTmAdd
namespace Go.Proofs.YtbiinchmbclmcaaDoor
open Go Go.RowKit Go.Maps
set_option maxRecDepth 100000 in
theorem un_pt : ∃ fs, Tryd.prog.underlying 40 = some (.struct fs) := ⟨_, Tryd.underlying40⟩
set_option maxRecDepth 100000 in
theorem info_pt : (Tryd.prog.info? 40).map (fun i => (i.zero, i.size)) = some (some (.agg [.map none, .slice none 0 0].toArray), 2) := by kernel_rfl
set_option maxRecDepth 100000 in
theorem zero_parts : ∀ w, (zeroValue 40).run Tryd.prog w = .ok (.agg [.map none, .slice none 0 0].toArray) w := (zero_of_info info_pt).1
set_option maxRecDepth 100000 in
theorem sz_parts : (Tryd.prog.info? 40).map (·.size) = some 2 := (zero_of_info info_pt).2
set_option maxHeartbeats 2000000 in
set_option maxRecDepth 100000 in
theorem parts_no {F : Nat → Prop} (t : Tm) (s : Value) (w : World) (hi : isT t = false) (hs : SlT F w s t.l) :
    Calls Tryd.prog 8 #[.agg (tcs t s).toArray] w fun e w' => e = .returned (.slice none 0 0) ∧ Below w.heap.size w w' := by
  have hm := Mem.start w
  have HIS : Hid (∀ W, Below w.heap.size w W → Calls Tryd.prog 7 #[.agg (tcs t s).toArray] W fun e w' => e = .returned (.bool false) ∧ Below W.heap.size W w') := fun W hW => by
    have := is_any t s W (hs.below hW)
    rw [hi] at this
    exact this
  clear hs hi
  go_enter Tryd.func8, Tryd.ntmps8
  go_wp2_with (first
    | ((with_reducible refine at_op (some 1) (.box 24 (.tmp 0)) ?_); go_must (refine wpl_box (tcs t s) rfl hm ?_); clear hm; intro w1 g1 hm)
    | ((with_reducible refine at_op (some 4) (.load 24 (.tmp 1)) ?_); go_must (refine wpl_ldw 0 hm rfl rfl _ Tryd.underlying24 rfl 3 sz_term rfl ?_))
    | (go_at_call 7; go_must (refine (HIS.out _ hm.below).mono ?_); rintro e w2 ⟨he, hb⟩; subst he; replace hm := hm.call hb; clear hb))
  go_ret
  exact ⟨rfl, hm.below⟩
set_option maxRecDepth 100000 in
theorem SlT.lts {F : Nat → Prop} {w : World} {v : Value} {l : List Tm} (h : SlT F w v l) : SlT (fun b => b < w.heap.size) w v l := by
  have key : ∀ t : Tm, ∀ v, KS F w t v → KS (fun b => b < w.heap.size) w t v := by
    intro t
    induction t using Tm.ind with
    | h t ih =>
      intro v h
      rw [KS_iff] at h ⊢
      obtain ⟨p, cap, cs, hv, hc, ht, hs⟩ := h
      refine ⟨p, cap, cs, hv, hc, ht.keep ih, fun h0 => ?_⟩
      obtain ⟨b, o, hp, _, hseg⟩ := hs h0
      refine ⟨b, o, hp, ?_, hseg⟩
      have hl := ht.len
      obtain ⟨u, hu⟩ : ∃ u, cs[0]? = some u := ⟨cs[0]'(by omega), by simp⟩
      exact block_lt_of_cell (hseg 0 u hu)
  obtain ⟨p, cap, cs, hv, hc, ht, hs⟩ := h
  refine ⟨p, cap, cs, hv, hc, ht.keep (fun t _ => key t), fun h0 => ?_⟩
  obtain ⟨b, o, hp, _, hseg⟩ := hs h0
  refine ⟨b, o, hp, ?_, hseg⟩
  have hl := ht.len
  obtain ⟨u, hu⟩ : ∃ u, cs[0]? = some u := ⟨cs[0]'(by omega), by simp⟩
  exact block_lt_of_cell (hseg 0 u hu)
set_option maxRecDepth 100000 in
theorem parts_old {F : Nat → Prop} {w w' : World} {s : Value} {l : List Tm} (h : SlT F w s l) (hb : Below w.heap.size w w') : SlT (fun b => b < w.heap.size) w' s l := by
  have h1 : SlT (fun b => b < w.heap.size) w s l := SlT.lts h
  exact h1.below hb
set_option maxRecDepth 100000 in
theorem parts_start {w2 w3 w4 w5 : World} {pb m : Nat} (hb3 : Below w2.heap.size w2 w3) (hb4 : Below w3.heap.size w3 w4) (hk : KM Tryd.prog 9 w4 m 0 (fun _ _ => False)) (hm : w2.heap.size ≤ m) (hp : w3.heap.size ≤ pb) (hr4 : Row w4 pb [.map none, .slice none 0 0] 40) (hu : Upd pb w4 w5) (hr : Row w5 pb [.map (some m), .slice none 0 0] 40) : Ps w2 w5 pb m [] [] (.slice none 0 0) [] := by
  have hpb : w2.heap.size ≤ pb := Nat.le_trans hb3.size hp
  have h5 : KM Tryd.prog 9 w5 m 0 (fun _ _ => False) := by
    obtain ⟨es, c, hme⟩ := hk.isMap
    exact hk.upd hu (row_ne_map hr4 hme)
  exact ⟨below_upd (hb3.trans (hb4.mono hb3.size)) hu hpb (Nat.le_trans hb3.size hb4.size), hpb, hm, hr, World.ownsRow_nil _ _ _ _, rfl, ⟨0, Nat.le_refl _, h5.same (fun k v => ⟨fun h => h.elim, fun h => by obtain ⟨_, x, hx, _⟩ := h; cases hx⟩)⟩⟩
set_option maxHeartbeats 2000000 in
set_option maxRecDepth 100000 in
theorem parts_yes {F : Nat → Prop} (t : Tm) (s : Value) (w : World) (hi : isT t = true) (hs : SlT F w s t.l) :
    Calls Tryd.prog 8 #[.agg (tcs t s).toArray] w fun e w' => ∃ v, e = .returned v ∧ SlT (FN w.heap.size w'.heap.size) w' v (partsT t) ∧ Below w.heap.size w w' := by
  have hm := Mem.start w
  have HS : Hid (SlT F w s t.l) := hs
  have hit := isT_iff.1 hi
  have HIT : Hid (cnt t ≤ 60 ∧ okT t = true) := hit
  have HIS : Hid (∀ W, Below w.heap.size w W → Calls Tryd.prog 7 #[.agg (tcs t s).toArray] W fun e w' => e = .returned (.bool true) ∧ Below W.heap.size W w') := fun W hW => by
    have := is_any t s W (HS.out.below hW)
    rw [hi] at this
    exact this
  clear hs hi hit
  go_enter Tryd.func8, Tryd.ntmps8
  go_wp2_with (first
    | ((with_reducible refine at_op (some 1) (.box 24 (.tmp 0)) ?_); go_must (refine wpl_box (tcs t s) rfl hm ?_); clear hm; intro w1 g1 hm)
    | ((with_reducible refine at_op (some 4) (.load 24 (.tmp 1)) ?_); go_must (refine wpl_ldw 0 hm rfl rfl _ Tryd.underlying24 rfl 3 sz_term rfl ?_))
    | (go_at_call 7; go_must (refine (HIS.out _ hm.below).mono ?_); rintro e w2 ⟨he, hb⟩; subst he; replace hm := hm.call hb; clear hb)
    | ((with_reducible refine at_op (some 7) (.makeMap 38 none) ?_); go_must (refine wpl_mkmap (Mem.start w2) ?_); intro w3 m hmap hnew hm3; have HKM : Hid (KM Tryd.prog 9 w3 m 0 (fun _ _ => False)) := KM.new hmap; have HMN : Hid (w2.heap.size ≤ m) := hnew; have HB3 : Hid (Below w2.heap.size w2 w3) := hm3.below; have HW2 : Hid (Below w.heap.size w w2) := hm.below; have HSO : Hid (∀ W, Below w2.heap.size w2 W → SlT (fun b => b < w2.heap.size) W s t.l) := fun W hW => parts_old (HS.out.below HW2.out) hW; have HG1 : Hid (Row w2 g1 (tcs t s) 24) := hm.get 0 rfl; clear hm; have hm := Mem.start w3; clear hmap hnew hm3)
    | ((with_reducible refine at_op (some 3) (.alloc 40) ?_); go_must (refine wpl_allocB _ zero_parts (Mem.start w3) ?_); intro w4 pb hb4 hp4 hm4; have HKM4 : Hid (KM Tryd.prog 9 w4 m 0 (fun _ _ => False)) := HKM.out.below hb4; have HB4 : Hid (Below w3.heap.size w3 w4) := hb4; have HPN : Hid (w3.heap.size ≤ pb) := hp4; have HRP : Hid (Row w4 pb [.map none, .slice none 0 0] 40) := hm4.get 0 rfl; clear hm; clear hb4 hp4 hm4)
    | ((with_reducible refine at_op none (.store 40 (.tmp 3) (.tmp 8)) ?_); go_must (refine wpl_stwU 0 [.map (some m), .slice none 0 0] (Mem.enter HRP.out) rfl rfl rfl 2 sz_parts rfl rfl (by intro v hv; simp only [List.mem_cons, List.not_mem_nil, or_false] at hv; rcases hv with rfl | rfl <;> rfl) ?_); intro w5 hu5 hm5; have HPS : Hid (Ps w2 w5 pb m [] [] (.slice none 0 0) []) := parts_start HB3.out HB4.out HKM4.out HMN.out HPN.out HRP.out hu5 (hm5.get 0 rfl); have HR1 : Hid (Row w5 g1 (tcs t s) 24) := hu5.row ((HG1.out.below' HB3.out).below' HB4.out) (fun he => (by have h1 := HG1.out.lt; have h2 := HPN.out; have h3 := HB3.out.size; omega)); clear hm5 hu5; have hm := Mem.enter HR1.out)
    | ((with_reducible refine at_op (some 9) (.load 24 (.tmp 1)) ?_); go_must (refine wpl_ldw 0 hm rfl rfl _ Tryd.underlying24 rfl 3 sz_term rfl ?_))
    | (go_at_call 16; go_must (refine (add_any t s w2 pb m (.slice none 0 0) [] [] _ (Nat.le_trans HIT.out.1 (by omega)) HIT.out.2 (by have h9 := HIT.out.1; simp; omega) (HSO.out _ HPS.out.bel) HPS.out).mono ?_); rintro e w6 ⟨he, v6, cs6, hps6⟩; subst he; have HPS6 : Hid (Ps w2 w6 pb m (partsT t) (partsT t) v6 cs6) := hps6; clear hps6)
    | ((with_reducible refine at_op (some 12) (.load 22 (.tmp 11)) ?_); go_must (refine wpl_execG v6 rfl (exec_ldx v6 (HPS6.out.row.cell 1) rfl ag_terms) ?_)))
  go_ret
  refine ⟨v6, rfl, ?_, HW2.out.trans (HPS6.out.bel.mono HW2.out.size)⟩
  exact SlT.of_own HPS6.out.own rfl HPS6.out.tc (fun _ hb => ⟨Nat.le_trans HW2.out.size hb.1.1, hb.1.2.1⟩) (fun _ h1 h2 => ⟨Nat.le_trans HW2.out.size h1, h2⟩)
end Go.Proofs.YtbiinchmbclmcaaDoor
