/- The walk of the law TermParts. -/
import Derived.Test.YtbiinchmbclmcaaDoorTmIn
import Derived.Test.YtbiinchmbclmcaaDoorTmKnown
namespace Go.Proofs.YtbiinchmbclmcaaDoor
open Go Go.RowKit
theorem tparts_same {W wi w5 w' : World} {t : Tm} {s : Value} {p0 ps : Option Addr} {c0 cps : Nat} {z0 : List Nat} (hs : SlT (fun _ => True) W s t.l) (h1 : Below W.heap.size W wi) (h2 : Below wi.heap.size wi w5) (h3 : SlX w5 (.slice p0 t.l.length c0) t.l z0) (h4 : z0.Nodup) (h5 : ∀ q ∈ z0, wi.heap.size ≤ q ∧ q < w5.heap.size) (hv : s = .slice ps t.l.length cps) (hc : cnt t ≤ 60) (hW : Below w5.heap.size w5 w') :
    Calls Tryd.prog 9 #[.agg (tcs t (.slice p0 t.l.length c0)).toArray, .agg (tcs t s).toArray] w' fun e w'' => e = .returned (.bool true) ∧ Below w'.heap.size w' w'' := by
  subst hv
  have z1 := h1.size
  have z2 := h2.size
  have z3 := hW.size
  have hb : Below W.heap.size W w' := (h1.trans (h2.mono z1)).trans (hW.mono (by omega))
  exact same_x t t p0 ps _ _ c0 cps z0 true w' (by omega) (h3.keep (fun q hq => hW.block q (h5 q hq).2)) h4 (SlT.lts hs |>.below hb) (fun q hq => ⟨by omega, fun hm => by have := (h5 q hm).1; omega⟩) (by simp)
set_option maxHeartbeats 2000000 in
set_option maxRecDepth 100000 in
theorem tparts_many (t : Tm) (s : Value) (W : World) (hE : Esx W) (h10 : 10 ≤ W.heap.size) (hs : SlT (fun _ => True) W s t.l) (hf : ¬ cnt t ≤ 80) :
    Calls Tryd.prog 3 #[.agg (tcs t s).toArray] W fun e w' => e = .returned (.bool true) ∧ Below W.heap.size W w' := by
  have hm := Mem.start W
  have HS : Hid (SlT (fun _ => True) W s t.l) := hs
  have HKN : Hid (∀ w, Below W.heap.size W w → Calls Tryd.prog 5 #[] w fun e w' => e = .returned (.bool true) ∧ Below w.heap.size w w') := fun w hW => known_any w (hE.below hW) (Nat.le_trans h10 hW.size)
  have HFW : Hid (∀ w, Below W.heap.size W w → Calls Tryd.prog 6 #[.agg (tcs t s).toArray] w fun e w' => e = .returned (.bool false) ∧ Below w.heap.size w w') := fun w hW => by have h := few_any t s w (HS.out.below hW); rw [decide_eq_false hf] at h; exact h
  have HIS : Hid (∀ w, Below W.heap.size W w → Calls Tryd.prog 7 #[.agg (tcs t s).toArray] w fun e w' => e = .returned (.bool (isT t)) ∧ Below w.heap.size w w') := fun w hW => by have h := is_any t s w (HS.out.below hW); exact h
  clear hE h10 hs hf
  go_enter Tryd.func3, Tryd.ntmps3
  go_wp2_with (first
    | ((with_reducible refine at_op (some 1) (.box 24 (.tmp 0)) ?_); go_must (refine wpl_box (tcs t s) rfl hm ?_); clear hm; intro w1 g1 hm)
    | (go_at_call 5; go_must (refine (HKN.out _ hm.below).mono ?_); rintro e wk ⟨he, hb⟩; subst he; replace hm := hm.call hb; clear hb)
    | ((with_reducible refine at_op (some 9) (.load 24 (.tmp 1)) ?_); go_must (refine wpl_ldw 0 hm rfl rfl _ Tryd.underlying24 rfl 3 sz_term rfl ?_))
    | (go_at_call 6; go_must (refine (HFW.out _ hm.below).mono ?_); rintro e wf ⟨he, hb⟩; subst he; replace hm := hm.call hb; clear hb))
  go_ret
  exact ⟨rfl, hm.below⟩
set_option maxHeartbeats 2000000 in
set_option maxRecDepth 100000 in
theorem tparts_none (t : Tm) (s : Value) (W : World) (hE : Esx W) (h10 : 10 ≤ W.heap.size) (hs : SlT (fun _ => True) W s t.l) (hf : cnt t ≤ 80) (hi : isT t = false) :
    Calls Tryd.prog 3 #[.agg (tcs t s).toArray] W fun e w' => e = .returned (.bool true) ∧ Below W.heap.size W w' := by
  have hm := Mem.start W
  have HS : Hid (SlT (fun _ => True) W s t.l) := hs
  have HKN : Hid (∀ w, Below W.heap.size W w → Calls Tryd.prog 5 #[] w fun e w' => e = .returned (.bool true) ∧ Below w.heap.size w w') := fun w hW => known_any w (hE.below hW) (Nat.le_trans h10 hW.size)
  have HFW : Hid (∀ w, Below W.heap.size W w → Calls Tryd.prog 6 #[.agg (tcs t s).toArray] w fun e w' => e = .returned (.bool true) ∧ Below w.heap.size w w') := fun w hW => by have h := few_any t s w (HS.out.below hW); rw [decide_eq_true hf] at h; exact h
  have HIS : Hid (∀ w, Below W.heap.size W w → Calls Tryd.prog 7 #[.agg (tcs t s).toArray] w fun e w' => e = .returned (.bool false) ∧ Below w.heap.size w w') := fun w hW => by have h := is_any t s w (HS.out.below hW); rw [hi] at h; exact h
  clear hE h10 hs hf hi
  go_enter Tryd.func3, Tryd.ntmps3
  go_wp2_with (first
    | ((with_reducible refine at_op (some 1) (.box 24 (.tmp 0)) ?_); go_must (refine wpl_box (tcs t s) rfl hm ?_); clear hm; intro w1 g1 hm)
    | (go_at_call 5; go_must (refine (HKN.out _ hm.below).mono ?_); rintro e wk ⟨he, hb⟩; subst he; replace hm := hm.call hb; clear hb)
    | ((with_reducible refine at_op (some 9) (.load 24 (.tmp 1)) ?_); go_must (refine wpl_ldw 0 hm rfl rfl _ Tryd.underlying24 rfl 3 sz_term rfl ?_))
    | (go_at_call 6; go_must (refine (HFW.out _ hm.below).mono ?_); rintro e wf ⟨he, hb⟩; subst he; replace hm := hm.call hb; clear hb)
    | ((with_reducible refine at_opG (some 13) (.load 24 (.tmp 1)) (some (3, false)) ?_); go_must (refine wpl_execG (.agg (tcs t s).toArray) rfl (exec_ldsG 0 (tcs t s) (Mem.get hm 0 rfl) rfl _ Tryd.underlying24 rfl 3 sz_term (Nat.le_refl _) rfl) ?_))
    | (go_at_call 7; go_must (refine (HIS.out _ hm.below).mono ?_); rintro e wi ⟨he, hb⟩; subst he; replace hm := hm.call hb; clear hb))
  go_ret
  exact ⟨rfl, hm.below⟩
set_option maxHeartbeats 16000000 in
set_option maxRecDepth 100000 in
theorem tparts_yes (t : Tm) (s : Value) (W : World) (hE : Esx W) (h10 : 10 ≤ W.heap.size) (hs : SlT (fun _ => True) W s t.l) (hf : cnt t ≤ 80) (hi : isT t = true) :
    Calls Tryd.prog 3 #[.agg (tcs t s).toArray] W fun e w' => e = .returned (.bool true) ∧ Below W.heap.size W w' := by
  have hm := Mem.start W
  have HS : Hid (SlT (fun _ => True) W s t.l) := hs
  have HKN : Hid (∀ w, Below W.heap.size W w → Calls Tryd.prog 5 #[] w fun e w' => e = .returned (.bool true) ∧ Below w.heap.size w w') := fun w hW => known_any w (hE.below hW) (Nat.le_trans h10 hW.size)
  have HFW : Hid (∀ w, Below W.heap.size W w → Calls Tryd.prog 6 #[.agg (tcs t s).toArray] w fun e w' => e = .returned (.bool true) ∧ Below w.heap.size w w') := fun w hW => by have h := few_any t s w (HS.out.below hW); rw [decide_eq_true hf] at h; exact h
  have HIS : Hid (∀ w, Below W.heap.size W w → Calls Tryd.prog 7 #[.agg (tcs t s).toArray] w fun e w' => e = .returned (.bool true) ∧ Below w.heap.size w w') := fun w hW => by have h := is_any t s w (HS.out.below hW); rw [hi] at h; exact h
  have HPT : Hid (∀ w, Below W.heap.size W w → Calls Tryd.prog 8 #[.agg (tcs t s).toArray] w fun e w' => ∃ v, e = .returned v ∧ UX w.heap.size w'.heap.size w' v (partsT t) ∧ Below w.heap.size w w') := fun w hW => parts_yesX t s w hi (HS.out.below hW)
  have HCA : Hid (∀ w, Below W.heap.size W w → Calls Tryd.prog 10 #[.agg (tcs t s).toArray] w fun e w' => e = .returned (.int .i64 ((min 61 (cnt t) : Nat) : Int)) ∧ Below w.heap.size w w') := fun w hW => count_any t s w (HS.out.below hW)
  obtain ⟨ps, cps, hvs, _⟩ := hs.len
  have HVS : Hid (∀ _ : Unit, s = .slice ps t.l.length cps) := fun _ => hvs
  clear hvs
  have hit := isT_iff.1 hi
  have HIT : Hid (cnt t ≤ 60 ∧ okT t = true) := hit
  obtain ⟨l, hl⟩ : ∃ l, l = partsT t := ⟨_, rfl⟩
  obtain ⟨L, hL⟩ : ∃ L, L = l.length := ⟨_, rfl⟩
  obtain ⟨C, hC⟩ : ∃ C, C = min 61 (cnt t) := ⟨_, rfl⟩
  rw [← hl] at HPT
  rw [← hC] at HCA
  have HHD : Hid (l[0]? = some t) := by rw [hl]; exact partsT_head t
  have HND : Hid l.Nodup := by rw [hl]; exact partsT_nd t
  have HKD : Hid (∀ x ∈ l, ∀ y ∈ x.l, y ∈ l) := by rw [hl]; exact partsT_kids hit.2
  have HCN : Hid (∀ x ∈ l, cnt x ≤ 60) := fun x hx => Nat.le_trans (partsT_cnt t x (by rw [← hl]; exact hx)) hit.1
  have HLC : Hid (L ≤ C ∧ C ≤ 61) := by
    have h1 := partsT_len t
    rw [← hl, ← hL] at h1
    have h2 := hit.1
    refine ⟨?_, ?_⟩ <;> omega
  have HLL : Hid (∀ _ : Unit, L = l.length) := fun _ => hL
  clear hE h10 hs hf hi hit hl hL hC
  go_enter Tryd.func3, Tryd.ntmps3
  go_wp2_with (first
    | ((with_reducible refine at_op (some 1) (.box 24 (.tmp 0)) ?_); go_must (refine wpl_box (tcs t s) rfl hm ?_); clear hm; intro w1 g1 hm)
    | (go_at_call 5; go_must (refine (HKN.out _ hm.below).mono ?_); rintro e wk ⟨he, hb⟩; subst he; replace hm := hm.call hb; clear hb)
    | ((with_reducible refine at_op (some 9) (.load 24 (.tmp 1)) ?_); go_must (refine wpl_ldw 0 hm rfl rfl _ Tryd.underlying24 rfl 3 sz_term rfl ?_))
    | (go_at_call 6; go_must (refine (HFW.out _ hm.below).mono ?_); rintro e wf ⟨he, hb⟩; subst he; replace hm := hm.call hb; clear hb)
    | ((with_reducible refine at_opG (some 13) (.load 24 (.tmp 1)) (some (3, false)) ?_); go_must (refine wpl_execG (.agg (tcs t s).toArray) rfl (exec_ldsG 0 (tcs t s) (Mem.get hm 0 rfl) rfl _ Tryd.underlying24 rfl 3 sz_term (Nat.le_refl _) rfl) ?_))
    | (go_at_call 7; go_must (refine (HIS.out _ hm.below).mono ?_); rintro e wi ⟨he, hb⟩; subst he; replace hm := hm.call hb; clear hb)
    | ((with_reducible refine at_op (some 17) (.load 24 (.tmp 1)) ?_); go_must (refine wpl_ldw 0 hm rfl rfl _ Tryd.underlying24 rfl 3 sz_term rfl ?_))
    | (go_at_call 8; go_must (refine (HPT.out _ hm.below).mono ?_); rintro e w5 ⟨v, he, hux, hb⟩; subst he; have HUX : Hid (UX wi.heap.size w5.heap.size w5 v l) := hux; have HBI : Hid (Below W.heap.size W wi) := hm.below; obtain ⟨b, cap, s0, z0, hv, he0, hs0, hz0, hzb0⟩ := hux.elem HHD.out; rw [← HLL.out ()] at hv; obtain ⟨p0, c0, hv0, _⟩ := hs0.len; subst hv hv0; have HE0 : Hid (∀ w', Below w5.heap.size w5 w' → w'.cell? ⟨b, 0 * 3, none⟩ = some (.int .i64 t.k) ∧ w'.cell? ⟨b, 0 * 3 + 1, none⟩ = some (.int .i64 t.n) ∧ w'.cell? ⟨b, 0 * 3 + 2, none⟩ = some (.slice p0 t.l.length c0)) := fun w' hW => ⟨(hW.cell (p := ⟨b, _, none⟩) (block_lt_of_cell he0.1)).trans he0.1, (hW.cell (p := ⟨b, _, none⟩) (block_lt_of_cell he0.2.1)).trans he0.2.1, (hW.cell (p := ⟨b, _, none⟩) (block_lt_of_cell he0.2.2)).trans he0.2.2⟩; replace hm := hm.call hb; have HB5 : Hid (Below wi.heap.size wi w5) := hb; have HS0 : Hid (∀ w', Below w5.heap.size w5 w' → Calls Tryd.prog 9 #[.agg (tcs t (.slice p0 t.l.length c0)).toArray, .agg (tcs t s).toArray] w' fun e w'' => e = .returned (.bool true) ∧ Below w'.heap.size w' w'') := fun w' hW => tparts_same HS.out HBI.out HB5.out hs0 hz0 hzb0 (HVS.out ()) HIT.out.1 hW; clear hux he0 hs0 hz0 hzb0 hb))
  have HCT : Hid (∀ w', Below w5.heap.size w5 w' → Calls Tryd.prog 10 #[.agg (tcs t s).toArray] w' fun e w'' => e = .returned (.int .i64 (C : Int)) ∧ Below w'.heap.size w' w'') := fun w' hW => HCA.out w' ((HBI.out.trans (HB5.out.mono HBI.out.size)).trans (hW.mono (Nat.le_trans HBI.out.size HB5.out.size)))
  have HL0 : Hid (0 < L) := by
    have h1 := (List.getElem?_eq_some_iff.1 HHD.out).1
    rw [← HLL.out ()] at h1
    exact h1
  have hL0 : ((L : Int) == 0) = false := beq_int_no _ _ (by have := HL0.out; omega)
  have hLC : ¬ (C : Int) < (L : Int) := by have := HLC.out; omega
  have hL4 : L ≤ 100 := by have := HLC.out; omega
  obtain ⟨n0, hn0⟩ : ∃ n0, n0 = t.l.length := ⟨_, rfl⟩
  rw [← hn0] at HE0 HS0
  clear hn0
  refine wp_ends0 ?_
  refine anyH_startB (T := fun W => Below w5.heap.size w5 W ∧ Row W g1 (tcs t s) 24) (by kernel_rfl) hm ?_
  intro wc hbw hmw
  replace hm : Below w5.heap.size w5 wc ∧ Row wc g1 (tcs t s) 24 := ⟨hbw, hmw.get 0 rfl⟩
  clear hbw hmw
  refine anyH_take 0 (v := .slice (some ⟨b, 0, none⟩) L cap) rfl (by kernel_rfl) (by kernel_rfl) (by kernel_rfl) rfl (fun W _ => by go_simp) hm ?_
  go_simp
  refine anyH_take 1 (v := .int .i64 (L : Int)) rfl (by kernel_rfl) (by kernel_rfl) (by kernel_rfl) rfl (fun W _ => by go_simp) hm ?_
  go_simp
  refine anyH_take 2 (v := .bool false) rfl (by kernel_rfl) (by kernel_rfl) (by kernel_rfl) rfl (fun W _ => by go_simp) hm ?_
  go_simp
  refine anyH_take 3 (v := .bool false) rfl (by kernel_rfl) (by kernel_rfl) (by kernel_rfl) rfl (fun W _ => by go_simp) hm ?_
  go_simp
  refine anyH_takeG 4 (v := .slice (some ⟨b, 0, none⟩) L cap) rfl (by kernel_rfl) (by kernel_rfl) (by kernel_rfl) rfl (fun W _ => by go_simp) hm ?_
  go_simp
  refine anyH_takeG 5 (v := .pointer (some ⟨b, 0 * 3, none⟩)) rfl (by kernel_rfl) (by kernel_rfl) (by kernel_rfl) rfl (fun W _ => exec_ixT0 0 rfl rfl rfl HL0.out) hm ?_
  go_simp
  refine anyH_takeG 6 (v := .agg (tcs t (.slice p0 n0 c0)).toArray) rfl (by kernel_rfl) (by kernel_rfl) (by kernel_rfl) rfl (fun W hW => exec_ldT rfl (HE0.out W hW.1).1 (HE0.out W hW.1).2.1 (HE0.out W hW.1).2.2) hm ?_
  go_simp
  refine anyH_takeG 7 (v := .agg (tcs t s).toArray) rfl (by kernel_rfl) (by kernel_rfl) (by kernel_rfl) rfl (fun W hW => exec_ldsG 0 (tcs t s) hW.2 rfl _ Tryd.underlying24 rfl 3 sz_term (Nat.le_refl _) rfl) hm ?_
  go_simp
  refine wpAnyH_all (rs := [8]) (by kernel_rfl) (by simp) ?_
  intro i hi
  simp only [List.mem_cons, List.not_mem_nil, or_false] at hi
  subst hi
  refine anyH_opW 8 rfl rfl ?_
  intro K hK
  go_wp2_with (go_at_call 9; refine (HS0.out _ hm.1).mono ?_; rintro e w8 ⟨he, hb⟩; subst he; replace hm := And.intro (hm.1.trans (hb.mono hm.1.size)) (hm.2.below' hb); clear hb)
  refine hK _ _ hm ?_
  clear hK K
  go_simp
  refine anyH_takeG 9 (v := .bool false) rfl (by kernel_rfl) (by kernel_rfl) (by kernel_rfl) rfl (fun W _ => by go_simp) hm ?_
  go_simp
  refine anyH_take 10 (v := .bool false) rfl (by kernel_rfl) (by kernel_rfl) (by kernel_rfl) rfl (fun W _ => by go_simp) hm ?_
  go_simp
  refine anyH_take 11 (v := .bool false) rfl (by kernel_rfl) (by kernel_rfl) (by kernel_rfl) rfl (fun W _ => by go_simp) hm ?_
  go_simp
  refine anyH_takeG 12 (v := .slice (some ⟨b, 0, none⟩) L cap) rfl (by kernel_rfl) (by kernel_rfl) (by kernel_rfl) rfl (fun W _ => by go_simp) hm ?_
  go_simp
  refine anyH_takeG 13 (v := .int .i64 (L : Int)) rfl (by kernel_rfl) (by kernel_rfl) (by kernel_rfl) rfl (fun W _ => by go_simp) hm ?_
  go_simp
  refine anyH_takeG 14 (v := .agg (tcs t s).toArray) rfl (by kernel_rfl) (by kernel_rfl) (by kernel_rfl) rfl (fun W hW => exec_ldsG 0 (tcs t s) hW.2 rfl _ Tryd.underlying24 rfl 3 sz_term (Nat.le_refl _) rfl) hm ?_
  go_simp
  refine wpAnyH_all (rs := [15]) (by kernel_rfl) (by simp) ?_
  intro i hi
  simp only [List.mem_cons, List.not_mem_nil, or_false] at hi
  subst hi
  refine anyH_opW 15 rfl rfl ?_
  intro K hK
  go_wp2_with (go_at_call 10; refine (HCT.out _ hm.1).mono ?_; rintro e w9 ⟨he, hb⟩; subst he; replace hm := And.intro (hm.1.trans (hb.mono hm.1.size)) (hm.2.below' hb); clear hb)
  refine hK _ _ hm ?_
  clear hK K
  go_simp
  refine anyH_takeG 16 (v := .bool false) rfl (by kernel_rfl) (by kernel_rfl) (by kernel_rfl) rfl (fun W _ => by go_simp; exact HLC.out.1) hm ?_
  go_simp
  refine anyH_take 17 (v := .bool false) rfl (by kernel_rfl) (by kernel_rfl) (by kernel_rfl) rfl (fun W _ => by go_simp) hm ?_
  go_simp
  refine wpAnyH_done (by kernel_rfl) ?_ _
  simp only [endsIn]
  go_wp2_with fail
  have HB9 : Hid (Below w5.heap.size w5 w9) := hm.1
  clear hm HS0 HE0 HCT HCA
  go_loopw [4] (fun vi wr => ∃ i : Nat, vi = .int .i64 (i : Int) ∧ i ≤ L ∧ Hid (Below w5.heap.size w5 wr)) (fun vi _ => L - (intOf vi).toNat)
  case atStart => exact ⟨0, rfl, Nat.zero_le _, HB9.out⟩
  case round =>
    clear HB9
    obtain ⟨i, rfl, hiL, HBO⟩ := hrel
    by_cases hlt : i < L
    · obtain ⟨x, hx⟩ : ∃ x, l[i]? = some x := ⟨_, List.getElem?_eq_getElem (by rw [← HLL.out ()]; exact hlt)⟩
      have HXI : Hid (l[i]? = some x) := hx
      obtain ⟨b', cap', sx, zx, hv', hcx, hsx, _, _⟩ := HUX.out.elem hx
      simp only [Value.slice.injEq, Option.some.injEq, Addr.mk.injEq, and_true] at hv'
      obtain ⟨hb1, hz1, hz2⟩ := hv'
      clear hz1 hz2
      subst hb1
      obtain ⟨px, cx, hvx, _⟩ := hsx.len
      subst hvx
      obtain ⟨nx, hnx⟩ : ∃ nx, nx = x.l.length := ⟨_, rfl⟩
      have HNX : Hid (∀ _ : Unit, nx = x.l.length) := fun _ => hnx
      rw [← hnx] at hcx hsx
      have HX : Hid (∀ w', Below w5.heap.size w5 w' → w'.cell? ⟨b, i * 3, none⟩ = some (.int .i64 x.k) ∧ w'.cell? ⟨b, i * 3 + 1, none⟩ = some (.int .i64 x.n) ∧ w'.cell? ⟨b, i * 3 + 2, none⟩ = some (.slice px nx cx)) := fun w' hW => ⟨(hW.cell (p := ⟨b, _, none⟩) (block_lt_of_cell hcx.1)).trans hcx.1, (hW.cell (p := ⟨b, _, none⟩) (block_lt_of_cell hcx.2.1)).trans hcx.2.1, (hW.cell (p := ⟨b, _, none⟩) (block_lt_of_cell hcx.2.2)).trans hcx.2.2⟩
      have HSX : Hid (SlT (fun _ => True) w5 (.slice px nx cx) x.l) := hsx.slt (fun _ _ => trivial)
      have HMX : Hid (x ∈ l) := List.mem_of_getElem? hx
      have HLT : Hid (i < L) := hlt
      have hiI : (i : Int) < (L : Int) := by omega
      have hi4 : i ≤ 100 := by omega
      clear hx hcx hsx hnx hlt
      go_wp2_with fail
      go_loopw [5] (fun vk wr => ∃ k : Nat, vk = .int .i64 (k : Int) ∧ k ≤ i ∧ Hid (Below w5.heap.size w5 wr)) (fun vk _ => i - (intOf vk).toNat)
      case atStart => exact ⟨0, rfl, Nat.zero_le _, HBO.out⟩
      case round =>
        clear HBO
        obtain ⟨k, rfl, hkL, HBE⟩ := hrel
        by_cases hlk : k < i
        · obtain ⟨y, hy⟩ : ∃ y, l[k]? = some y := ⟨_, List.getElem?_eq_getElem (by rw [← HLL.out ()]; have := HLT.out; omega)⟩
          obtain ⟨b2, cap2, sx2, sy, zx, zy, hv2, ax, ay, hX, hY, hzx, hzl, hzy⟩ := HUX.out.two hlk HXI.out hy
          simp only [Value.slice.injEq, Option.some.injEq, Addr.mk.injEq, and_true] at hv2
          obtain ⟨hb2, hz1, hz2⟩ := hv2
          clear hz1 hz2
          subst hb2
          have hsx2 : sx2 = .slice px nx cx := by
            have h1 := (HX.out w5 (Below.refl _ _)).2.2
            rw [ax.2.2] at h1
            exact Option.some.inj h1
          subst hsx2
          obtain ⟨py, cy, hvy, _⟩ := hY.len
          subst hvy
          have HSK : Hid (∀ w', Below w5.heap.size w5 w' → Calls Tryd.prog 9 #[.agg (tcs x (.slice px nx cx)).toArray, .agg (tcs y (.slice py y.l.length cy)).toArray] w' fun e w'' => e = .returned (.bool false) ∧ Below w'.heap.size w' w'') := fun w' hW =>
            same_x x y px py nx y.l.length cx cy zx false w' (Nat.le_trans (HCN.out x HMX.out) (by omega)) (hX.keep (fun q hq => hW.block q (hzl q hq))) hzx ((hY.slt (F := fun q => q ∈ zy) (fun q hq => hq)).below hW) (fun q hq => ⟨Nat.lt_of_lt_of_le (hzy q hq).1 hW.size, (hzy q hq).2⟩) (by
              refine ⟨fun h => (by cases h), fun he => ?_⟩
              subst he
              obtain ⟨h1, e1⟩ := List.getElem?_eq_some_iff.1 HXI.out
              obtain ⟨h2, e2⟩ := List.getElem?_eq_some_iff.1 hy
              exact absurd (e2.trans e1.symm) ((List.pairwise_iff_getElem.1 HND.out) k i h2 h1 hlk))
          obtain ⟨ny, hny⟩ : ∃ ny, ny = y.l.length := ⟨_, rfl⟩
          rw [← hny] at HSK ay
          have HY : Hid (∀ w', Below w5.heap.size w5 w' → w'.cell? ⟨b, k * 3, none⟩ = some (.int .i64 y.k) ∧ w'.cell? ⟨b, k * 3 + 1, none⟩ = some (.int .i64 y.n) ∧ w'.cell? ⟨b, k * 3 + 2, none⟩ = some (.slice py ny cy)) := fun w' hW => ⟨(hW.cell (p := ⟨b, _, none⟩) (block_lt_of_cell ay.1)).trans ay.1, (hW.cell (p := ⟨b, _, none⟩) (block_lt_of_cell ay.2.1)).trans ay.2.1, (hW.cell (p := ⟨b, _, none⟩) (block_lt_of_cell ay.2.2)).trans ay.2.2⟩
          have HLK : Hid (k < L) := Nat.lt_trans hlk HLT.out
          have hki : (k : Int) < (i : Int) := by omega
          have hm := Mem.start wr
          clear hy ax ay hX hY hzx hzl hzy hny hlk
          go_wp2_with fail
          refine wp_ends0 ?_
          refine anyH_startB (T := fun W => Below w5.heap.size w5 W) (by kernel_rfl) hm ?_
          intro wc hbw hmw
          replace hm : Below w5.heap.size w5 wc := HBE.out.trans (hbw.mono HBE.out.size)
          clear hbw hmw
          refine anyH_take 0 (v := .slice (some ⟨b, 0, none⟩) L cap) rfl (by kernel_rfl) (by kernel_rfl) (by kernel_rfl) rfl (fun W _ => by go_simp) hm ?_
          go_simp
          refine anyH_take 1 (v := .int .i64 (i : Int)) rfl (by kernel_rfl) (by kernel_rfl) (by kernel_rfl) rfl (fun W _ => by go_simp) hm ?_
          go_simp
          refine anyH_take 2 (v := .pointer (some ⟨b, i * 3, none⟩)) rfl (by kernel_rfl) (by kernel_rfl) (by kernel_rfl) rfl (fun W _ => exec_ixT0 i rfl rfl rfl HLT.out) hm ?_
          go_simp
          refine anyH_take 3 (v := .agg (tcs x (.slice px nx cx)).toArray) rfl (by kernel_rfl) (by kernel_rfl) (by kernel_rfl) rfl (fun W hW => exec_ldT rfl (HX.out W hW).1 (HX.out W hW).2.1 (HX.out W hW).2.2) hm ?_
          go_simp
          refine anyH_take 4 (v := .slice (some ⟨b, 0, none⟩) L cap) rfl (by kernel_rfl) (by kernel_rfl) (by kernel_rfl) rfl (fun W _ => by go_simp) hm ?_
          go_simp
          refine anyH_take 5 (v := .int .i64 (k : Int)) rfl (by kernel_rfl) (by kernel_rfl) (by kernel_rfl) rfl (fun W _ => by go_simp) hm ?_
          go_simp
          refine anyH_take 6 (v := .pointer (some ⟨b, k * 3, none⟩)) rfl (by kernel_rfl) (by kernel_rfl) (by kernel_rfl) rfl (fun W _ => exec_ixT0 k rfl rfl rfl HLK.out) hm ?_
          go_simp
          refine anyH_take 7 (v := .agg (tcs y (.slice py ny cy)).toArray) rfl (by kernel_rfl) (by kernel_rfl) (by kernel_rfl) rfl (fun W hW => exec_ldT rfl (HY.out W hW).1 (HY.out W hW).2.1 (HY.out W hW).2.2) hm ?_
          go_simp
          refine wpAnyH_all (rs := [8]) (by kernel_rfl) (by simp) ?_
          intro i hi
          simp only [List.mem_cons, List.not_mem_nil, or_false] at hi
          subst hi
          refine anyH_opW 8 rfl rfl ?_
          intro K hK
          go_wp2_with (go_at_call 9; refine (HSK.out _ hm).mono ?_; rintro e w8 ⟨he, hb⟩; subst he; replace hm := hm.trans (hb.mono hm.size); clear hb)
          refine hK _ _ hm ?_
          clear hK K
          go_simp
          refine wpAnyH_done (by kernel_rfl) ?_ _
          simp only [endsIn]
          go_wp2_with fail
          go_roundw
          case rel => exact ⟨k + 1, by go_num, by omega, hm⟩
          case measure => simp [intOf]; omega
        · have hke : k = i := by omega
          subst hke
          have hki : ¬ (k : Int) < (k : Int) := by omega
          have HBX : Hid (Below w5.heap.size w5 wr) := HBE.out
          clear hlk HBE
          go_wp2_with fail
          go_loopw [6] (fun vj wr => ∃ j : Nat, vj = .int .i64 (j : Int) ∧ j ≤ nx ∧ Hid (Below w5.heap.size w5 wr)) (fun vj _ => nx - (intOf vj).toNat)
          case atStart => exact ⟨0, rfl, Nat.zero_le _, HBX.out⟩
          case round =>
            clear HBX
            obtain ⟨j, rfl, hjn, HBE⟩ := hrel
            have hnx4 : nx ≤ 100 := by
              have h1 := HCN.out x HMX.out
              have h2 := len_lt_cnt x
              have h3 := HNX.out ()
              omega
            by_cases hlj : j < nx
            · obtain ⟨y, hy⟩ : ∃ y, x.l[j]? = some y := ⟨_, List.getElem?_eq_getElem (by rw [← HNX.out ()]; exact hlj)⟩
              obtain ⟨bx, ox, hpx⟩ := HSX.out.at (by omega)
              subst hpx
              obtain ⟨py, ny, cy, d0, d1, d2, hny, hsy⟩ := HSX.out.cells hy
              have HD : Hid (∀ w', Below w5.heap.size w5 w' → w'.cell? ⟨bx, ox + j * 3, none⟩ = some (.int .i64 y.k) ∧ w'.cell? ⟨bx, ox + j * 3 + 1, none⟩ = some (.int .i64 y.n) ∧ w'.cell? ⟨bx, ox + j * 3 + 2, none⟩ = some (.slice py ny cy)) := fun w' hW => ⟨(hW.cell (p := ⟨bx, _, none⟩) (block_lt_of_cell d0)).trans d0, (hW.cell (p := ⟨bx, _, none⟩) (block_lt_of_cell d1)).trans d1, (hW.cell (p := ⟨bx, _, none⟩) (block_lt_of_cell d2)).trans d2⟩
              have HINC : Hid (∀ w', Below w5.heap.size w5 w' → Calls Tryd.prog 11 #[.slice (some ⟨b, 0, none⟩) L cap, .agg (tcs y (.slice py ny cy)).toArray] w' fun e w'' => e = .returned (.bool true) ∧ Below w'.heap.size w' w'') := fun w' hW =>
                in_yes l y _ L cap _ w' (HLL.out ()) (by omega) (fun z hz => Nat.le_trans (HCN.out z hz) (by omega)) (HUX.out.below hW).slt (hsy.below hW) (HKD.out x HMX.out y (List.mem_of_getElem? hy))
              have hji : (j : Int) < (nx : Int) := by omega
              have HLJ : Hid (j < nx) := hlj
              have hm := Mem.start wr
              clear hy d0 d1 d2 hny hsy hlj
              go_wp2_with (first
                | ((with_reducible refine at_op (some 60) (.indexAddr 22 (.tmp 58) (.tmp 59)) ?_); go_must (refine wpl_execG (.pointer (some ⟨b, k * 3, none⟩)) rfl (exec_ixT0 k rfl rfl rfl HLT.out) ?_))
                | ((with_reducible refine at_op (some 62) (.load 22 (.tmp 61)) ?_); go_must (refine wpl_execG (.slice (some ⟨bx, ox, none⟩) nx cx) rfl (exec_ldx (.slice (some ⟨bx, ox, none⟩) nx cx) (HX.out _ (HBE.out.trans (hm.below.mono HBE.out.size))).2.2 rfl ag_terms) ?_))
                | ((with_reducible refine at_op (some 70) (.indexAddr 22 (.tmp 68) (.tmp 69)) ?_); go_must (refine wpl_execG (.pointer (some ⟨b, k * 3, none⟩)) rfl (exec_ixT0 k rfl rfl rfl HLT.out) ?_))
                | ((with_reducible refine at_op (some 72) (.load 22 (.tmp 71)) ?_); go_must (refine wpl_execG (.slice (some ⟨bx, ox, none⟩) nx cx) rfl (exec_ldx (.slice (some ⟨bx, ox, none⟩) nx cx) (HX.out _ (HBE.out.trans (hm.below.mono HBE.out.size))).2.2 rfl ag_terms) ?_))
                | ((with_reducible refine at_op (some 74) (.indexAddr 22 (.tmp 72) (.tmp 73)) ?_); go_must (refine wpl_execG (.pointer (some ⟨bx, ox + j * 3, none⟩)) rfl (exec_ixT j rfl rfl rfl HLJ.out) ?_))
                | ((with_reducible refine at_op (some 75) (.load 24 (.tmp 74)) ?_); go_must (refine wpl_execG (.agg (tcs y (.slice py ny cy)).toArray) rfl (exec_ldT rfl (HD.out _ (HBE.out.trans (hm.below.mono HBE.out.size))).1 (HD.out _ (HBE.out.trans (hm.below.mono HBE.out.size))).2.1 (HD.out _ (HBE.out.trans (hm.below.mono HBE.out.size))).2.2) ?_))
                | (go_at_call 11; go_must (refine (HINC.out _ (HBE.out.trans (hm.below.mono HBE.out.size))).mono ?_); rintro e w9 ⟨he, hb⟩; subst he; replace hm := hm.call hb; clear hb))
              go_roundw
              case rel => exact ⟨j + 1, by go_num, by omega, HBE.out.trans (hm.below.mono HBE.out.size)⟩
              case measure => simp [intOf]; omega
            · have hje : j = nx := by omega
              subst hje
              have hji : ¬ (j : Int) < (j : Int) := by omega
              have hm := Mem.start wr
              clear hlj
              go_wp2_with (first
                | ((with_reducible refine at_op (some 60) (.indexAddr 22 (.tmp 58) (.tmp 59)) ?_); go_must (refine wpl_execG (.pointer (some ⟨b, k * 3, none⟩)) rfl (exec_ixT0 k rfl rfl rfl HLT.out) ?_))
                | ((with_reducible refine at_op (some 62) (.load 22 (.tmp 61)) ?_); go_must (refine wpl_execG (.slice px j cx) rfl (exec_ldx (.slice px j cx) (HX.out _ (HBE.out.trans (hm.below.mono HBE.out.size))).2.2 rfl ag_terms) ?_)))
              go_roundw
              case rel => exact ⟨k + 1, by go_num, by have := HLT.out; omega, HBE.out⟩
              case measure => have := HLT.out; simp [intOf]; omega
    · have hie : i = L := by omega
      subst hie
      have hiI : ¬ (i : Int) < (i : Int) := by omega
      clear hlt
      go_wp2_with fail
      go_ret
      exact ⟨rfl, (HBI.out.trans (HB5.out.mono HBI.out.size)).trans (HBO.out.mono (Nat.le_trans HBI.out.size HB5.out.size))⟩
theorem tparts_walk (t : Tm) (s : Value) (W : World) (hE : Esx W) (h10 : 10 ≤ W.heap.size) (hs : SlT (fun _ => True) W s t.l) :
    Calls Tryd.prog 3 #[.agg (tcs t s).toArray] W fun e w' => e = .returned (.bool true) ∧ Below W.heap.size W w' := by
  by_cases hf : cnt t ≤ 80
  · cases hi : isT t with
    | true => exact tparts_yes t s W hE h10 hs hf hi
    | false => exact tparts_none t s W hE h10 hs hf hi
  · exact tparts_many t s W hE h10 hs hf
end Go.Proofs.YtbiinchmbclmcaaDoor
