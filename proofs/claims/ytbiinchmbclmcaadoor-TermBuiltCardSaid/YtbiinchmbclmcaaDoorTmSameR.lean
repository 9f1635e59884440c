/- The document's terms: whether two are the same. -/
import Derived.Test.YtbiinchmbclmcaaDoorTmTerm
namespace Go.Proofs.YtbiinchmbclmcaaDoor
open Go Go.RowKit
set_option maxHeartbeats 2000000 in
set_option maxRecDepth 100000 in
theorem same_k (t u : Tm) (m m2 : Nat) (p1 p2 : Option Addr) (c1 c2 : Nat) (w : World) (hk : ¬ t.k = u.k) :
    Calls Tryd.prog 21 #[.agg (tcs t (.slice p1 m c1)).toArray, .agg (tcs u (.slice p2 m2 c2)).toArray] w fun e w' => e = .returned (.bool false) ∧ Below w.heap.size w w' := by
  have hm := Mem.start w
  have ek : (t.k != u.k) = true := by rw [bne, beq_int_no _ _ hk]; rfl
  clear hk
  go_enter Tryd.func21, Tryd.ntmps21
  go_wp2_with (first
    | ((with_reducible refine at_op (some 2) (.box 24 (.tmp 0)) ?_); go_must (refine wpl_box (tcs t (.slice p1 m c1)) rfl hm ?_); clear hm; intro w1 g1 hm)
    | ((with_reducible refine at_op (some 3) (.box 24 (.tmp 1)) ?_); go_must (refine wpl_box (tcs u (.slice p2 m2 c2)) rfl hm ?_); clear hm; intro w2 g2 hm)
    | ((with_reducible refine at_op (some 7) (.load 3 (.tmp 6)) ?_); go_must (refine wpl_execG (.int .i64 t.k) rfl (exec_ldx (.int .i64 t.k) (Mem.cell hm 1 rfl 0) rfl ag_int) ?_))
    | ((with_reducible refine at_op (some 9) (.load 3 (.tmp 8)) ?_); go_must (refine wpl_execG (.int .i64 u.k) rfl (exec_ldx (.int .i64 u.k) (Mem.cell hm 0 rfl 0) rfl ag_int) ?_))
    | ((with_reducible refine at_opG (some 13) (.load 3 (.tmp 12)) (some (5, false)) ?_); go_must (refine wpl_execG (.int .i64 t.n) rfl (exec_ldx (.int .i64 t.n) (Mem.cell hm 1 rfl 1) rfl ag_int) ?_))
    | ((with_reducible refine at_opG (some 15) (.load 3 (.tmp 14)) (some (5, false)) ?_); go_must (refine wpl_execG (.int .i64 u.n) rfl (exec_ldx (.int .i64 u.n) (Mem.cell hm 0 rfl 1) rfl ag_int) ?_))
    | ((with_reducible refine at_opG (some 20) (.load 22 (.tmp 19)) (some (12, false)) ?_); go_must (refine wpl_execG (.slice p1 m c1) rfl (exec_ldx (.slice p1 m c1) (Mem.cell hm 1 rfl 2) rfl ag_terms) ?_))
    | ((with_reducible refine at_opG (some 23) (.load 22 (.tmp 22)) (some (12, false)) ?_); go_must (refine wpl_execG (.slice p2 m2 c2) rfl (exec_ldx (.slice p2 m2 c2) (Mem.cell hm 0 rfl 2) rfl ag_terms) ?_)))
  go_ret
  exact ⟨rfl, hm.below⟩
set_option maxHeartbeats 2000000 in
set_option maxRecDepth 100000 in
theorem same_n (t u : Tm) (m m2 : Nat) (p1 p2 : Option Addr) (c1 c2 : Nat) (w : World) (hk : t.k = u.k) (hn : ¬ t.n = u.n) :
    Calls Tryd.prog 21 #[.agg (tcs t (.slice p1 m c1)).toArray, .agg (tcs u (.slice p2 m2 c2)).toArray] w fun e w' => e = .returned (.bool false) ∧ Below w.heap.size w w' := by
  have hm := Mem.start w
  have ek : (t.k != u.k) = false := by rw [hk]; exact bne_self_eq_false _
  have en : (t.n != u.n) = true := by rw [bne, beq_int_no _ _ hn]; rfl
  clear hk hn
  go_enter Tryd.func21, Tryd.ntmps21
  go_wp2_with (first
    | ((with_reducible refine at_op (some 2) (.box 24 (.tmp 0)) ?_); go_must (refine wpl_box (tcs t (.slice p1 m c1)) rfl hm ?_); clear hm; intro w1 g1 hm)
    | ((with_reducible refine at_op (some 3) (.box 24 (.tmp 1)) ?_); go_must (refine wpl_box (tcs u (.slice p2 m2 c2)) rfl hm ?_); clear hm; intro w2 g2 hm)
    | ((with_reducible refine at_op (some 7) (.load 3 (.tmp 6)) ?_); go_must (refine wpl_execG (.int .i64 t.k) rfl (exec_ldx (.int .i64 t.k) (Mem.cell hm 1 rfl 0) rfl ag_int) ?_))
    | ((with_reducible refine at_op (some 9) (.load 3 (.tmp 8)) ?_); go_must (refine wpl_execG (.int .i64 u.k) rfl (exec_ldx (.int .i64 u.k) (Mem.cell hm 0 rfl 0) rfl ag_int) ?_))
    | ((with_reducible refine at_opG (some 13) (.load 3 (.tmp 12)) (some (5, false)) ?_); go_must (refine wpl_execG (.int .i64 t.n) rfl (exec_ldx (.int .i64 t.n) (Mem.cell hm 1 rfl 1) rfl ag_int) ?_))
    | ((with_reducible refine at_opG (some 15) (.load 3 (.tmp 14)) (some (5, false)) ?_); go_must (refine wpl_execG (.int .i64 u.n) rfl (exec_ldx (.int .i64 u.n) (Mem.cell hm 0 rfl 1) rfl ag_int) ?_))
    | ((with_reducible refine at_opG (some 20) (.load 22 (.tmp 19)) (some (12, false)) ?_); go_must (refine wpl_execG (.slice p1 m c1) rfl (exec_ldx (.slice p1 m c1) (Mem.cell hm 1 rfl 2) rfl ag_terms) ?_))
    | ((with_reducible refine at_opG (some 23) (.load 22 (.tmp 22)) (some (12, false)) ?_); go_must (refine wpl_execG (.slice p2 m2 c2) rfl (exec_ldx (.slice p2 m2 c2) (Mem.cell hm 0 rfl 2) rfl ag_terms) ?_)))
  go_ret
  exact ⟨rfl, hm.below⟩
set_option maxHeartbeats 2000000 in
set_option maxRecDepth 100000 in
theorem same_l (t u : Tm) (m m2 : Nat) (p1 p2 : Option Addr) (c1 c2 : Nat) (w : World) (hk : t.k = u.k) (hn : t.n = u.n) (hl : ¬ m = m2) :
    Calls Tryd.prog 21 #[.agg (tcs t (.slice p1 m c1)).toArray, .agg (tcs u (.slice p2 m2 c2)).toArray] w fun e w' => e = .returned (.bool false) ∧ Below w.heap.size w w' := by
  have hm := Mem.start w
  have ek : (t.k != u.k) = false := by rw [hk]; exact bne_self_eq_false _
  have en : (t.n != u.n) = false := by rw [hn]; exact bne_self_eq_false _
  have el : ((m : Int) != (m2 : Int)) = true := by rw [bne, beq_int_no _ _ (by omega)]; rfl
  clear hk hn hl
  go_enter Tryd.func21, Tryd.ntmps21
  go_wp2_with (first
    | ((with_reducible refine at_op (some 2) (.box 24 (.tmp 0)) ?_); go_must (refine wpl_box (tcs t (.slice p1 m c1)) rfl hm ?_); clear hm; intro w1 g1 hm)
    | ((with_reducible refine at_op (some 3) (.box 24 (.tmp 1)) ?_); go_must (refine wpl_box (tcs u (.slice p2 m2 c2)) rfl hm ?_); clear hm; intro w2 g2 hm)
    | ((with_reducible refine at_op (some 7) (.load 3 (.tmp 6)) ?_); go_must (refine wpl_execG (.int .i64 t.k) rfl (exec_ldx (.int .i64 t.k) (Mem.cell hm 1 rfl 0) rfl ag_int) ?_))
    | ((with_reducible refine at_op (some 9) (.load 3 (.tmp 8)) ?_); go_must (refine wpl_execG (.int .i64 u.k) rfl (exec_ldx (.int .i64 u.k) (Mem.cell hm 0 rfl 0) rfl ag_int) ?_))
    | ((with_reducible refine at_opG (some 13) (.load 3 (.tmp 12)) (some (5, false)) ?_); go_must (refine wpl_execG (.int .i64 t.n) rfl (exec_ldx (.int .i64 t.n) (Mem.cell hm 1 rfl 1) rfl ag_int) ?_))
    | ((with_reducible refine at_opG (some 15) (.load 3 (.tmp 14)) (some (5, false)) ?_); go_must (refine wpl_execG (.int .i64 u.n) rfl (exec_ldx (.int .i64 u.n) (Mem.cell hm 0 rfl 1) rfl ag_int) ?_))
    | ((with_reducible refine at_opG (some 20) (.load 22 (.tmp 19)) (some (12, false)) ?_); go_must (refine wpl_execG (.slice p1 m c1) rfl (exec_ldx (.slice p1 m c1) (Mem.cell hm 1 rfl 2) rfl ag_terms) ?_))
    | ((with_reducible refine at_opG (some 23) (.load 22 (.tmp 22)) (some (12, false)) ?_); go_must (refine wpl_execG (.slice p2 m2 c2) rfl (exec_ldx (.slice p2 m2 c2) (Mem.cell hm 0 rfl 2) rfl ag_terms) ?_)))
  go_ret
  exact ⟨rfl, hm.below⟩
set_option maxHeartbeats 8000000 in
set_option maxRecDepth 100000 in
theorem same_loop (t u : Tm) (r : Bool) (m : Nat) (p1 p2 : Option Addr) (c1 c2 : Nat) (w : World) (hm1 : m = t.l.length) (hm2 : m = u.l.length) (hmm : m ≤ 100000) (hk : t.k = u.k) (hn : t.n = u.n) (hr : r = true ↔ t = u) {F G : Nat → Prop} (hs : SlT F w (.slice p1 m c1) t.l) (hv : SlT G w (.slice p2 m c2) u.l)
    (HIH : ∀ x ∈ t.l, ∀ (y : Tm) (s v : Value) (r : Bool) (w : World), SlT F w s x.l → SlT G w v y.l → (r = true ↔ x = y) → Calls Tryd.prog 21 #[.agg (tcs x s).toArray, .agg (tcs y v).toArray] w fun e w' => e = .returned (.bool r) ∧ Below w.heap.size w w') :
    Calls Tryd.prog 21 #[.agg (tcs t (.slice p1 m c1)).toArray, .agg (tcs u (.slice p2 m c2)).toArray] w fun e w' => e = .returned (.bool r) ∧ Below w.heap.size w w' := by
  have hm := Mem.start w
  have ek : (t.k != u.k) = false := by rw [hk]; exact bne_self_eq_false _
  have en : (t.n != u.n) = false := by rw [hn]; exact bne_self_eq_false _
  have el : ((m : Int) != (m : Int)) = false := bne_self_eq_false _
  have HI : Hid _ := HIH
  have HRR : Hid (r = true ↔ t = u) := hr
  have HS : Hid (SlT F w (.slice p1 m c1) t.l) := hs
  have HV : Hid (SlT G w (.slice p2 m c2) u.l) := hv
  have HM1 : Hid (∀ _ : Unit, m = t.l.length) := fun _ => hm1
  have HM2 : Hid (∀ _ : Unit, m = u.l.length) := fun _ => hm2
  have HTU : Hid (∀ _ : Unit, t.l = u.l → t = u) := fun _ h => Tm.eq_of hk hn h
  clear HIH hr hs hv hm1 hm2 hk hn
  go_enter Tryd.func21, Tryd.ntmps21
  go_wp2_with (first
    | ((with_reducible refine at_op (some 2) (.box 24 (.tmp 0)) ?_); go_must (refine wpl_box (tcs t (.slice p1 m c1)) rfl hm ?_); clear hm; intro w1 g1 hm)
    | ((with_reducible refine at_op (some 3) (.box 24 (.tmp 1)) ?_); go_must (refine wpl_box (tcs u (.slice p2 m c2)) rfl hm ?_); clear hm; intro w2 g2 hm)
    | ((with_reducible refine at_op (some 7) (.load 3 (.tmp 6)) ?_); go_must (refine wpl_execG (.int .i64 t.k) rfl (exec_ldx (.int .i64 t.k) (Mem.cell hm 1 rfl 0) rfl ag_int) ?_))
    | ((with_reducible refine at_op (some 9) (.load 3 (.tmp 8)) ?_); go_must (refine wpl_execG (.int .i64 u.k) rfl (exec_ldx (.int .i64 u.k) (Mem.cell hm 0 rfl 0) rfl ag_int) ?_))
    | ((with_reducible refine at_opG (some 13) (.load 3 (.tmp 12)) (some (5, false)) ?_); go_must (refine wpl_execG (.int .i64 t.n) rfl (exec_ldx (.int .i64 t.n) (Mem.cell hm 1 rfl 1) rfl ag_int) ?_))
    | ((with_reducible refine at_opG (some 15) (.load 3 (.tmp 14)) (some (5, false)) ?_); go_must (refine wpl_execG (.int .i64 u.n) rfl (exec_ldx (.int .i64 u.n) (Mem.cell hm 0 rfl 1) rfl ag_int) ?_))
    | ((with_reducible refine at_opG (some 20) (.load 22 (.tmp 19)) (some (12, false)) ?_); go_must (refine wpl_execG (.slice p1 m c1) rfl (exec_ldx (.slice p1 m c1) (Mem.cell hm 1 rfl 2) rfl ag_terms) ?_))
    | ((with_reducible refine at_opG (some 23) (.load 22 (.tmp 22)) (some (12, false)) ?_); go_must (refine wpl_execG (.slice p2 m c2) rfl (exec_ldx (.slice p2 m c2) (Mem.cell hm 0 rfl 2) rfl ag_terms) ?_)))
  have HMM0 : Hid (Mem w [] w2 [(g2, tcs u (.slice p2 m c2), 24), (g1, tcs t (.slice p1 m c1), 24)]) := hm
  go_loopw [5] (fun vk wr => ∃ k : Nat, vk = .int .i64 (k : Int) ∧ k ≤ m ∧ Hid (Mem w [] wr [(g2, tcs u (.slice p2 m c2), 24), (g1, tcs t (.slice p1 m c1), 24)]) ∧ Hid (∀ j, j < k → t.l[j]? = u.l[j]?)) (fun vk _ => m - (intOf vk).toNat)
  case atStart => exact ⟨0, rfl, Nat.zero_le _, hm, fun j hj => absurd hj (by omega)⟩
  case round =>
    clear hm HMM0
    obtain ⟨k, rfl, hkm, HMM, HEQ⟩ := hrel
    by_cases hlt : k < m
    · obtain ⟨x, hx⟩ : ∃ x, t.l[k]? = some x := ⟨_, List.getElem?_eq_getElem (by rw [← HM1.out ()]; exact hlt)⟩
      obtain ⟨y, hy⟩ : ∃ y, u.l[k]? = some y := ⟨_, List.getElem?_eq_getElem (by rw [← HM2.out ()]; exact hlt)⟩
      obtain ⟨b1, o1, hp1⟩ := HS.out.at (by omega)
      obtain ⟨b2, o2, hp2⟩ := HV.out.at (by omega)
      subst hp1 hp2
      obtain ⟨px, mx, cx, a0, a1, a2, hmx, hsx⟩ := HS.out.cells hx
      obtain ⟨py, my, cy, d0, d1, d2, hmy, hsy⟩ := HV.out.cells hy
      have HA : Hid (∀ W, Below w.heap.size w W → W.cell? ⟨b1, o1 + k * 3, none⟩ = some (.int .i64 x.k) ∧ W.cell? ⟨b1, o1 + k * 3 + 1, none⟩ = some (.int .i64 x.n) ∧ W.cell? ⟨b1, o1 + k * 3 + 2, none⟩ = some (.slice px mx cx)) := fun W hW => ⟨(hW.cell (p := ⟨b1, _, none⟩) (block_lt_of_cell a0)).trans a0, (hW.cell (p := ⟨b1, _, none⟩) (block_lt_of_cell a1)).trans a1, (hW.cell (p := ⟨b1, _, none⟩) (block_lt_of_cell a2)).trans a2⟩
      have HB : Hid (∀ W, Below w.heap.size w W → W.cell? ⟨b2, o2 + k * 3, none⟩ = some (.int .i64 y.k) ∧ W.cell? ⟨b2, o2 + k * 3 + 1, none⟩ = some (.int .i64 y.n) ∧ W.cell? ⟨b2, o2 + k * 3 + 2, none⟩ = some (.slice py my cy)) := fun W hW => ⟨(hW.cell (p := ⟨b2, _, none⟩) (block_lt_of_cell d0)).trans d0, (hW.cell (p := ⟨b2, _, none⟩) (block_lt_of_cell d1)).trans d1, (hW.cell (p := ⟨b2, _, none⟩) (block_lt_of_cell d2)).trans d2⟩
      have HSX : Hid (SlT F w (.slice px mx cx) x.l) := hsx
      have HSY : Hid (SlT G w (.slice py my cy) y.l) := hsy
      have HMX : Hid (x ∈ t.l) := List.mem_of_getElem? hx
      have HX : Hid (t.l[k]? = some x ∧ u.l[k]? = some y) := ⟨hx, hy⟩
      have HLT : Hid (k < m) := hlt
      have hki : (k : Int) < (m : Int) := by omega
      have hkb : k ≤ 100000 := by omega
      have hm := HMM.out
      clear hx hy a0 a1 a2 d0 d1 d2 hmx hmy hsx hsy HMM
      by_cases hxy : x = y
      · have HCALL : Hid (∀ W, Below w.heap.size w W → Calls Tryd.prog 21 #[.agg (tcs x (.slice px mx cx)).toArray, .agg (tcs y (.slice py my cy)).toArray] W fun e w' => e = .returned (.bool true) ∧ Below W.heap.size W w') := fun W hW => HI.out x HMX.out y _ _ true W (HSX.out.below hW) (HSY.out.below hW) (by simp [hxy])
        have HEQ2 : Hid (∀ j, j < k + 1 → t.l[j]? = u.l[j]?) := fun j hj => by
          by_cases h : j = k
          · subst h; rw [HX.out.1, HX.out.2, hxy]
          · exact HEQ.out j (by omega)
        clear hxy
        go_wp2_with (first
          | ((with_reducible refine at_op (some 29) (.load 22 (.tmp 28)) ?_); go_must (refine wpl_execG (.slice (some ⟨b1, o1, none⟩) m c1) rfl (exec_ldx (.slice (some ⟨b1, o1, none⟩) m c1) (Mem.cell hm 1 rfl 2) rfl ag_terms) ?_)))
        refine wp_ends0 ?_
        refine anyH_startB (T := fun W => Mem w [] W [(g2, tcs u (.slice (some ⟨b2, o2, none⟩) m c2), 24), (g1, tcs t (.slice (some ⟨b1, o1, none⟩) m c1), 24)]) (by kernel_rfl) hm ?_
        intro wc hbw hmw
        replace hm : Mem w [] wc [(g2, tcs u (.slice (some ⟨b2, o2, none⟩) m c2), 24), (g1, tcs t (.slice (some ⟨b1, o1, none⟩) m c1), 24)] := hmw
        clear hbw hmw
        refine anyH_take 0 (v := .pointer (some ⟨g1, 2, none⟩)) rfl (by kernel_rfl) (by kernel_rfl) (by kernel_rfl) rfl (fun W _ => by go_simp) hm ?_
        go_simp
        refine anyH_take 1 (v := .slice (some ⟨b1, o1, none⟩) m c1) rfl (by kernel_rfl) (by kernel_rfl) (by kernel_rfl) rfl (fun W hW => exec_ldx (.slice (some ⟨b1, o1, none⟩) m c1) (Mem.cell hW 1 rfl 2) rfl ag_terms) hm ?_
        go_simp
        refine anyH_take 2 (v := .int .i64 (k : Int)) rfl (by kernel_rfl) (by kernel_rfl) (by kernel_rfl) rfl (fun W _ => by go_simp) hm ?_
        go_simp
        refine anyH_take 3 (v := .pointer (some ⟨b1, o1 + k * 3, none⟩)) rfl (by kernel_rfl) (by kernel_rfl) (by kernel_rfl) rfl (fun W _ => exec_ixT k rfl rfl rfl HLT.out) hm ?_
        go_simp
        refine anyH_take 4 (v := .agg (tcs x (.slice px mx cx)).toArray) rfl (by kernel_rfl) (by kernel_rfl) (by kernel_rfl) rfl (fun W hW => exec_ldT rfl (HA.out W hW.below).1 (HA.out W hW.below).2.1 (HA.out W hW.below).2.2) hm ?_
        go_simp
        refine anyH_take 5 (v := .pointer (some ⟨g2, 2, none⟩)) rfl (by kernel_rfl) (by kernel_rfl) (by kernel_rfl) rfl (fun W _ => by go_simp) hm ?_
        go_simp
        refine anyH_take 6 (v := .slice (some ⟨b2, o2, none⟩) m c2) rfl (by kernel_rfl) (by kernel_rfl) (by kernel_rfl) rfl (fun W hW => exec_ldx (.slice (some ⟨b2, o2, none⟩) m c2) (Mem.cell hW 0 rfl 2) rfl ag_terms) hm ?_
        go_simp
        refine anyH_take 7 (v := .int .i64 (k : Int)) rfl (by kernel_rfl) (by kernel_rfl) (by kernel_rfl) rfl (fun W _ => by go_simp) hm ?_
        go_simp
        refine anyH_take 8 (v := .pointer (some ⟨b2, o2 + k * 3, none⟩)) rfl (by kernel_rfl) (by kernel_rfl) (by kernel_rfl) rfl (fun W _ => exec_ixT k rfl rfl rfl HLT.out) hm ?_
        go_simp
        refine anyH_take 9 (v := .agg (tcs y (.slice py my cy)).toArray) rfl (by kernel_rfl) (by kernel_rfl) (by kernel_rfl) rfl (fun W hW => exec_ldT rfl (HB.out W hW.below).1 (HB.out W hW.below).2.1 (HB.out W hW.below).2.2) hm ?_
        go_simp
        refine wpAnyH_all (rs := [10]) (by kernel_rfl) (by simp) ?_
        intro i hi
        simp only [List.mem_cons, List.not_mem_nil, or_false] at hi
        subst hi
        refine anyH_opW 10 rfl rfl ?_
        intro K hK
        go_wp2_with (go_at_call 21; refine (HCALL.out _ hm.below).mono ?_; rintro e w' ⟨he, hb⟩; subst he; replace hm := hm.call hb; clear hb)
        refine hK _ _ hm ?_
        clear hK K
        go_simp
        refine anyH_take 11 (v := .bool false) rfl (by kernel_rfl) (by kernel_rfl) (by kernel_rfl) rfl (fun W _ => by go_simp) hm ?_
        go_simp
        refine wpAnyH_done (by kernel_rfl) ?_ _
        simp only [endsIn]
        go_wp2_with fail
        go_roundw
        case rel => exact ⟨k + 1, by go_num, by omega, hm, HEQ2.out⟩
        case measure => simp [intOf]; omega
      · have HCALL : Hid (∀ W, Below w.heap.size w W → Calls Tryd.prog 21 #[.agg (tcs x (.slice px mx cx)).toArray, .agg (tcs y (.slice py my cy)).toArray] W fun e w' => e = .returned (.bool false) ∧ Below W.heap.size W w') := fun W hW => HI.out x HMX.out y _ _ false W (HSX.out.below hW) (HSY.out.below hW) (by simp [hxy])
        have HRF : Hid (r = false) := by
          show r = false
          cases r with
          | false => rfl
          | true =>
            have := HRR.out.1 rfl
            subst this
            have h1 := HX.out.1.symm.trans HX.out.2
            simp only [Option.some.injEq] at h1
            exact absurd h1 hxy
        clear hxy
        go_wp2_with (first
          | ((with_reducible refine at_op (some 29) (.load 22 (.tmp 28)) ?_); go_must (refine wpl_execG (.slice (some ⟨b1, o1, none⟩) m c1) rfl (exec_ldx (.slice (some ⟨b1, o1, none⟩) m c1) (Mem.cell hm 1 rfl 2) rfl ag_terms) ?_)))
        refine wp_ends0 ?_
        refine anyH_startB (T := fun W => Mem w [] W [(g2, tcs u (.slice (some ⟨b2, o2, none⟩) m c2), 24), (g1, tcs t (.slice (some ⟨b1, o1, none⟩) m c1), 24)]) (by kernel_rfl) hm ?_
        intro wc hbw hmw
        replace hm : Mem w [] wc [(g2, tcs u (.slice (some ⟨b2, o2, none⟩) m c2), 24), (g1, tcs t (.slice (some ⟨b1, o1, none⟩) m c1), 24)] := hmw
        clear hbw hmw
        refine anyH_take 0 (v := .pointer (some ⟨g1, 2, none⟩)) rfl (by kernel_rfl) (by kernel_rfl) (by kernel_rfl) rfl (fun W _ => by go_simp) hm ?_
        go_simp
        refine anyH_take 1 (v := .slice (some ⟨b1, o1, none⟩) m c1) rfl (by kernel_rfl) (by kernel_rfl) (by kernel_rfl) rfl (fun W hW => exec_ldx (.slice (some ⟨b1, o1, none⟩) m c1) (Mem.cell hW 1 rfl 2) rfl ag_terms) hm ?_
        go_simp
        refine anyH_take 2 (v := .int .i64 (k : Int)) rfl (by kernel_rfl) (by kernel_rfl) (by kernel_rfl) rfl (fun W _ => by go_simp) hm ?_
        go_simp
        refine anyH_take 3 (v := .pointer (some ⟨b1, o1 + k * 3, none⟩)) rfl (by kernel_rfl) (by kernel_rfl) (by kernel_rfl) rfl (fun W _ => exec_ixT k rfl rfl rfl HLT.out) hm ?_
        go_simp
        refine anyH_take 4 (v := .agg (tcs x (.slice px mx cx)).toArray) rfl (by kernel_rfl) (by kernel_rfl) (by kernel_rfl) rfl (fun W hW => exec_ldT rfl (HA.out W hW.below).1 (HA.out W hW.below).2.1 (HA.out W hW.below).2.2) hm ?_
        go_simp
        refine anyH_take 5 (v := .pointer (some ⟨g2, 2, none⟩)) rfl (by kernel_rfl) (by kernel_rfl) (by kernel_rfl) rfl (fun W _ => by go_simp) hm ?_
        go_simp
        refine anyH_take 6 (v := .slice (some ⟨b2, o2, none⟩) m c2) rfl (by kernel_rfl) (by kernel_rfl) (by kernel_rfl) rfl (fun W hW => exec_ldx (.slice (some ⟨b2, o2, none⟩) m c2) (Mem.cell hW 0 rfl 2) rfl ag_terms) hm ?_
        go_simp
        refine anyH_take 7 (v := .int .i64 (k : Int)) rfl (by kernel_rfl) (by kernel_rfl) (by kernel_rfl) rfl (fun W _ => by go_simp) hm ?_
        go_simp
        refine anyH_take 8 (v := .pointer (some ⟨b2, o2 + k * 3, none⟩)) rfl (by kernel_rfl) (by kernel_rfl) (by kernel_rfl) rfl (fun W _ => exec_ixT k rfl rfl rfl HLT.out) hm ?_
        go_simp
        refine anyH_take 9 (v := .agg (tcs y (.slice py my cy)).toArray) rfl (by kernel_rfl) (by kernel_rfl) (by kernel_rfl) rfl (fun W hW => exec_ldT rfl (HB.out W hW.below).1 (HB.out W hW.below).2.1 (HB.out W hW.below).2.2) hm ?_
        go_simp
        refine wpAnyH_all (rs := [10]) (by kernel_rfl) (by simp) ?_
        intro i hi
        simp only [List.mem_cons, List.not_mem_nil, or_false] at hi
        subst hi
        refine anyH_opW 10 rfl rfl ?_
        intro K hK
        go_wp2_with (go_at_call 21; refine (HCALL.out _ hm.below).mono ?_; rintro e w' ⟨he, hb⟩; subst he; replace hm := hm.call hb; clear hb)
        refine hK _ _ hm ?_
        clear hK K
        go_simp
        refine anyH_take 11 (v := .bool true) rfl (by kernel_rfl) (by kernel_rfl) (by kernel_rfl) rfl (fun W _ => by go_simp) hm ?_
        go_simp
        refine wpAnyH_done (by kernel_rfl) ?_ _
        simp only [endsIn]
        go_wp2_with fail
        go_ret
        exact ⟨(by rw [HRF.out]; rfl), hm.below⟩
    · have hkn : k = m := by omega
      subst hkn
      have hki : ¬ (k : Int) < (k : Int) := by omega
      have hm := HMM.out
      have HRT : Hid (r = true) := by
        show r = true
        refine HRR.out.2 (HTU.out () (List.ext_getElem? fun j => ?_))
        by_cases h : j < k
        · exact HEQ.out j h
        · rw [List.getElem?_eq_none (by rw [← HM1.out ()]; omega), List.getElem?_eq_none (by rw [← HM2.out ()]; omega)]
      clear HMM
      go_wp2_with (first
        | ((with_reducible refine at_op (some 29) (.load 22 (.tmp 28)) ?_); go_must (refine wpl_execG (.slice p1 k c1) rfl (exec_ldx (.slice p1 k c1) (Mem.cell hm 1 rfl 2) rfl ag_terms) ?_)))
      go_ret
      exact ⟨(by rw [HRT.out]; rfl), hm.below⟩
set_option maxRecDepth 100000 in
theorem len_lt_cnt (t : Tm) : t.l.length < cnt t := by
  rw [cnt_eq]
  have : ∀ l : List Tm, l.length ≤ (l.map cnt).sum := by
    intro l
    induction l with
    | nil => exact Nat.le_refl _
    | cons x l ih => have := cnt_pos x; simp only [List.map_cons, List.sum_cons, List.length_cons]; omega
  have := this t.l
  omega
set_option maxRecDepth 100000 in
theorem same_any {F G : Nat → Prop} (t : Tm) : cnt t ≤ 100000 → ∀ (u : Tm) (s v : Value) (r : Bool) (w : World), SlT F w s t.l → SlT G w v u.l → (r = true ↔ t = u) →
    Calls Tryd.prog 21 #[.agg (tcs t s).toArray, .agg (tcs u v).toArray] w fun e w' => e = .returned (.bool r) ∧ Below w.heap.size w w' := by
  induction t using Tm.ind with
  | h t ih =>
  intro hc u s v r w hs hv hr
  obtain ⟨p1, c1, rfl, _⟩ := hs.len
  obtain ⟨p2, c2, rfl, _⟩ := hv.len
  have hno : t ≠ u → r = false := fun h => by
    cases r with
    | false => rfl
    | true => exact absurd (hr.1 rfl) h
  by_cases hk : t.k = u.k
  · by_cases hn : t.n = u.n
    · by_cases hl : t.l.length = u.l.length
      · rw [← hl] at hv ⊢
        exact same_loop t u r _ p1 p2 c1 c2 w rfl hl (by have := len_lt_cnt t; omega) hk hn hr hs hv (fun x hx => ih x hx (by have := cnt_lt hx; omega))
      · rw [hno (fun h => hl (by rw [h]))]
        exact same_l t u _ _ p1 p2 c1 c2 w hk hn hl
    · rw [hno (fun h => hn (by rw [h]))]
      exact same_n t u _ _ p1 p2 c1 c2 w hk hn
  · rw [hno (fun h => hk (by rw [h]))]
    exact same_k t u _ _ p1 p2 c1 c2 w hk
end Go.Proofs.YtbiinchmbclmcaaDoor
