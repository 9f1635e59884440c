/- Package term: copied. -/
import Derived.Test.YtbiinchmbclmcaaDoorTmTerm
namespace Go.Proofs.YtbiinchmbclmcaaDoor
open Go Go.RowKit
/-- As FF, and none of the named blocks. -/
def FX (base : Nat) (W : World) (v : Value) (xs : List Nat) : Nat → Prop := fun b => FF base W v b ∧ b ∉ xs
set_option maxRecDepth 100000 in
theorem fx_push {base : Nat} {W W' : World} {v v' : Value} {xs : List Nat} (hg : W.grownBy W' v.ownBlock) (hb : v'.ownBlock = v.ownBlock ∨ v'.ownBlock = some W.heap.size) : Keeps (FX base W v xs) (FX base W' v' xs) W W' := fun b hF => ⟨⟨(ff_push hg hb b hF.1).1, hF.2⟩, (ff_push hg hb b hF.1).2⟩
set_option maxRecDepth 100000 in
theorem fx_below {base : Nat} {W W' : World} {v : Value} {xs : List Nat} (hb : Below W.heap.size W W') : Keeps (FX base W v xs) (FX base W' v xs) W W' := fun b hF => ⟨⟨(ff_below hb b hF.1).1, hF.2⟩, (ff_below hb b hF.1).2⟩
set_option maxRecDepth 100000 in
theorem fx_upd {base g : Nat} {W W' : World} {v : Value} {xs : List Nat} (hu : Upd g W W') (hg : g ∈ xs ∨ some g = v.ownBlock) : Keeps (FX base W v xs) (FX base W' v xs) W W' := by
  intro b hF
  have hne : b ≠ g := by
    rintro rfl
    rcases hg with h | h
    · exact hF.2 h
    · exact hF.1.2.2 h
  refine ⟨⟨⟨hF.1.1, Nat.lt_of_lt_of_le hF.1.2.1 hu.size, hF.1.2.2⟩, hF.2⟩, fun o u h => ?_⟩
  rw [World.cell?_of_block (w := W) (hu.block b hF.1.2.1 hne)]; exact h
set_option maxRecDepth 100000 in
theorem fx_of {base lo hi : Nat} {W : World} {v : Value} {e : TypeId} {K n : Nat} {cs : List Value} {W0 : World} {xs : List Nat} (ho : W0.ownsRow base e K v n cs) (h1 : base ≤ lo) (h2 : W0.heap.size ≤ lo) (h3 : hi ≤ W.heap.size) (hx : ∀ x ∈ xs, x < lo) : ∀ b, FN lo hi b → FX base W v xs b :=
  fun b hb => ⟨ff_of ho h1 h2 h3 b hb, fun hm => by have := hx b hm; have := hb.1; omega⟩
set_option maxRecDepth 100000 in
theorem own_updN {w w' : World} {base : Nat} {e : TypeId} {K : Nat} {v : Value} {n g : Nat} {cs : List Value} (h : w.ownsRow base e K v n cs) (hu : Upd g w w') (hg : some g ≠ v.ownBlock) : w'.ownsRow base e K v n cs := by
  obtain ⟨hl, h2⟩ := h
  refine ⟨hl, ?_⟩
  rcases h2 with h2 | ⟨b, cap, cur, hv, hb, hh, r⟩
  · exact Or.inl h2
  · refine Or.inr ⟨b, cap, cur, hv, hb, ?_, r⟩
    rw [hu.block b (Array.getElem?_eq_some_iff.1 hh).1 (fun he => hg (by rw [hv, ← he]; rfl))]
    exact hh
set_option maxRecDepth 100000 in
theorem row_ne_own {w : World} {base g : Nat} {e t : TypeId} {K : Nat} {v : Value} {n : Nat} {cs l : List Value} (ho : w.ownsRow base e K v n cs) (hr : Row w g l t) (he : t ≠ e) : some g ≠ v.ownBlock := by
  intro hc
  obtain ⟨_, h2⟩ := ho
  rcases h2 with ⟨rfl, _⟩ | ⟨q, cap, cur, rfl, hb, hh, _⟩
  · cases hc
  · have : g = q := by simpa [Value.ownBlock] using hc
    subst this
    unfold Row at hr
    rw [hr] at hh
    simp only [Option.some.injEq, Obj.cells.injEq] at hh
    exact he hh.2.1
set_option maxRecDepth 100000 in
theorem row_grownN {W W' : World} {g : Nat} {u : TypeId} {v : Value} {l : List Value} (hr : Row W g l u) (hne : some g ≠ v.ownBlock) (hg : W.grownBy W' v.ownBlock) : Row W' g l u := by
  unfold Row
  rw [hg.block g hr.lt hne]
  exact hr
section
variable {P : Program} {md : Region.Mode} {ops : Array Oper} {R : Act → World → Prop} {T T2 : World → Prop} {c fuel : Nat} {listed : Array Bool} {a : Act} {w : World}
set_option maxRecDepth 100000 in
theorem anyC_one (i : Nat) {o : Oper} (hr : Region.ready md ops listed = [i]) (hi : ops[i]? = some o) (hg : o.guard = none) (hic : decide (i = c) = false)
    (h : ∀ K : Act → World → Prop, (∀ a' w', T w' → wpAnyC P md ops (endsIn R) c T T2 fuel (listed.setIfInBounds i true) a' w' → K a' w') → wpList P ops (endsIn K) [o] a w) : wpAnyC P md ops (endsIn R) c T T2 (fuel + 1) listed a w := by
  refine ⟨fun h0 => absurd (hr ▸ h0) (by simp), fun j hj => ?_⟩
  rw [hr] at hj
  obtain rfl : j = i := by simpa using hj
  have hne : ¬ j = c := of_decide_eq_false hic
  have hh := h (fun a' w' => T w' ∧ wpAnyC P md ops (endsIn R) c T T2 fuel (listed.setIfInBounds j true) a' w') (fun _ _ h1 h2 => ⟨h1, h2⟩)
  simp only [if_neg hne]
  unfold wpOp
  simp only [hi]
  have hw : Region.wanted o (yielded ops a.tmps) = true := by simp [Region.wanted, hg]
  unfold wpList at hh
  rw [if_pos hw] at hh
  rw [if_pos hw]
  exact hh
end
set_option maxRecDepth 100000 in
theorem own_form {w : World} {base : Nat} {e : TypeId} {K : Nat} {v : Value} {n : Nat} {cs : List Value} (h : w.ownsRow base e K v (n + 1) cs) : ∃ b c, v = .slice (some ⟨b, 0, none⟩) (n + 1) c := by
  obtain ⟨_, h2⟩ := h
  rcases h2 with ⟨_, h3⟩ | ⟨b, cap, cur, hv, _⟩
  · cases h3
  · exact ⟨b, cap, hv⟩
set_option maxRecDepth 100000 in
theorem ne_after {g n : Nat} {v v' : Value} (h : some g ≠ v.ownBlock) (hb : v'.ownBlock = v.ownBlock ∨ v'.ownBlock = some n) (hg : g < n) : some g ≠ v'.ownBlock := by
  rcases hb with hb | hb
  · rw [hb]; exact h
  · rw [hb]; intro he; have := Option.some.inj he; omega
set_option maxRecDepth 100000 in
theorem copied_end {base m : Nat} {g : Nat} {xs : List Nat} {wr w10 : World} {v : Value} {cs : List Value} {l : List Tm} (ho : w10.ownsRow base 24 3 v m cs) (hm : m = l.length) (htc : TC (FX base wr v xs) wr l cs) (hu : Upd g wr w10) (hg : g ∈ xs) : SlT (FN base w10.heap.size) w10 v l :=
  SlT.of_own ho hm.symm (htc.keeps (fx_upd hu (Or.inl hg))) (fun _ hb => ⟨hb.1.1, hb.1.2.1⟩) (fun _ h1 h2 => ⟨h1, h2⟩)
set_option maxRecDepth 100000 in
theorem copied_push {base k : Nat} {xs : List Nat} {wr wc w6 w7 w9 : World} {vb v9 s6 : Value} {cs : List Value} {l : List Tm} {x : Tm} (ho : wr.ownsRow base 24 3 vb k cs) (htc : TC (FX base wr vb xs) wr l cs) (h6 : Below wr.heap.size wr w6) (h7 : Below w6.heap.size w6 w7) (hc : Below wc.heap.size wc w6) (hwc : wr.heap.size ≤ wc.heap.size)
    (hs6 : SlT (FN wc.heap.size w6.heap.size) w6 s6 x.l) (hg9 : w7.grownBy w9 vb.ownBlock) (hl9 : v9.ownBlock = vb.ownBlock ∨ v9.ownBlock = some w7.heap.size) (hb : base ≤ wr.heap.size) (hg3 : ∀ y ∈ xs, y < wr.heap.size) :
    TC (FX base w9 v9 xs) w9 (l ++ [x]) (cs ++ tcs x s6) := by
  have _ := hc
  have k1 : TC (FX base w7 vb xs) w7 l cs := (htc.keeps (fx_below h6)).keeps (fx_below h7)
  have k2 : SlT (FX base w7 vb xs) w7 s6 x.l := (hs6.below h7).weak (fx_of ho (Nat.le_trans hb hwc) hwc h7.size (fun y hy => Nat.lt_of_lt_of_le (hg3 y hy) hwc))
  exact (k1.snoc ((KS_iff x s6).2 k2)).keeps (fx_push hg9 hl9)
set_option maxHeartbeats 8000000 in
set_option maxRecDepth 100000 in
theorem copied_any {F : Nat → Prop} (t : Tm) : ∀ (s : Value) (w : World), cnt t ≤ 100 → SlT F w s t.l →
    Calls Tryd.prog 26 #[.agg (tcs t s).toArray] w fun e w' => ∃ s', e = .returned (.agg (tcs t s').toArray) ∧ SlT (FN w.heap.size w'.heap.size) w' s' t.l ∧ Below w.heap.size w w' := by
  induction t using Tm.ind with
  | h t ih =>
  intro s w hc hs
  have HIH : Hid _ := ih
  clear ih
  obtain ⟨p, cap, rfl, hcap⟩ := hs.len
  obtain ⟨m, hml⟩ : ∃ m, m = t.l.length := ⟨_, rfl⟩
  have HM : Hid (∀ _ : Unit, m = t.l.length) := fun _ => hml
  have HS : Hid (SlT F w (.slice p m cap) t.l) := by rw [hml]; exact hs
  rw [← hml]
  have hm100 : m < 100 := by
    have h1 := sum_ge (l := t.l) (k := t.l.length) (Nat.le_refl _)
    rw [List.take_length] at h1
    have h2 := cnt_eq t
    omega
  have HC : Hid (cnt t ≤ 100) := hc
  clear hs hml hcap hc
  have hm := Mem.start w
  go_enter Tryd.func26, Tryd.ntmps26
  go_wp2_with (first
    | ((with_reducible refine at_op (some 1) (.box 24 (.tmp 0)) ?_); go_must (refine wpl_box (tcs t (.slice p m cap)) rfl hm ?_); clear hm; intro w1 g1 hm)
    | ((with_reducible refine at_op (some 2) (.alloc 24) ?_); go_must (refine wpl_alloc _ zero_term hm ?_); clear hm; intro w2 g2 hm)
    | ((with_reducible refine at_op (some 7) (.load 3 (.tmp 6)) ?_); go_must (refine wpl_execG (.int .i64 t.k) rfl (exec_ldx (.int .i64 t.k) (Mem.cell hm 1 rfl 0) rfl ag_int) ?_))
    | ((with_reducible refine at_op (some 9) (.load 3 (.tmp 8)) ?_); go_must (refine wpl_execG (.int .i64 t.n) rfl (exec_ldx (.int .i64 t.n) (Mem.cell hm 1 rfl 1) rfl ag_int) ?_))
    | ((with_reducible refine at_op (some 3) (.alloc 24) ?_); go_must (refine wpl_alloc _ zero_term hm ?_); clear hm; intro w3 g3 hm)
    | ((with_reducible refine at_op none (.store 24 (.tmp 3) (.tmp 10)) ?_); go_must (refine wpl_stw 0 ([.int .i64 t.k, .int .i64 t.n, .slice none 0 0]) hm rfl rfl rfl 3 sz_term rfl rfl ((by intro v hv; simp only [List.mem_cons, List.not_mem_nil, or_false] at hv; rcases hv with rfl | rfl | rfl <;> rfl)) ?_); clear hm; intro w4 hm)
    | ((with_reducible refine at_op (some 12) (.load 22 (.tmp 11)) ?_); go_must (refine wpl_execG (.slice p m cap) rfl (exec_ldx (.slice p m cap) (Mem.cell hm 2 rfl 2) rfl ag_terms) ?_)))
  have HR4 : Hid (Row w4 g3 [.int .i64 t.k, .int .i64 t.n, .slice none 0 0] 24) := hm.get 0 rfl
  have HR2 : Hid (Row w4 g2 [.int .i64 0, .int .i64 0, .slice none 0 0] 24) := hm.get 1 rfl
  have HG3B : Hid (w.heap.size ≤ g3 ∧ w.heap.size ≤ g2 ∧ g2 < w4.heap.size ∧ g2 ≠ g3) := ⟨by have h9 := hm.fresh _ (List.mem_cons_self ..); simpa using h9, by have h9 := hm.fresh _ (List.mem_cons_of_mem _ (List.mem_cons_self ..)); simpa using h9, (hm.get 1 rfl).lt, fun he => hm.ne 0 rfl he.symm⟩
  have HB4 : Hid (Below w.heap.size w w4) := hm.below
  clear hm
  go_loopw [14] (fun vi wr => ∃ (k : Nat) (vb : Value) (cs : List Value), k ≤ m ∧ vi = .int .i64 (k : Int) ∧ Hid (Row wr g3 [.int .i64 t.k, .int .i64 t.n, vb] 24) ∧ Hid (some g3 ≠ vb.ownBlock) ∧ Hid (wr.ownsRow w.heap.size 24 3 vb k cs) ∧ Hid (TC (FX w.heap.size wr vb [g3, g2]) wr (t.l.take k) cs) ∧ Hid (Below w.heap.size w wr) ∧ Hid (Row wr g2 [.int .i64 0, .int .i64 0, .slice none 0 0] 24 ∧ some g2 ≠ vb.ownBlock)) (fun vi _ => m - (intOf vi).toNat)
  case atStart => exact ⟨0, .slice none 0 0, [], by omega, rfl, HR4.out, (fun h => by cases h), World.ownsRow_nil _ _ _ _, rfl, HB4.out, HR2.out, (fun h => by cases h)⟩
  case round =>
    clear HR4 HR2
    obtain ⟨k, vb, cs, hk, rfl, HG3, HNE, HO, HTC, HW, HRG2⟩ := hrel
    by_cases hlt : k < m
    · have hki : (k : Int) < (m : Int) := by omega
      obtain ⟨b, o, rfl⟩ := HS.out.at (show 0 < m by omega)
      obtain ⟨x, hx⟩ := get_of (HM.out ()) hlt
      obtain ⟨px, mx, cx, c0, c1, c2, hmx, hsx⟩ := (HS.out.below HW.out).cells hx
      have HMX : Hid (x ∈ t.l) := List.mem_of_getElem? hx
      have HCX : Hid (cnt x ≤ 100) := by show _ ≤ _; have := cnt_lt HMX.out; have := HC.out; omega
      have HX2 : Hid (SlT F wr (.slice px mx cx) x.l) := hsx
      have HTK1 : Hid (∀ _ : Unit, t.l.take (k + 1) = t.l.take k ++ [x]) := fun _ => by rw [List.take_add_one, hx]; rfl
      have HCALL : Hid (∀ W, Below wr.heap.size wr W → Calls Tryd.prog 26 #[.agg (tcs x (.slice px mx cx)).toArray] W fun e w' => ∃ s', e = .returned (.agg (tcs x s').toArray) ∧ SlT (FN W.heap.size w'.heap.size) w' s' x.l ∧ Below W.heap.size W w') := fun W hW => HIH.out x HMX.out (.slice px mx cx) W HCX.out (HX2.out.below hW)
      have hk3 : k ≤ 100000 := by omega
      have HSZ : Hid (w.heap.size ≤ wr.heap.size) := HW.out.size
      have HG3L : Hid (g3 < wr.heap.size) := HG3.out.lt
      have HG3B' : Hid (w.heap.size ≤ g3) := HG3B.out.1
      have hm := Mem.start wr
      clear hsx hx hmx HX2
      go_wp2_with (first
        | ((with_reducible refine at_op (some 16) (.indexAddr 22 (.tmp 12) (.tmp 14)) ?_); go_must (refine wpl_execG (.pointer (some ⟨b, o + k * 3, none⟩)) rfl (exec_ixT k rfl rfl rfl hlt) ?_))
        | ((with_reducible refine at_op (some 17) (.load 24 (.tmp 16)) ?_); go_must (refine wpl_execG (.agg (tcs x (.slice px mx cx)).toArray) rfl (exec_ldT rfl c0 c1 c2) ?_))
        | ((with_reducible refine at_op (some 5) (.alloc 24) ?_); go_must (refine wpl_alloc _ zero_term hm ?_); clear hm; intro w5 g5 hm)
        | ((with_reducible refine at_op none (.store 24 (.tmp 5) (.tmp 17)) ?_); go_must (refine wpl_stw 0 (tcs x (.slice px mx cx)) hm rfl rfl rfl 3 sz_term rfl rfl (oneTcs _ _ _ _) ?_); clear hm; intro w5b hm))
      have HG5 : Hid (wr.heap.size ≤ g5) := by show _ ≤ _; have h9 := hm.fresh _ (List.mem_cons_self ..); simpa using h9
      have HWC0 : Hid (wr.heap.size ≤ w5b.heap.size) := hm.size
      refine wp_ends0 ?_
      refine anyC_start (T := fun W => Row W g3 [.int .i64 t.k, .int .i64 t.n, vb] 24 ∧ Row W g5 (tcs x (.slice px mx cx)) 24) (T2 := fun _ => True) 7 (by kernel_rfl) hm ?_
      clear hm
      intro wc hm
      have HWC : Hid (wr.heap.size ≤ wc.heap.size) := hm.size
      have HR2C : Hid (Row wc g2 [.int .i64 0, .int .i64 0, .slice none 0 0] 24) := HRG2.out.1.below' hm.below
      have hT : Row wc g3 [.int .i64 t.k, .int .i64 t.n, vb] 24 ∧ Row wc g5 (tcs x (.slice px mx cx)) 24 := ⟨HG3.out.below' hm.below, hm.get 0 rfl⟩
      refine anyC_pure 0 (v := .pointer (some ⟨g3, 2, none⟩)) rfl (by kernel_rfl) (by kernel_rfl) (by kernel_rfl) rfl rfl (fun W _ => by go_simp) hT ?_
      go_simp
      refine anyC_load 1 (v := vb) rfl (by kernel_rfl) (by kernel_rfl) (by kernel_rfl) rfl rfl (by kernel_rfl) rfl (fun W hW => exec_ldx vb (hW.1.cell 2) rfl ag_terms) hT ?_
      go_simp
      refine anyC_load 2 (v := .agg (tcs x (.slice px mx cx)).toArray) rfl (by kernel_rfl) (by kernel_rfl) (by kernel_rfl) rfl rfl (by kernel_rfl) rfl (fun W hW => exec_ldsG 0 (tcs x (.slice px mx cx)) hW.2 rfl _ Tryd.underlying24 rfl 3 sz_term (Nat.le_refl _) rfl) hT ?_
      go_simp
      refine anyC_one 3 (by kernel_rfl) rfl rfl rfl ?_
      intro K hK
      go_wp2_with (go_at_call 26; refine (HCALL.out _ hm.below).mono ?_; rintro e w6 ⟨s6, he, hs6, hb⟩; subst he; have HS6 : Hid (SlT (FN wc.heap.size w6.heap.size) w6 s6 x.l) := hs6; obtain ⟨p6, c6, hv6, _⟩ := hs6.len; subst hv6; have hT6 : Row w6 g3 [.int .i64 t.k, .int .i64 t.n, vb] 24 ∧ Row w6 g5 (tcs x (.slice px mx cx)) 24 := ⟨hT.1.below' hb, hT.2.below' hb⟩; have HBC : Hid (Below wc.heap.size wc w6) := hb; have HBW : Hid (Below wr.heap.size wr w6) := (hm.call hb).below; clear hb hs6 hm hT)
      refine hK _ _ hT6 ?_
      clear hK K
      have hm := Mem.start w6
      go_simp
      refine anyC_one 4 (by kernel_rfl) rfl rfl rfl ?_
      intro K hK
      refine wpl_bslT x (.slice p6 x.l.length c6) rfl rfl hm ?_
      clear hm
      intro w7 g7 hb7 hm
      have hT7 : Row w7 g3 [.int .i64 t.k, .int .i64 t.n, vb] 24 ∧ Row w7 g5 (tcs x (.slice px mx cx)) 24 := ⟨hT6.1.below' hb7, hT6.2.below' hb7⟩
      have HB67 : Hid (Below w6.heap.size w6 w7) := hb7
      clear hT6 hb7
      refine wpList_nil ?_
      refine hK _ _ hT7 ?_
      clear hK K
      go_simp
      refine anyC_one 5 (by kernel_rfl) rfl rfl rfl ?_
      intro K hK
      refine wpl_appV (.agg [.int .i64 0, .int .i64 0, .slice none 0 0].toArray) 3 40 rfl un_terms made_term rfl (by omega) (by omega) (own_below (own_below HO.out HBW.out) HB67.out) (Nat.le_trans HSZ.out (Nat.le_trans HBW.out.size HB67.out.size)) rfl rfl (hm.get 0 rfl) rfl (oneTcs _ _ _ _) hk3 ?_
      intro v9 w9 ho9 hg9 hl9
      have HX9 : Hid (w9.ownsRow w.heap.size 24 3 v9 (k + 1) (cs ++ tcs x (.slice p6 x.l.length c6))) := ho9
      have hT9 : Row w9 g3 [.int .i64 t.k, .int .i64 t.n, vb] 24 ∧ Row w9 g5 (tcs x (.slice px mx cx)) 24 := ⟨row_grownN hT7.1 HNE.out hg9, row_grownN hT7.2 (fun he => by have h1 := (own_block HO.out he.symm).2; have h2 := HG5.out; omega) hg9⟩
      have HN9 : Hid (some g3 ≠ v9.ownBlock) := by show _ ≠ _; exact ne_after HNE.out hl9 hT7.1.lt
      have HT9 : Hid (TC (FX w.heap.size w9 v9 [g3, g2]) w9 (t.l.take (k + 1)) (cs ++ tcs x (.slice p6 x.l.length c6))) := by show TC _ _ _ _; rw [HTK1.out ()]; exact copied_push HO.out HTC.out HBW.out HB67.out HBC.out HWC.out HS6.out hg9 hl9 HSZ.out (fun y hy => by simp only [List.mem_cons, List.not_mem_nil, or_false] at hy; rcases hy with rfl | rfl <;> first | exact HG3L.out | exact HRG2.out.1.lt)
      have HR29 : Hid (Row w9 g2 [.int .i64 0, .int .i64 0, .slice none 0 0] 24 ∧ some g2 ≠ v9.ownBlock) := ⟨row_grownN ((HR2C.out.below' HBC.out).below' HB67.out) HRG2.out.2 hg9, ne_after HRG2.out.2 hl9 ((HR2C.out.below' HBC.out).below' HB67.out).lt⟩
      have HW9 : Hid (Below w.heap.size w w9) := below_grown (below_next (below_next HW.out HSZ.out HBW.out) (Nat.le_trans HSZ.out HBW.out.size) HB67.out) (Nat.le_trans HSZ.out (Nat.le_trans HBW.out.size HB67.out.size)) (own_below (own_below HO.out HBW.out) HB67.out) hg9
      obtain ⟨b9, c9, hv9⟩ := own_form HX9.out
      subst hv9
      clear ho9 hg9 hl9 hT7 hm
      refine wpList_nil ?_
      refine hK _ _ hT9 ?_
      clear hK K
      have hT := hT9
      clear hT9
      go_simp
      refine anyC_pure 6 (v := .pointer (some ⟨g3, 2, none⟩)) rfl (by kernel_rfl) (by kernel_rfl) (by kernel_rfl) rfl rfl (fun W _ => by go_simp) hT ?_
      go_simp
      refine anyC_turn (by kernel_rfl) rfl rfl ?_
      intro K hK
      refine wpl_stcU 0 2 (.slice (some ⟨b9, 0, none⟩) (k + 1) c9) (Mem.enter hT.1) rfl rfl rfl sz_terms (by show 2 < 3; omega) rfl rfl ?_
      intro w10 hu10 hm10
      have HRA : Hid (Row w10 g3 [.int .i64 t.k, .int .i64 t.n, .slice (some ⟨b9, 0, none⟩) (k + 1) c9] 24) := hm10.get 0 rfl
      have HO10 : Hid (w10.ownsRow w.heap.size 24 3 (.slice (some ⟨b9, 0, none⟩) (k + 1) c9) (k + 1) (cs ++ tcs x (.slice p6 x.l.length c6))) := own_updN HX9.out hu10 HN9.out
      have HT10 : Hid (TC (FX w.heap.size w10 (.slice (some ⟨b9, 0, none⟩) (k + 1) c9) [g3, g2]) w10 (t.l.take (k + 1)) (cs ++ tcs x (.slice p6 x.l.length c6))) := HT9.out.keeps (fx_upd hu10 (Or.inl (List.mem_cons_self ..)))
      have HR210 : Hid (Row w10 g2 [.int .i64 0, .int .i64 0, .slice none 0 0] 24 ∧ some g2 ≠ (Value.slice (some ⟨b9, 0, none⟩) (k + 1) c9).ownBlock) := ⟨hu10.row HR29.out.1 HG3B.out.2.2.2, HR29.out.2⟩
      have HW10 : Hid (Below w.heap.size w w10) := below_upd HW9.out hu10 HG3B'.out HW9.out.size
      clear hu10 hm10 HX9 HT9 HW9
      refine wpList_nil ?_
      refine hK _ _ trivial ?_
      clear hK K
      refine wpAnyH_done (by kernel_rfl) ?_ _
      simp only [endsIn]
      go_wp2_with fail
      go_roundw
      case rel => exact ⟨k + 1, _, _, by omega, by go_num, HRA.out, HN9.out, HO10.out, HT10.out, HW10.out, HR210.out⟩
      case measure => simp [intOf]; omega
    · have hkn : m = k := by omega
      subst hkn
      have hni : ¬ (m : Int) < (m : Int) := by omega
      have HTK : Hid (∀ _ : Unit, t.l.take m = t.l) := fun _ => by rw [HM.out (), List.take_length]
      have hm0 := Mem.enter HG3.out
      obtain ⟨p9, c9, hv9, _⟩ := SlV.len (own_sl HO.out)
      subst hv9
      go_wp2_with (first
        | ((with_reducible refine at_op (some 26) (.load 24 (.tmp 3)) ?_); go_must (refine wpl_ldw 0 hm0 rfl rfl _ Tryd.underlying24 rfl 3 sz_term rfl ?_))
        | ((with_reducible refine at_op none (.store 24 (.tmp 2) (.tmp 26)) ?_); go_must (refine wpl_stwU 0 (tcs t (.slice p9 m c9)) (Mem.enter HRG2.out.1) rfl rfl rfl 3 sz_term rfl rfl (oneTcs _ _ _ _) ?_); intro w10 hu10 hm10; have HRA : Hid (Row w10 g2 (tcs t (.slice p9 m c9)) 24) := hm10.get 0 rfl; have HO10 : Hid (w10.ownsRow w.heap.size 24 3 (.slice p9 m c9) m cs) := own_updN HO.out hu10 HRG2.out.2; have HT10 : Hid (SlT (FN w.heap.size w10.heap.size) w10 (.slice p9 m c9) t.l) := copied_end HO10.out (HM.out ()) (by have h9 := HTC.out; rw [HTK.out ()] at h9; exact h9) hu10 (List.mem_cons_of_mem _ (List.mem_cons_self ..)); have HW10 : Hid (Below w.heap.size w w10) := below_upd HW.out hu10 HG3B.out.2.1 HW.out.size; clear hu10 hm10))
      refine ret_cell 0 (Mem.enter HRA.out) rfl Tryd.results26 rfl _ Tryd.underlying24 rfl 3 sz_term rfl rfl ?_
      exact ⟨_, rfl, HT10.out, HW10.out⟩
end Go.Proofs.YtbiinchmbclmcaaDoor
