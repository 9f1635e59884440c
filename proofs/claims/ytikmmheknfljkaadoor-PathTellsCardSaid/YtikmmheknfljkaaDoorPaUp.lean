/- What is above a place. -/
import Derived.Deep.LoopGhost
import Derived.Test.YtikmmheknfljkaaDoorPaMap
namespace Go.Proofs.YtikmmheknfljkaaDoor
open Go Go.RowKit Go.Maps
set_option maxRecDepth 100000 in
theorem anyH_startB {P : Program} {R : Act → World → Prop} {T : World → Prop} {a : Act} {w w0 : World} {S : List Nat} {rows : List (Nat × List Value × TypeId)} {id : Nat} {l : List Oper} (hmix : P.follows .mixedOrders = true) (hm : Mem w0 S w rows)
    (h : ∀ w', Below w.heap.size w w' → Mem w0 S w' rows → wpAnyH P .any l.toArray (endsIn R) T l.toArray.size (Array.replicate l.toArray.size false) a w') : (Code.region id l.toArray true).wp P (endsIn R) a w :=
  wp_region_held hmix (h _ ⟨rfl, rfl, rfl, Nat.le_refl _, fun _ _ => rfl⟩ hm.drew)
set_option maxRecDepth 100000 in
theorem anyH_more {P : Program} {md : Region.Mode} {ops : Array Oper} {Q : Exit → Act → World → Prop} {S : World → Prop} (S' : World → Prop) (hS : ∀ w, S' w → S w) : ∀ (fuel : Nat) (listed : Array Bool) (a : Act) (w : World), wpAnyH P md ops Q S' fuel listed a w → wpAnyH P md ops Q S fuel listed a w
  | 0, _, _, _, h => h
  | fuel + 1, _, _, _, h => ⟨h.1, fun i hi => wpOp_mono (fun a' w' h' => ⟨hS _ h'.1, anyH_more S' hS fuel _ a' w' h'.2⟩) (h.2 i hi)⟩
section
variable {P : Program} {ops : Array Oper} {rest : List Oper} {a : Act} {w : World} {typ : TypeId} {pos : String} {aft : Array Edge}
set_option maxRecDepth 100000 in
theorem wpl_stwU {Q : Exit → Act → World → Prop} {w0 : World} {S : List Nat} {rows : List (Nat × List Value × TypeId)} {ty : TypeId} {x y : Operand} (i : Nat) {g : Nat} {l : List Value} {t : TypeId} (l' : List Value) (hm : Mem w0 S w rows) (hi : rows[i]? = some (g, l, t)) (hx : a.eval x = .pointer (some ⟨g, 0, none⟩))
    (hy : a.eval y = .agg l'.toArray) (n : Nat) (hs : (P.info? ty).map (·.size) = some n) (hn : l.length = n) (hn' : l'.length = n) (h1 : ∀ v ∈ l', v.oneCell' = true)
    (h : ∀ w', Upd g w w' → Mem w0 S w' (rows.set i (g, l', t)) → wpList P ops Q rest a w') :
    wpList P ops Q ({ dst := none, op := .store ty x y, type := typ, pos := pos, after := aft, guard := none } :: rest) a w := by
  refine wpList_plain rfl fun K hK => ?_
  have hr := hm.get i hi
  have hh := hK _ _ (h _ (Upd.setRow g w l'.toArray) (hm.upd i hi (Upd.setRow g w l'.toArray) (hr.setRow l')))
  unfold Oper.wp execOp
  simp only [hx, hy, Instr.storeAt, Instr.sureAddr, Sem.run_bind, Sem.run_pure, Result.andThen_ok,
    run_storeVar_row w g t ty l.toArray l'.toArray hr (by rw [hs]; simp [hn']) (by simp [hn, hn']) (by simpa using h1)]
  exact hh
end
set_option maxRecDepth 100000 in
theorem plv3 (ks : List ByteArray) : (plv ks).length = 3 := rfl
set_option maxRecDepth 100000 in
theorem plv_one (ks : List ByteArray) : ∀ v ∈ plv ks, v.oneCell' = true := by intro v hv; simp [plv] at hv; rcases hv with rfl | rfl | rfl <;> rfl
set_option maxHeartbeats 2000000 in
set_option maxRecDepth 100000 in
theorem parent_root (w : World) :
    Calls Tryd.prog 29 #[.agg (plv []).toArray] w fun e w' => e = .returned (.agg (plv []).toArray) ∧ Below w.heap.size w w' := by
  have hm := Mem.start w
  go_enter Tryd.func29, Tryd.ntmps29
  go_wp2_with (first
    | ((with_reducible refine at_op (some 1) (.box 42 (.tmp 0)) ?_); refine wpl_box (plv []) rfl hm ?_; clear hm; intro w1 g1 hm)
    | ((with_reducible refine at_op (some 2) (.alloc 42) ?_); refine wpl_alloc _ zero_pl hm ?_; clear hm; intro w2 g2 hm))
  refine wp_ends0 ?_
  refine anyH_startB (T := fun W => Mem w [] W [(g2, [.string ByteArray.empty, .string ByteArray.empty, .string ByteArray.empty], 42), (g1, plv [], 42)]) (by kernel_rfl) hm ?_
  intro wc hbw hmw
  replace hm : Mem w [] wc [(g2, [.string ByteArray.empty, .string ByteArray.empty, .string ByteArray.empty], 42), (g1, plv [], 42)] := hmw
  clear hbw hmw
  refine anyH_take 0 (v := .agg (plv []).toArray) rfl (by kernel_rfl) (by kernel_rfl) (by kernel_rfl) rfl (fun W hW => exec_ldsG 0 (plv []) (Mem.get hW 1 rfl) rfl _ un_pl rfl 3 sz_pl (Nat.le_refl 3) rfl) hm ?_
  go_simp
  refine wpAnyH_all (rs := [1]) (by kernel_rfl) (by simp) ?_
  intro i hi
  simp only [List.mem_cons, List.not_mem_nil, or_false] at hi
  subst hi
  refine anyH_opW 1 rfl rfl ?_
  intro K hK
  go_wp2_with (go_at_call 28; refine (root_any _).mono ?_; rintro e w' ⟨he, hb⟩; subst he; replace hm := hm.call hb; clear hb)
  refine hK _ _ hm ?_
  clear hK K
  go_simp
  refine anyH_take 2 (v := .bool false) rfl (by kernel_rfl) (by kernel_rfl) (by kernel_rfl) rfl (fun W _ => exec_neP PlOk.nil PlOk.nil true (by decide) rfl rfl) hm ?_
  go_simp
  refine wpAnyH_done (by kernel_rfl) ?_ _
  simp only [endsIn]
  go_wp2_with (first
    | ((with_reducible refine at_op (some 10) (.load 42 (.tmp 1)) ?_); refine wpl_ldw 1 hm rfl rfl _ un_pl rfl 3 sz_pl (by rfl) ?_)
    | ((with_reducible refine at_op none (.store 42 (.tmp 2) (.tmp 10)) ?_); refine wpl_stw 0 (plv []) hm rfl rfl rfl 3 sz_pl rfl rfl (by intro v hv; simp [plv] at hv; rcases hv with rfl | rfl | rfl <;> rfl) ?_; clear hm; intro w6 hm))
  refine ret_cell 0 hm rfl Tryd.results29 rfl _ un_pl rfl 3 sz_pl rfl rfl ?_
  exact ⟨rfl, hm.below⟩
set_option maxHeartbeats 2000000 in
set_option maxRecDepth 100000 in
theorem parent_more {ks : List ByteArray} (h : PlOk ks) (h0 : ks ≠ []) (w : World) :
    Calls Tryd.prog 29 #[.agg (plv ks).toArray] w fun e w' => e = .returned (.agg (plv ks.dropLast).toArray) ∧ Below w.heap.size w w' := by
  have hm := Mem.start w
  have HK : Hid (∀ _ : Unit, PlOk ks) := fun _ => h
  obtain ⟨n, hn⟩ : ∃ n, ks.length = n + 1 := ⟨ks.length - 1, by have := List.length_pos_iff.2 h0; omega⟩
  have hn3 : n < 3 := by have := h.len; omega
  have HD : Hid (∀ W, Calls Tryd.prog 39 #[.agg (plv ks).toArray] W fun e w' => e = .returned (.int .i64 ((n : Int) + 1)) ∧ Below W.heap.size W w') := fun W => by have := depth_any h W; rw [hn] at this; exact this
  have HS : Hid (∀ _ : Unit, (plv ks).set n (.string noStr) = plv ks.dropLast) := fun _ => by have := plv_drop h.len h0; rw [hn] at this; exact this
  have HNE : Hid (∀ _ : Unit, false = decide (ks = [])) := fun _ => by simp [h0]
  have hw : IntKind.i64.wrap ((n : Int) + 1 - 1) = (n : Int) := (wrapi _ (by omega) (by omega)).trans (by omega)
  have hni : (n : Int) < 3 := by omega
  have hn0 : (0 : Int) ≤ (n : Int) := by omega
  clear h h0 hn
  go_enter Tryd.func29, Tryd.ntmps29
  go_wp2_with (first
    | ((with_reducible refine at_op (some 1) (.box 42 (.tmp 0)) ?_); refine wpl_box (plv ks) rfl hm ?_; clear hm; intro w1 g1 hm)
    | ((with_reducible refine at_op (some 2) (.alloc 42) ?_); refine wpl_alloc _ zero_pl hm ?_; clear hm; intro w2 g2 hm))
  refine wp_ends0 ?_
  refine anyH_startB (T := fun W => Mem w [] W [(g2, [.string ByteArray.empty, .string ByteArray.empty, .string ByteArray.empty], 42), (g1, plv ks, 42)]) (by kernel_rfl) hm ?_
  intro wc hbw hmw
  replace hm : Mem w [] wc [(g2, [.string ByteArray.empty, .string ByteArray.empty, .string ByteArray.empty], 42), (g1, plv ks, 42)] := hmw
  clear hbw hmw
  refine anyH_take 0 (v := .agg (plv ks).toArray) rfl (by kernel_rfl) (by kernel_rfl) (by kernel_rfl) rfl (fun W hW => exec_ldsG 0 (plv ks) (Mem.get hW 1 rfl) rfl _ un_pl rfl 3 sz_pl (Nat.le_refl 3) rfl) hm ?_
  go_simp
  refine wpAnyH_all (rs := [1]) (by kernel_rfl) (by simp) ?_
  intro i hi
  simp only [List.mem_cons, List.not_mem_nil, or_false] at hi
  subst hi
  refine anyH_opW 1 rfl rfl ?_
  intro K hK
  go_wp2_with (go_at_call 28; refine (root_any _).mono ?_; rintro e w' ⟨he, hb⟩; subst he; replace hm := hm.call hb; clear hb)
  refine hK _ _ hm ?_
  clear hK K
  go_simp
  refine anyH_take 2 (v := .bool true) rfl (by kernel_rfl) (by kernel_rfl) (by kernel_rfl) rfl (fun W _ => exec_neP (HK.out ()) PlOk.nil false (HNE.out ()) rfl rfl) hm ?_
  go_simp
  refine wpAnyH_done (by kernel_rfl) ?_ _
  simp only [endsIn]
  go_wp2_with (first
    | ((with_reducible refine at_op (some 6) (.load 42 (.tmp 1)) ?_); refine wpl_ldw 1 hm rfl rfl _ un_pl rfl 3 sz_pl (by rfl) ?_)
    | ((with_reducible refine at_op (some 10) (.load 42 (.tmp 1)) ?_); refine wpl_ldw 1 hm rfl rfl _ un_pl rfl 3 sz_pl (by rfl) ?_)
    | (go_at_call 39; refine (HD.out _).mono ?_; rintro e w' ⟨he, hb⟩; subst he; replace hm := hm.call hb; clear hb)
    | ((with_reducible refine at_op none (.store 9 (.tmp 9) (.const (.string { data := #[] }))) ?_); refine wpl_stc 1 n (.string noStr) hm rfl (by go_simp) rfl sz_str (by show n < 3; omega) rfl rfl ?_; clear hm; intro w6 hm; replace hm : Mem w [] w6 [(g2, [.string ByteArray.empty, .string ByteArray.empty, .string ByteArray.empty], 42), (g1, plv ks.dropLast, 42)] := by rw [← HS.out ()]; exact hm)
    | ((with_reducible refine at_op none (.store 42 (.tmp 2) (.tmp 10)) ?_); refine wpl_stw 0 (plv ks.dropLast) hm rfl rfl rfl 3 sz_pl rfl rfl (by intro v hv; simp [plv] at hv; rcases hv with rfl | rfl | rfl <;> rfl) ?_; clear hm; intro w7 hm))
  refine ret_cell 0 hm rfl Tryd.results29 rfl _ un_pl rfl 3 sz_pl rfl rfl ?_
  exact ⟨rfl, hm.below⟩
set_option maxRecDepth 100000 in
theorem parent_any {ks : List ByteArray} (h : PlOk ks) (w : World) :
    Calls Tryd.prog 29 #[.agg (plv ks).toArray] w fun e w' => e = .returned (.agg (plv ks.dropLast).toArray) ∧ Below w.heap.size w w' := by
  by_cases h0 : ks = []
  · subst h0; exact parent_root w
  · exact parent_more h h0 w
/-! The set of what a place is under. -/
def unitV : Value := .agg [].toArray
def abv (ks : List ByteArray) (k : Nat) : Value → Value → Prop := fun x v => v = unitV ∧ ∃ n, (n = 0 ∨ k < n) ∧ n ≤ ks.length ∧ x = .agg (plv (ks.take n)).toArray
structure Abv (w0 w : World) (ks : List ByteArray) (m k : Nat) (rows : List (Nat × List Value × TypeId)) : Prop where
  mem : Mem w0 [] w rows
  map : ∃ q, q + k ≤ 10 ∧ KM Tryd.prog 42 w m q (abv ks k)
  new : w0.heap.size ≤ m
set_option maxRecDepth 100000 in
theorem Abv.call {w0 w w' : World} {ks : List ByteArray} {m k : Nat} {rows : List (Nat × List Value × TypeId)} (h : Abv w0 w ks m k rows) (hb : Below w.heap.size w w') : Abv w0 w' ks m k rows := by
  obtain ⟨q, hq, hk⟩ := h.map
  exact ⟨h.mem.call hb, ⟨q, hq, hk.below hb⟩, h.new⟩
set_option maxRecDepth 100000 in
theorem take_ok {ks : List ByteArray} (h : PlOk ks) (n : Nat) : PlOk (ks.take n) := ⟨by have := h.len; simp; omega, fun k hk => h.seg k (List.mem_of_mem_take hk)⟩
set_option maxRecDepth 100000 in
theorem take_dl {ks : List ByteArray} {n : Nat} (hn : n + 1 ≤ ks.length) : (ks.take (n + 1)).dropLast = ks.take n := by
  rw [List.dropLast_eq_take, List.length_take, Nat.min_eq_left hn, List.take_take, Nat.add_sub_cancel, Nat.min_eq_left (by omega)]
set_option maxRecDepth 100000 in
theorem abv_put {ks : List ByteArray} {n : Nat} (hn : n + 1 ≤ ks.length) (h : PlOk ks) (x v : Value) : putK (abv ks (n + 1)) (.agg (plv (ks.take (n + 1))).toArray) unitV x v ↔ abv ks n x v := by
  constructor
  · rintro (⟨rfl, rfl⟩ | ⟨_, rfl, j, hj, hl, rfl⟩)
    · exact ⟨rfl, n + 1, Or.inr (by omega), hn, rfl⟩
    · exact ⟨rfl, j, by omega, hl, rfl⟩
  · rintro ⟨rfl, j, hj, hl, rfl⟩
    by_cases hjn : j = n + 1
    · subst hjn; exact Or.inl ⟨rfl, rfl⟩
    · refine Or.inr ⟨fun he => hjn ?_, rfl, j, by omega, hl, rfl⟩
      have := congrArg List.length (plvA_inj (take_ok h j) (take_ok h (n + 1)) he)
      simp at this
      omega
set_option maxRecDepth 100000 in
theorem abv_one {ks : List ByteArray} (x v : Value) : putK (fun _ _ => False) (.agg (plv []).toArray) unitV x v ↔ abv ks ks.length x v := by
  constructor
  · rintro (⟨rfl, rfl⟩ | ⟨_, h⟩)
    · exact ⟨rfl, 0, Or.inl rfl, by omega, rfl⟩
    · exact h.elim
  · rintro ⟨rfl, j, hj, hl, rfl⟩
    have : j = 0 := by omega
    subst this
    exact Or.inl ⟨rfl, rfl⟩
set_option maxHeartbeats 4000000 in
set_option maxRecDepth 100000 in
theorem above_any {ks : List ByteArray} (h : PlOk ks) (w : World) :
    Calls Tryd.prog 38 #[.agg (plv ks).toArray] w fun e w' => ∃ m, e = .returned (.map (some m)) ∧ (∃ q, KM Tryd.prog 42 w' m q (abv ks 0)) ∧ Below w.heap.size w w' := by
  have hm := Mem.start w
  have HK : Hid (∀ _ : Unit, PlOk ks) := fun _ => h
  have HL : Hid (∀ _ : Unit, ks.length ≤ 3) := fun _ => h.len
  have HT : Hid (∀ _ : Unit, ks.take ks.length = ks) := fun _ => List.take_length
  clear h
  go_enter Tryd.func38, Tryd.ntmps38
  go_wp2_with (first
    | ((with_reducible refine at_op (some 1) (.box 42 (.tmp 0)) ?_); refine wpl_box (plv ks) rfl hm ?_; clear hm; intro w1 g1 hm)
    | ((with_reducible refine at_op (some 4) (.makeMap 57 none) ?_); go_must (refine wpl_mkmap hm ?_); clear hm; intro w5 m hmap hnew hm; have HM0 : Hid (KM Tryd.prog 42 w5 m 0 (fun _ _ => False)) := KM.new hmap; clear hmap; have HNW : Hid (w.heap.size ≤ m) := hnew; clear hnew)
    | (go_at_call 28; refine (root_any _).mono ?_; rintro e w' ⟨he, hb⟩; subst he; replace hm := hm.call hb; replace HM0 : Hid (KM Tryd.prog 42 w' m 0 (fun _ _ => False)) := HM0.out.below hb; clear hb)
    | ((with_reducible refine at_op (some 6) (.build 54 #[]) ?_); refine wpl_build [] [] rfl (by kernel_rfl) ?_)
    | ((with_reducible refine at_op none (.insert 57 (.tmp 4) (.tmp 5) (.tmp 6)) ?_); obtain ⟨kl0, hkl0⟩ := pl_key PlOk.nil; go_must (refine wpl_kmIns HM0.out pl_law un_set (by omega) hkl0 rfl rfl rfl ?_); clear hkl0; intro w7 st hu; obtain ⟨es, cc, hmp⟩ := HM0.out.isMap; replace hm := hm.updO hmp (Or.inr HNW.out) hu; have HST : Hid (Abv w w7 ks m ks.length [(g1, plv (ks.take ks.length), 42)]) := ⟨by rw [HT.out ()]; exact hm, ⟨1, by have := HL.out (); omega, st.same abv_one⟩, HNW.out⟩; clear st hu hmp HM0 hm))
  go_loopg [10] ks.length (fun gq _ wr => ∃ gk, gk = gq ∧ gk ≤ ks.length ∧ Hid (Abv w wr ks m gk [(g1, plv (ks.take gk), 42)]))
  case atStart => exact ⟨_, rfl, Nat.le_refl _, HST.out⟩
  case round =>
    obtain ⟨gk, rfl, hgk, HA⟩ := hrel
    clear HST
    have hst := HA.out
    have hm := hst.mem
    clear HA
    cases gk with
    | zero =>
      have HNE : Hid (∀ _ : Unit, true = decide (ks.take 0 = [])) := fun _ => by simp
      go_wp2_with fail
      refine wp_ends0 ?_
      refine anyH_startB (T := fun W => Abv w W ks m 0 [(g1, plv (ks.take 0), 42)]) (by kernel_rfl) hm ?_
      intro wc hbw hmw
      replace hm : Abv w wc ks m 0 [(g1, plv (ks.take 0), 42)] := hst.call hbw
      clear hbw hmw
      refine anyH_take 0 (v := .agg (plv (ks.take 0)).toArray) rfl (by kernel_rfl) (by kernel_rfl) (by kernel_rfl) rfl (fun W hW => exec_ldsG 0 (plv (ks.take 0)) (hW.mem.get 0 rfl) rfl _ un_pl rfl 3 sz_pl (Nat.le_refl 3) rfl) hm ?_
      go_simp
      refine wpAnyH_all (rs := [1]) (by kernel_rfl) (by simp) ?_
      intro i hi
      simp only [List.mem_cons, List.not_mem_nil, or_false] at hi
      subst hi
      refine anyH_opW 1 rfl rfl ?_
      intro K hK
      go_wp2_with (go_at_call 28; refine (root_any _).mono ?_; rintro e w' ⟨he, hb⟩; subst he; replace hm := hm.call hb; clear hb)
      refine hK _ _ hm ?_
      clear hK K
      go_simp
      refine anyH_take 2 (v := .bool false) rfl (by kernel_rfl) (by kernel_rfl) (by kernel_rfl) rfl (fun W _ => exec_neP (take_ok (HK.out ()) 0) PlOk.nil true (HNE.out ()) rfl rfl) hm ?_
      go_simp
      refine wpAnyH_done (by kernel_rfl) ?_ _
      simp only [endsIn]
      clear hst
      go_wp2_with fail
      go_ret
      obtain ⟨q, _, hq⟩ := hm.map
      exact ⟨m, rfl, ⟨q, hq⟩, hm.mem.below⟩
    | succ gk =>
      have HNE : Hid (∀ _ : Unit, false = decide (ks.take (gk + 1) = [])) := fun _ => by
        rw [decide_eq_false]
        intro h
        have := congrArg List.length h
        rw [List.length_take, List.length_nil] at this
        omega
      have HDL : Hid (∀ _ : Unit, (ks.take (gk + 1)).dropLast = ks.take gk) := fun _ => take_dl hgk
      go_wp2_with fail
      refine wp_ends0 ?_
      refine anyH_startB (T := fun W => Abv w W ks m (gk + 1) [(g1, plv (ks.take (gk + 1)), 42)]) (by kernel_rfl) hm ?_
      intro wc hbw hmw
      replace hm : Abv w wc ks m (gk + 1) [(g1, plv (ks.take (gk + 1)), 42)] := hst.call hbw
      clear hbw hmw
      refine anyH_take 0 (v := .agg (plv (ks.take (gk + 1))).toArray) rfl (by kernel_rfl) (by kernel_rfl) (by kernel_rfl) rfl (fun W hW => exec_ldsG 0 (plv (ks.take (gk + 1))) (hW.mem.get 0 rfl) rfl _ un_pl rfl 3 sz_pl (Nat.le_refl 3) rfl) hm ?_
      go_simp
      refine wpAnyH_all (rs := [1]) (by kernel_rfl) (by simp) ?_
      intro i hi
      simp only [List.mem_cons, List.not_mem_nil, or_false] at hi
      subst hi
      refine anyH_opW 1 rfl rfl ?_
      intro K hK
      go_wp2_with (go_at_call 28; refine (root_any _).mono ?_; rintro e w' ⟨he, hb⟩; subst he; replace hm := hm.call hb; clear hb)
      refine hK _ _ hm ?_
      clear hK K
      go_simp
      refine anyH_take 2 (v := .bool true) rfl (by kernel_rfl) (by kernel_rfl) (by kernel_rfl) rfl (fun W _ => exec_neP (take_ok (HK.out ()) (gk + 1)) PlOk.nil false (HNE.out ()) rfl rfl) hm ?_
      go_simp
      refine wpAnyH_done (by kernel_rfl) ?_ _
      simp only [endsIn]
      clear hst
      have hst := hm
      replace hm := hst.mem
      go_wp2_with (first
        | ((with_reducible refine at_op (some 12) (.load 42 (.tmp 1)) ?_); refine wpl_ldw 0 hm rfl rfl _ un_pl rfl 3 sz_pl (by rfl) ?_)
        | ((with_reducible refine at_op (some 13) (.build 54 #[]) ?_); refine wpl_build [] [] rfl (by kernel_rfl) ?_)
        | ((with_reducible refine at_op none (.mapUpdate 57 (.tmp 11) (.tmp 12) (.tmp 13)) ?_); obtain ⟨kl1, hkl1⟩ := pl_key (take_ok (HK.out ()) (gk + 1)); obtain ⟨q, hq, hkm⟩ := hst.map; go_must (refine wpl_kmPut hkm pl_law un_set (by omega) hkl1 rfl rfl rfl ?_); clear hkl1; intro w7 st hu; obtain ⟨es, cc, hmp⟩ := hkm.isMap; replace hm := hm.updO hmp (Or.inr hst.new) hu; have HST : Hid (∃ q, q + gk ≤ 10 ∧ KM Tryd.prog 42 w7 m q (abv ks gk)) := ⟨q + 1, by omega, st.same (abv_put hgk (HK.out ()))⟩; have HNW2 : Hid (w.heap.size ≤ m) := hst.new; clear st hu hmp hkm hq hst)
        | ((with_reducible refine at_op (some 14) (.load 42 (.tmp 1)) ?_); refine wpl_ldw 0 hm rfl rfl _ un_pl rfl 3 sz_pl (by rfl) ?_)
        | (go_at_call 29; refine (parent_any (take_ok (HK.out ()) (gk + 1)) _).mono ?_; rintro e w' ⟨he, hb⟩; rw [HDL.out ()] at he; subst he; replace hm := hm.call hb; replace HST : Hid (∃ q, q + gk ≤ 10 ∧ KM Tryd.prog 42 w' m q (abv ks gk)) := by { obtain ⟨q, hq, hkm⟩ := HST.out; exact ⟨q, hq, hkm.below hb⟩ }; clear hb)
        | ((with_reducible refine at_op none (.store 42 (.tmp 1) (.tmp 15)) ?_); obtain ⟨q, hq, hkm⟩ := HST.out; obtain ⟨es, cc, hmp⟩ := hkm.isMap; refine wpl_stwU 0 (plv (ks.take gk)) hm rfl rfl rfl 3 sz_pl rfl rfl (plv_one _) ?_; have hne := row_ne_map (hm.get 0 rfl) hmp; clear hm; intro w8 hu hm; have HST2 : Hid (Abv w w8 ks m gk [(g1, plv (ks.take gk), 42)]) := ⟨hm, ⟨q, hq, hkm.upd hu hne⟩, HNW2.out⟩; clear hkm hmp hq hu HST))
      go_roundg gk
      case measure => omega
      case rel => exact ⟨_, rfl, by omega, HST2.out⟩
end Go.Proofs.YtikmmheknfljkaaDoor
