/- The face of package path: Parent, Under, Decode. -/
import Derived.Test.YtikmmheknfljkaaDoorPaFace
namespace Go.Proofs.YtikmmheknfljkaaDoor
open Go Go.RowKit Go.Maps
def parOk (l : List UInt8) : Bool := isP l && !l.isEmpty
def parOf (l : List UInt8) : List UInt8 := if parOk l then jn 47 (segsOf l).dropLast else []
set_option maxRecDepth 100000 in
theorem parOk_no {l : List UInt8} (h : isP l = false) : parOk l = false ∧ parOf l = [] := by simp [parOf, parOk, h]
set_option maxRecDepth 100000 in
theorem parOk_nil {l : List UInt8} (h : segsOf l = []) : parOk l = false ∧ parOf l = [] := by
  have : parOk l = false := by
    cases hi : isP l with
    | false => exact (parOk_no hi).1
    | true =>
      by_cases h0 : l = []
      · subst h0; rfl
      · exact absurd h (segsOf_ne hi h0)
  exact ⟨this, by simp [parOf, this]⟩
set_option maxRecDepth 100000 in
theorem parOk_yes {l : List UInt8} (hi : isP l = true) (h : segsOf l ≠ []) : parOk l = true ∧ parOf l = jn 47 (segsOf l).dropLast := by
  have h0 : l.isEmpty = false := by
    cases l with
    | nil => exact absurd rfl h
    | cons _ _ => rfl
  have : parOk l = true := by simp [parOk, hi, h0]
  exact ⟨this, by simp [parOf, this]⟩
set_option maxHeartbeats 2000000 in
set_option maxRecDepth 100000 in
theorem parentP_any (s : ByteArray) (w : World) (hs : s.size ≤ 1000) (hM : MaxL w) :
    Calls Tryd.prog 9 #[.string s] w fun e w' => e = .returned (.tuple #[.string (mkS (parOf (bs s))), .bool (parOk (bs s))]) ∧ Below w.heap.size w w' := by
  have hm := Mem.start w
  have HM : Hid (MaxL w) := hM
  clear hM
  obtain ⟨ks, hks⟩ : ∃ ks, ks = segsB s := ⟨_, rfl⟩
  obtain ⟨r, hr⟩ : ∃ r, r = isP (bs s) := ⟨_, rfl⟩
  have HK : Hid (∀ _ : Unit, PlOk ks) := fun _ => by rw [hks]; exact segsB_ok s
  have HKS : Hid (∀ _ : Unit, segsOf (bs s) = ks.map bs) := fun _ => by rw [hks, segsB_bs]
  have HRR : Hid (∀ _ : Unit, isP (bs s) = r) := fun _ => hr.symm
  have HPL : Hid (∀ W, MaxL W → Calls Tryd.prog 27 #[.string s] W fun e w' => e = .returned (.tuple #[.agg (plv ks).toArray, .bool r]) ∧ Below W.heap.size W w') := fun W hW => by rw [hks, hr]; exact placeOf_any s W hs hW
  clear hks hr hs
  cases r with
  | false =>
    have HP := parOk_no (HRR.out ())
    have HP1 : Hid (∀ _ : Unit, parOk (bs s) = false ∧ parOf (bs s) = []) := fun _ => HP
    clear HP
    go_enter Tryd.func9, Tryd.ntmps9
    go_wp2_with (first
      | (go_at_call 27; refine (HPL.out _ (HM.out.below hm.below)).mono ?_; rintro e w' ⟨he, hb⟩; subst he; replace hm := hm.call hb; clear hb)
      | ((with_reducible refine at_op (some 4) (.alloc 42) ?_); refine wpl_alloc _ zero_pl hm ?_; clear hm; intro w2 g4 hm)
      | ((with_reducible refine at_op none (.store 42 (.tmp 4) (.tmp 9)) ?_); refine wpl_stw 0 (plv ks) hm rfl rfl rfl 3 sz_pl rfl rfl (by intro v hv; simp [plv] at hv; rcases hv with rfl | rfl | rfl <;> rfl) ?_; clear hm; intro w3 hm))
    refine wp_ends0 ?_
    refine anyH_startB (T := fun W => Mem w [] W [(g4, plv ks, 42)]) (by kernel_rfl) hm ?_
    intro wc hbw hmw
    replace hm : Mem w [] wc [(g4, plv ks, 42)] := hmw
    clear hbw hmw
    refine anyH_take 0 (v := .bool false) rfl (by kernel_rfl) (by kernel_rfl) (by kernel_rfl) rfl (fun W _ => by go_simp) hm ?_
    go_simp
    refine anyH_take 1 (v := .bool true) rfl (by kernel_rfl) (by kernel_rfl) (by kernel_rfl) rfl (fun W _ => by go_simp) hm ?_
    go_simp
    refine anyH_take 2 (v := .bool true) rfl (by kernel_rfl) (by kernel_rfl) (by kernel_rfl) rfl (fun W _ => by go_simp) hm ?_
    go_simp
    refine anyH_skip 3 rfl (by kernel_rfl) (by kernel_rfl) (by kernel_rfl) rfl hm ?_
    go_simp
    refine anyH_skip 4 rfl (by kernel_rfl) (by kernel_rfl) (by kernel_rfl) rfl hm ?_
    go_simp
    refine anyH_skip 5 rfl (by kernel_rfl) (by kernel_rfl) (by kernel_rfl) rfl hm ?_
    go_simp
    refine anyH_take 6 (v := .bool true) rfl (by kernel_rfl) (by kernel_rfl) (by kernel_rfl) rfl (fun W _ => by go_simp) hm ?_
    go_simp
    refine wpAnyH_done (by kernel_rfl) ?_ _
    simp only [endsIn]
    go_wp2_with fail
    go_ret2
    exact ⟨by rw [(HP1.out ()).1, (HP1.out ()).2]; rfl, hm.below⟩
  | true =>
    by_cases h0 : ks = []
    · have HP1 : Hid (∀ _ : Unit, parOk (bs s) = false ∧ parOf (bs s) = []) := fun _ => parOk_nil (by rw [HKS.out (), h0]; rfl)
      have HEQ : Hid (∀ _ : Unit, true = decide (ks = [])) := fun _ => by simp [h0]
      clear h0
      go_enter Tryd.func9, Tryd.ntmps9
      go_wp2_with (first
        | (go_at_call 27; refine (HPL.out _ (HM.out.below hm.below)).mono ?_; rintro e w' ⟨he, hb⟩; subst he; replace hm := hm.call hb; clear hb)
        | ((with_reducible refine at_op (some 4) (.alloc 42) ?_); refine wpl_alloc _ zero_pl hm ?_; clear hm; intro w2 g4 hm)
        | ((with_reducible refine at_op none (.store 42 (.tmp 4) (.tmp 9)) ?_); refine wpl_stw 0 (plv ks) hm rfl rfl rfl 3 sz_pl rfl rfl (by intro v hv; simp [plv] at hv; rcases hv with rfl | rfl | rfl <;> rfl) ?_; clear hm; intro w3 hm))
      refine wp_ends0 ?_
      refine anyH_startB (T := fun W => Mem w [] W [(g4, plv ks, 42)]) (by kernel_rfl) hm ?_
      intro wc hbw hmw
      replace hm : Mem w [] wc [(g4, plv ks, 42)] := hmw
      clear hbw hmw
      refine anyH_take 0 (v := .bool true) rfl (by kernel_rfl) (by kernel_rfl) (by kernel_rfl) rfl (fun W _ => by go_simp) hm ?_
      go_simp
      refine anyH_take 1 (v := .bool false) rfl (by kernel_rfl) (by kernel_rfl) (by kernel_rfl) rfl (fun W _ => by go_simp) hm ?_
      go_simp
      refine anyH_take 2 (v := .bool false) rfl (by kernel_rfl) (by kernel_rfl) (by kernel_rfl) rfl (fun W _ => by go_simp) hm ?_
      go_simp
      refine anyH_takeG 3 (v := .agg (plv ks).toArray) rfl (by kernel_rfl) (by kernel_rfl) (by kernel_rfl) rfl (fun W hW => exec_ldsG 0 (plv ks) (Mem.get hW 0 rfl) rfl _ un_pl rfl 3 sz_pl (Nat.le_refl 3) rfl) hm ?_
      go_simp
      refine wpAnyH_all (rs := [4]) (by kernel_rfl) (by simp) ?_
      intro i hi
      simp only [List.mem_cons, List.not_mem_nil, or_false] at hi
      subst hi
      refine anyH_opW 4 rfl rfl ?_
      intro K hK
      go_wp2_with (go_at_call 28; refine (root_any _).mono ?_; rintro e w' ⟨he, hb⟩; subst he; replace hm := hm.call hb; clear hb)
      refine hK _ _ hm ?_
      clear hK K
      go_simp
      refine anyH_takeG 5 (v := .bool true) rfl (by kernel_rfl) (by kernel_rfl) (by kernel_rfl) rfl (fun W _ => exec_eqP (HK.out ()) PlOk.nil true (HEQ.out ()) rfl rfl) hm ?_
      go_simp
      refine anyH_take 6 (v := .bool true) rfl (by kernel_rfl) (by kernel_rfl) (by kernel_rfl) rfl (fun W _ => by go_simp) hm ?_
      go_simp
      refine wpAnyH_done (by kernel_rfl) ?_ _
      simp only [endsIn]
      go_wp2_with fail
      go_ret2
      exact ⟨by rw [(HP1.out ()).1, (HP1.out ()).2]; rfl, hm.below⟩
    · have HP1 : Hid (∀ _ : Unit, parOk (bs s) = true ∧ parOf (bs s) = jn 47 (ks.dropLast.map bs)) := fun _ => by
        have := parOk_yes (HRR.out ()) (by rw [HKS.out ()]; simpa using h0)
        rw [HKS.out (), ← List.map_dropLast] at this
        exact this
      have HEQ : Hid (∀ _ : Unit, false = decide (ks = [])) := fun _ => by simp [h0]
      have HTX : Hid (∀ W, Calls Tryd.prog 30 #[.agg (plv ks.dropLast).toArray] W fun e w' => e = .returned (.string (mkS (parOf (bs s)))) ∧ Below W.heap.size W w') := fun W => by rw [(HP1.out ()).2]; exact text_any ((HK.out ()).drop) W
      clear h0
      go_enter Tryd.func9, Tryd.ntmps9
      go_wp2_with (first
        | (go_at_call 27; refine (HPL.out _ (HM.out.below hm.below)).mono ?_; rintro e w' ⟨he, hb⟩; subst he; replace hm := hm.call hb; clear hb)
        | ((with_reducible refine at_op (some 4) (.alloc 42) ?_); refine wpl_alloc _ zero_pl hm ?_; clear hm; intro w2 g4 hm)
        | ((with_reducible refine at_op none (.store 42 (.tmp 4) (.tmp 9)) ?_); refine wpl_stw 0 (plv ks) hm rfl rfl rfl 3 sz_pl rfl rfl (by intro v hv; simp [plv] at hv; rcases hv with rfl | rfl | rfl <;> rfl) ?_; clear hm; intro w3 hm))
      refine wp_ends0 ?_
      refine anyH_startB (T := fun W => Mem w [] W [(g4, plv ks, 42)]) (by kernel_rfl) hm ?_
      intro wc hbw hmw
      replace hm : Mem w [] wc [(g4, plv ks, 42)] := hmw
      clear hbw hmw
      refine anyH_take 0 (v := .bool true) rfl (by kernel_rfl) (by kernel_rfl) (by kernel_rfl) rfl (fun W _ => by go_simp) hm ?_
      go_simp
      refine anyH_take 1 (v := .bool false) rfl (by kernel_rfl) (by kernel_rfl) (by kernel_rfl) rfl (fun W _ => by go_simp) hm ?_
      go_simp
      refine anyH_take 2 (v := .bool false) rfl (by kernel_rfl) (by kernel_rfl) (by kernel_rfl) rfl (fun W _ => by go_simp) hm ?_
      go_simp
      refine anyH_takeG 3 (v := .agg (plv ks).toArray) rfl (by kernel_rfl) (by kernel_rfl) (by kernel_rfl) rfl (fun W hW => exec_ldsG 0 (plv ks) (Mem.get hW 0 rfl) rfl _ un_pl rfl 3 sz_pl (Nat.le_refl 3) rfl) hm ?_
      go_simp
      refine wpAnyH_all (rs := [4]) (by kernel_rfl) (by simp) ?_
      intro i hi
      simp only [List.mem_cons, List.not_mem_nil, or_false] at hi
      subst hi
      refine anyH_opW 4 rfl rfl ?_
      intro K hK
      go_wp2_with (go_at_call 28; refine (root_any _).mono ?_; rintro e w' ⟨he, hb⟩; subst he; replace hm := hm.call hb; clear hb)
      refine hK _ _ hm ?_
      clear hK K
      go_simp
      refine anyH_takeG 5 (v := .bool false) rfl (by kernel_rfl) (by kernel_rfl) (by kernel_rfl) rfl (fun W _ => exec_eqP (HK.out ()) PlOk.nil false (HEQ.out ()) rfl rfl) hm ?_
      go_simp
      refine anyH_take 6 (v := .bool false) rfl (by kernel_rfl) (by kernel_rfl) (by kernel_rfl) rfl (fun W _ => by go_simp) hm ?_
      go_simp
      refine wpAnyH_done (by kernel_rfl) ?_ _
      simp only [endsIn]
      go_wp2_with (first
        | ((with_reducible refine at_op (some 18) (.load 42 (.tmp 4)) ?_); refine wpl_ldw 0 hm rfl rfl _ un_pl rfl 3 sz_pl (by rfl) ?_)
        | (go_at_call 29; refine (parent_any (HK.out ()) _).mono ?_; rintro e w' ⟨he, hb⟩; subst he; replace hm := hm.call hb; clear hb)
        | (go_at_call 30; refine (HTX.out _).mono ?_; rintro e w' ⟨he, hb⟩; subst he; replace hm := hm.call hb; clear hb))
      go_ret2
      exact ⟨by rw [(HP1.out ()).1]; rfl, hm.below⟩
def undOf (a b : List UInt8) : Bool := isP a && (isP b && (segsOf b).isPrefixOf (segsOf a))
set_option maxRecDepth 100000 in
theorem abv_iff {ka kb : List ByteArray} (ha : PlOk ka) (hb : PlOk kb) : (∃ v, abv ka 0 (.agg (plv kb).toArray) v) ↔ (kb.map bs).isPrefixOf (ka.map bs) = true := by
  rw [List.isPrefixOf_iff_prefix]
  constructor
  · rintro ⟨v, _, n, _, hn, he⟩
    rw [plvA_inj hb (take_ok ha n) he, List.map_take]
    exact List.take_prefix _ _
  · intro h
    have e := List.prefix_iff_eq_take.1 h
    have hl := h.length_le
    simp only [List.length_map] at e hl
    refine ⟨unitV, rfl, kb.length, by omega, hl, ?_⟩
    have e2 : kb = ka.take kb.length := by
      have := congrArg (List.map mkS) e
      rw [map_mkS_bs, ← List.map_take, map_mkS_bs] at this
      exact this
    rw [← e2]
set_option maxRecDepth 100000 in
theorem look_abv {w : World} {m q : Nat} {ka kb : List ByteArray} (ha : PlOk ka) (hb : PlOk kb) (h : KM Tryd.prog 42 w m q (abv ka 0)) (r : Bool) (hr : r = (kb.map bs).isPrefixOf (ka.map bs)) :
    (Instr.lookup 57 (.map (some m)) (.agg (plv kb).toArray) true).run Tryd.prog w = .ok (.tuple #[unitV, .bool r]) w := by
  obtain ⟨kl, hkl⟩ := pl_key hb
  have hi := abv_iff ha hb
  cases r with
  | true =>
    obtain ⟨v, hv⟩ := hi.2 hr.symm
    have hv2 := hv.1
    subst hv2
    exact h.look pl_law un_set (zero_unit w) hkl hv
  | false =>
    refine h.lookNo pl_law un_set (zero_unit w) hkl (fun v hv => ?_)
    rw [hi.1 ⟨v, hv⟩] at hr
    cases hr
set_option maxHeartbeats 4000000 in
set_option maxRecDepth 100000 in
theorem under_any (a b : ByteArray) (w : World) (ha : a.size ≤ 1000) (hb : b.size ≤ 1000) (hM : MaxL w) :
    Calls Tryd.prog 22 #[.string a, .string b] w fun e w' => e = .returned (.bool (undOf (bs a) (bs b))) ∧ Below w.heap.size w w' := by
  have hm := Mem.start w
  have HM : Hid (MaxL w) := hM
  clear hM
  obtain ⟨ka, hka⟩ : ∃ ks, ks = segsB a := ⟨_, rfl⟩
  obtain ⟨kb, hkb⟩ : ∃ ks, ks = segsB b := ⟨_, rfl⟩
  obtain ⟨ra, hra⟩ : ∃ r, r = isP (bs a) := ⟨_, rfl⟩
  obtain ⟨rb, hrb⟩ : ∃ r, r = isP (bs b) := ⟨_, rfl⟩
  obtain ⟨rr, hrr⟩ : ∃ r, r = (kb.map bs).isPrefixOf (ka.map bs) := ⟨_, rfl⟩
  have HKA : Hid (∀ _ : Unit, PlOk ka) := fun _ => by rw [hka]; exact segsB_ok a
  have HKB : Hid (∀ _ : Unit, PlOk kb) := fun _ => by rw [hkb]; exact segsB_ok b
  have HU : Hid (∀ _ : Unit, undOf (bs a) (bs b) = (ra && (rb && rr))) := fun _ => by rw [undOf, hra, hrb, hrr, hka, hkb, segsB_bs, segsB_bs]
  have HRR : Hid (∀ _ : Unit, rr = (kb.map bs).isPrefixOf (ka.map bs)) := fun _ => hrr
  have HPA : Hid (∀ W, MaxL W → Calls Tryd.prog 27 #[.string a] W fun e w' => e = .returned (.tuple #[.agg (plv ka).toArray, .bool ra]) ∧ Below W.heap.size W w') := fun W hW => by rw [hka, hra]; exact placeOf_any a W ha hW
  have HPB : Hid (∀ W, MaxL W → Calls Tryd.prog 27 #[.string b] W fun e w' => e = .returned (.tuple #[.agg (plv kb).toArray, .bool rb]) ∧ Below W.heap.size W w') := fun W hW => by rw [hkb, hrb]; exact placeOf_any b W hb hW
  clear hka hkb hra hrb hrr ha hb
  have tk1 : Nat := 0
  cases ra with
  | false =>
    go_enter Tryd.func22, Tryd.ntmps22
    go_wp2_with (first
      | (go_at_call 27; clear tk1; refine (HPA.out _ (HM.out.below hm.below)).mono ?_; rintro e w' ⟨he, hb⟩; subst he; replace hm := hm.call hb; clear hb)
      | (go_at_call 27; refine (HPB.out _ (HM.out.below hm.below)).mono ?_; rintro e w' ⟨he, hb⟩; subst he; replace hm := hm.call hb; clear hb)
      | ((with_reducible refine at_op (some 5) (.alloc 42) ?_); refine wpl_alloc _ zero_pl hm ?_; clear hm; intro w2 g5 hm)
      | ((with_reducible refine at_op none (.store 42 (.tmp 5) (.tmp 12)) ?_); refine wpl_stw 0 (plv ka) hm rfl rfl rfl 3 sz_pl rfl rfl (by intro v hv; simp [plv] at hv; rcases hv with rfl | rfl | rfl <;> rfl) ?_; clear hm; intro w3 hm)
      | ((with_reducible refine at_op (some 7) (.alloc 42) ?_); refine wpl_alloc _ zero_pl hm ?_; clear hm; intro w4 g7 hm)
      | ((with_reducible refine at_op none (.store 42 (.tmp 7) (.tmp 17)) ?_); refine wpl_stw 0 (plv kb) hm rfl rfl rfl 3 sz_pl rfl rfl (by intro v hv; simp [plv] at hv; rcases hv with rfl | rfl | rfl <;> rfl) ?_; clear hm; intro w5 hm))
    go_ret
    exact ⟨by rw [HU.out ()]; rfl, hm.below⟩
  | true =>
    cases rb with
    | false =>
      go_enter Tryd.func22, Tryd.ntmps22
      go_wp2_with (first
        | (go_at_call 27; clear tk1; refine (HPA.out _ (HM.out.below hm.below)).mono ?_; rintro e w' ⟨he, hb⟩; subst he; replace hm := hm.call hb; clear hb)
        | (go_at_call 27; refine (HPB.out _ (HM.out.below hm.below)).mono ?_; rintro e w' ⟨he, hb⟩; subst he; replace hm := hm.call hb; clear hb)
        | ((with_reducible refine at_op (some 5) (.alloc 42) ?_); refine wpl_alloc _ zero_pl hm ?_; clear hm; intro w2 g5 hm)
        | ((with_reducible refine at_op none (.store 42 (.tmp 5) (.tmp 12)) ?_); refine wpl_stw 0 (plv ka) hm rfl rfl rfl 3 sz_pl rfl rfl (by intro v hv; simp [plv] at hv; rcases hv with rfl | rfl | rfl <;> rfl) ?_; clear hm; intro w3 hm)
        | ((with_reducible refine at_op (some 7) (.alloc 42) ?_); refine wpl_alloc _ zero_pl hm ?_; clear hm; intro w4 g7 hm)
        | ((with_reducible refine at_op none (.store 42 (.tmp 7) (.tmp 17)) ?_); refine wpl_stw 0 (plv kb) hm rfl rfl rfl 3 sz_pl rfl rfl (by intro v hv; simp [plv] at hv; rcases hv with rfl | rfl | rfl <;> rfl) ?_; clear hm; intro w5 hm))
      go_ret
      exact ⟨by rw [HU.out ()]; rfl, hm.below⟩
    | true =>
      go_enter Tryd.func22, Tryd.ntmps22
      go_wp2_with (first
        | (go_at_call 27; clear tk1; refine (HPA.out _ (HM.out.below hm.below)).mono ?_; rintro e w' ⟨he, hb⟩; subst he; replace hm := hm.call hb; clear hb)
        | (go_at_call 27; refine (HPB.out _ (HM.out.below hm.below)).mono ?_; rintro e w' ⟨he, hb⟩; subst he; replace hm := hm.call hb; clear hb)
        | ((with_reducible refine at_op (some 5) (.alloc 42) ?_); refine wpl_alloc _ zero_pl hm ?_; clear hm; intro w2 g5 hm)
        | ((with_reducible refine at_op none (.store 42 (.tmp 5) (.tmp 12)) ?_); refine wpl_stw 0 (plv ka) hm rfl rfl rfl 3 sz_pl rfl rfl (by intro v hv; simp [plv] at hv; rcases hv with rfl | rfl | rfl <;> rfl) ?_; clear hm; intro w3 hm)
        | ((with_reducible refine at_op (some 7) (.alloc 42) ?_); refine wpl_alloc _ zero_pl hm ?_; clear hm; intro w4 g7 hm)
        | ((with_reducible refine at_op none (.store 42 (.tmp 7) (.tmp 17)) ?_); refine wpl_stw 0 (plv kb) hm rfl rfl rfl 3 sz_pl rfl rfl (by intro v hv; simp [plv] at hv; rcases hv with rfl | rfl | rfl <;> rfl) ?_; clear hm; intro w5 hm))
      refine wp_ends0 ?_
      refine anyH_startB (T := fun W => Mem w [] W [(g7, plv kb, 42), (g5, plv ka, 42)]) (by kernel_rfl) hm ?_
      intro wc hbw hmw
      replace hm : Mem w [] wc [(g7, plv kb, 42), (g5, plv ka, 42)] := hmw
      clear hbw hmw
      refine anyH_take 0 (v := .agg (plv ka).toArray) rfl (by kernel_rfl) (by kernel_rfl) (by kernel_rfl) rfl (fun W hW => exec_ldsG 0 (plv ka) (Mem.get hW 1 rfl) rfl _ un_pl rfl 3 sz_pl (Nat.le_refl 3) rfl) hm ?_
      go_simp
      refine anyH_take 2 (v := .agg (plv kb).toArray) rfl (by kernel_rfl) (by kernel_rfl) (by kernel_rfl) rfl (fun W hW => exec_ldsG 0 (plv kb) (Mem.get hW 0 rfl) rfl _ un_pl rfl 3 sz_pl (Nat.le_refl 3) rfl) hm ?_
      go_simp
      refine wpAnyH_all (rs := [1]) (by kernel_rfl) (by simp) ?_
      intro i hi
      simp only [List.mem_cons, List.not_mem_nil, or_false] at hi
      subst hi
      refine anyH_opW 1 rfl rfl ?_
      intro K hK
      go_wp2_with (go_at_call 38; refine (above_any (HKA.out ()) _).mono ?_; rintro e w' ⟨m, he, hkm, hb⟩; subst he; have HKM : Hid (∃ q, KM Tryd.prog 42 w' m q (abv ka 0)) := hkm; clear hkm; replace hm := hm.call hb; clear hb)
      refine hK _ _ hm ?_
      clear hK K
      go_simp
      refine anyH_more (fun W => Mem w [] W [(g7, plv kb, 42), (g5, plv ka, 42)] ∧ ∃ q, KM Tryd.prog 42 W m q (abv ka 0)) (fun _ h => h.1) _ _ _ _ ?_
      replace hm : Mem w [] _ [(g7, plv kb, 42), (g5, plv ka, 42)] ∧ ∃ q, KM Tryd.prog 42 _ m q (abv ka 0) := ⟨hm, HKM.out⟩
      refine anyH_take 3 (v := .tuple #[unitV, .bool rr]) rfl (by kernel_rfl) (by kernel_rfl) (by kernel_rfl) rfl (fun W hW => by obtain ⟨q, hkm⟩ := hW.2; exact exec_look (look_abv (HKA.out ()) (HKB.out ()) hkm rr (HRR.out ())) rfl rfl) hm ?_
      go_simp
      refine anyH_take 4 (v := .tuple #[unitV, .bool rr]) rfl (by kernel_rfl) (by kernel_rfl) (by kernel_rfl) rfl (fun W _ => by go_simp) hm ?_
      go_simp
      refine anyH_take 5 (v := unitV) rfl (by kernel_rfl) (by kernel_rfl) (by kernel_rfl) rfl (fun W _ => by go_simp) hm ?_
      go_simp
      refine anyH_take 6 (v := .bool rr) rfl (by kernel_rfl) (by kernel_rfl) (by kernel_rfl) rfl (fun W _ => by go_simp) hm ?_
      go_simp
      refine anyH_take 7 (v := .bool rr) rfl (by kernel_rfl) (by kernel_rfl) (by kernel_rfl) rfl (fun W _ => by go_simp) hm ?_
      go_simp
      refine wpAnyH_done (by kernel_rfl) ?_ _
      simp only [endsIn]
      replace hm := hm.1
      go_wp2_with fail
      go_ret
      exact ⟨by rw [HU.out ()]; rfl, hm.below⟩
def decErr (l : List UInt8) : Int := if decOk l then 0 else 110
set_option maxHeartbeats 4000000 in
set_option maxRecDepth 100000 in
theorem decode_any (s : ByteArray) (w : World) (hs : s.size ≤ 1000) (hM : MaxL w) :
    Calls Tryd.prog 11 #[.string s] w fun e w' => e = .returned (.tuple #[.string (mkS (decOf (bs s))), .int .i64 (decErr (bs s))]) ∧ Below w.heap.size w w' := by
  have hm := Mem.start w
  have HM : Hid (MaxL w) := hM
  clear hM
  by_cases h0 : s = ⟨#[]⟩
  · subst h0
    go_enter Tryd.func11, Tryd.ntmps11
    go_wp2_with (first
      | ((with_reducible refine at_op (some 9) (.binOp .eql 9 (.tmp 8) (.const (.string { data := #[] })) 9) ?_); go_must (refine wpl_execG (.bool true) rfl (exec_eqsB ⟨#[]⟩ ⟨#[]⟩ true rfl rfl (eqs_yes _)) ?_)))
    go_ret2
    exact ⟨rfl, hm.below⟩
  · have HE : Hid (∀ _ : Unit, ¬ s = ⟨#[]⟩) := fun _ => h0
    obtain ⟨r, hr⟩ : ∃ r, r = last0 (bs s) := ⟨_, rfl⟩
    obtain ⟨z, hz⟩ : ∃ z, z = mkS (if last0 (bs s) then (bs s).dropLast else bs s) := ⟨_, rfl⟩
    have hz1 : z.size ≤ 1000 := by
      rw [hz, mkS_size]
      split
      · simp [bs_length]; omega
      · rw [bs_length]; exact hs
    obtain ⟨X, hX⟩ : ∃ X, X = Lib.splitB (mkS [0]) 0 (min 4 (z.size + 1) - 1) z := ⟨_, rfl⟩
    obtain ⟨r2, hr2⟩ : ∃ r2, r2 = okSegs (X.map bs) := ⟨_, rfl⟩
    have hne : (bs s).isEmpty = false := by
      cases h : bs s with
      | nil => exact absurd (show s = ⟨#[]⟩ by rw [← mkS_bs s, h]; rfl) h0
      | cons _ _ => rfl
    have HD : Hid (∀ _ : Unit, (decOk (bs s) = (r && r2) ∧ ((r && r2) = true → mkS (decOf (bs s)) = mkS (jn 47 ((plOf X).map bs))) ∧ ((r && r2) = false → decOf (bs s) = []))) := fun _ => by
      have hd : decOk (bs s) = (r && r2) := by
        cases r with
        | false => 
          have : decide ((bs s).getLast? = some 0) = false := hr.symm
          simp [decOk, hne, this]
        | true =>
          have h1 : decide ((bs s).getLast? = some 0) = true := hr.symm
          rw [← hr] at hz
          have hz2 : bs z = (bs s).dropLast := by rw [hz, bs_mkS]; rfl
          have hp := (parts_ok 0 z).1
          rw [← hX, hz2] at hp
          rw [decOk, hne, h1, Bool.false_or, Bool.true_and, Bool.true_and, hr2, hp]
      refine ⟨hd, fun h => ?_, fun h => ?_⟩
      · rw [h] at hd
        simp only [Bool.and_eq_true] at h
        rw [h.1] at hr
        rw [← hr] at hz
        have hz2 : bs z = (bs s).dropLast := by rw [hz, bs_mkS]; rfl
        have hp := parts_ok 0 z
        rw [← hX, hz2] at hp
        rw [decOf, hne, hd, plOf, ← hr2, h.2]
        rw [h.2] at hr2
        rw [← hr2] at hp
        rw [← hp.2 hp.1.symm]
        rfl
      · rw [h] at hd
        rw [decOf, hd]; simp
    have HCU : Hid (∀ W, Calls Tryd.prog 31 #[.string s, .string ⟨#[0]⟩] W fun e w' => e = .returned (.tuple #[.string z, .bool r]) ∧ w' = W) := fun W => by rw [hz, hr]; exact cuts_any s W hs
    have HPA : Hid (∀ W, MaxL W → Calls Tryd.prog 33 #[.string z, .string ⟨#[0]⟩] W fun e w' => ∃ v, e = .returned v ∧ SlS w' v X ∧ Below W.heap.size W w') := fun W hW => by rw [hX]; exact parts_any 0 z W hz1 hW
    have HPL : Hid (∀ v W, SlS W v X → Calls Tryd.prog 32 #[v] W fun e w' => e = .returned (.tuple #[.agg (plv (plOf X)).toArray, .bool r2]) ∧ Below W.heap.size W w') := fun v W hW => by rw [hr2]; exact placeAt_any X v W hW
    clear h0 hr hz hz1 hX hr2 hne hs
    cases r with
    | false =>
      go_enter Tryd.func11, Tryd.ntmps11
      go_wp2_with (first
        | ((with_reducible refine at_op (some 9) (.binOp .eql 9 (.tmp 8) (.const (.string { data := #[] })) 9) ?_); go_must (refine wpl_execG (.bool false) rfl (exec_eqsB s ⟨#[]⟩ false rfl rfl (eqs_no (HE.out ()))) ?_))
        | (go_at_call 31; refine (HCU.out _).mono ?_; rintro e w' ⟨he, hw⟩; subst he; subst hw)
        | (go_at_call 33; refine (HPA.out _ (HM.out.below hm.below)).mono ?_; rintro e w' ⟨v, he, hv, hb⟩; subst he; have HV : Hid (SlS w' v X) := hv; clear hv; replace hm := hm.call hb; clear hb)
        | (go_at_call 32; refine (HPL.out _ _ HV.out).mono ?_; rintro e w' ⟨he, hb⟩; subst he; replace hm := hm.call hb; clear hb)
        | ((with_reducible refine at_op (some 6) (.alloc 42) ?_); refine wpl_alloc _ zero_pl hm ?_; clear hm; intro w2 g6 hm)
        | ((with_reducible refine at_op none (.store 42 (.tmp 6) (.tmp 19)) ?_); refine wpl_stw 0 (plv (plOf X)) hm rfl rfl rfl 3 sz_pl rfl rfl (by intro v hv; simp [plv] at hv; rcases hv with rfl | rfl | rfl <;> rfl) ?_; clear hm; intro w3 hm))
      go_ret2
      exact ⟨by rw [decErr, (HD.out ()).1, (HD.out ()).2.2 rfl]; rfl, hm.below⟩
    | true =>
      cases r2 with
      | false =>
        go_enter Tryd.func11, Tryd.ntmps11
        go_wp2_with (first
          | ((with_reducible refine at_op (some 9) (.binOp .eql 9 (.tmp 8) (.const (.string { data := #[] })) 9) ?_); go_must (refine wpl_execG (.bool false) rfl (exec_eqsB s ⟨#[]⟩ false rfl rfl (eqs_no (HE.out ()))) ?_))
          | (go_at_call 31; refine (HCU.out _).mono ?_; rintro e w' ⟨he, hw⟩; subst he; subst hw)
          | (go_at_call 33; refine (HPA.out _ (HM.out.below hm.below)).mono ?_; rintro e w' ⟨v, he, hv, hb⟩; subst he; have HV : Hid (SlS w' v X) := hv; clear hv; replace hm := hm.call hb; clear hb)
          | (go_at_call 32; refine (HPL.out _ _ HV.out).mono ?_; rintro e w' ⟨he, hb⟩; subst he; replace hm := hm.call hb; clear hb)
          | ((with_reducible refine at_op (some 6) (.alloc 42) ?_); refine wpl_alloc _ zero_pl hm ?_; clear hm; intro w2 g6 hm)
          | ((with_reducible refine at_op none (.store 42 (.tmp 6) (.tmp 19)) ?_); refine wpl_stw 0 (plv (plOf X)) hm rfl rfl rfl 3 sz_pl rfl rfl (by intro v hv; simp [plv] at hv; rcases hv with rfl | rfl | rfl <;> rfl) ?_; clear hm; intro w3 hm))
        go_ret2
        exact ⟨by rw [decErr, (HD.out ()).1, (HD.out ()).2.2 rfl]; rfl, hm.below⟩
      | true =>
        go_enter Tryd.func11, Tryd.ntmps11
        go_wp2_with (first
          | ((with_reducible refine at_op (some 9) (.binOp .eql 9 (.tmp 8) (.const (.string { data := #[] })) 9) ?_); go_must (refine wpl_execG (.bool false) rfl (exec_eqsB s ⟨#[]⟩ false rfl rfl (eqs_no (HE.out ()))) ?_))
          | (go_at_call 31; refine (HCU.out _).mono ?_; rintro e w' ⟨he, hw⟩; subst he; subst hw)
          | (go_at_call 33; refine (HPA.out _ (HM.out.below hm.below)).mono ?_; rintro e w' ⟨v, he, hv, hb⟩; subst he; have HV : Hid (SlS w' v X) := hv; clear hv; replace hm := hm.call hb; clear hb)
          | (go_at_call 32; refine (HPL.out _ _ HV.out).mono ?_; rintro e w' ⟨he, hb⟩; subst he; replace hm := hm.call hb; clear hb)
          | ((with_reducible refine at_op (some 6) (.alloc 42) ?_); refine wpl_alloc _ zero_pl hm ?_; clear hm; intro w2 g6 hm)
          | ((with_reducible refine at_op none (.store 42 (.tmp 6) (.tmp 19)) ?_); refine wpl_stw 0 (plv (plOf X)) hm rfl rfl rfl 3 sz_pl rfl rfl (by intro v hv; simp [plv] at hv; rcases hv with rfl | rfl | rfl <;> rfl) ?_; clear hm; intro w3 hm)
          | ((with_reducible refine at_op (some 27) (.load 42 (.tmp 6)) ?_); refine wpl_ldw 0 hm rfl rfl _ un_pl rfl 3 sz_pl (by rfl) ?_)
          | (go_at_call 30; refine (text_any (plOf_ok X) _).mono ?_; rintro e w' ⟨he, hb⟩; subst he; replace hm := hm.call hb; clear hb))
        go_ret2
        exact ⟨by rw [decErr, (HD.out ()).1, (HD.out ()).2.1 rfl]; rfl, hm.below⟩
end Go.Proofs.YtikmmheknfljkaaDoor
