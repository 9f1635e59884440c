/- The walk of the law SealTags. -/
import Derived.Test.YtbfccepddfinoaaDoorSealKnown
namespace Go.Proofs.YtbfccepddfinoaaDoor
open Go Go.RowKit
set_option maxRecDepth 100000 in
theorem bytes_set {X : List Int} (h : Bytes X) (i : Nat) {x : Int} (hx : 0 ≤ x ∧ x < 256) : Bytes (X.set i x) := by
  intro y hy
  rcases List.mem_or_eq_of_mem_set hy with h1 | h1
  · exact h y h1
  · rw [h1]; exact hx
set_option maxRecDepth 100000 in
theorem old_tail {w : World} {g c : Nat} {X : List Int} {r : List Value} {t : TypeId} (hr : Row w g (u8s X ++ r) t) (m k : Nat) (hX : X.length = m + k) (hc : k ≤ c) : SlOld w (.slice (some ⟨g, m, none⟩) k c) (X.drop m) := by
  have hl : (X.drop m).length = k := by rw [List.length_drop]; omega
  refine ⟨_, c, by rw [hl], by rw [hl]; exact hc, fun _ => ⟨g, m, rfl, ?_⟩⟩
  have := (seg_head hr).drop m
  rw [Nat.zero_add] at this
  exact this
set_option maxRecDepth 100000 in
theorem old_head {w : World} {g cap n : Nat} {X : List Int} {r : List Value} {t : TypeId} (hr : Row w g (u8s X ++ r) t) (hX : X.length = n) (hc : n ≤ cap) : SlOld w (.slice (some ⟨g, 0, none⟩) n cap) X := by
  subst hX
  exact ⟨_, cap, rfl, hc, fun _ => ⟨g, 0, rfl, seg_head hr⟩⟩
set_option maxRecDepth 100000 in
theorem old_segT {w : World} {b o cap : Nat} {X : List Int} (h : Seg w b o X) (n : Nat) (hX : n ≤ X.length) (hc : n ≤ cap) : SlOld w (.slice (some ⟨b, o, none⟩) n cap) (X.take n) := by
  have hl : (X.take n).length = n := by rw [List.length_take]; omega
  exact ⟨_, cap, by rw [hl], by rw [hl]; exact hc, fun _ => ⟨b, o, rfl, h.take n⟩⟩
set_option maxRecDepth 100000 in
theorem old_segD {w : World} {b o c : Nat} {X : List Int} (h : Seg w b o X) (n k : Nat) (hX : X.length = n + k) (hc : k ≤ c) : SlOld w (.slice (some ⟨b, o + n, none⟩) k c) (X.drop n) := by
  have hl : (X.drop n).length = k := by rw [List.length_drop]; omega
  exact ⟨_, c, by rw [hl], by rw [hl]; exact hc, fun _ => ⟨b, o + n, rfl, h.drop n⟩⟩
set_option maxRecDepth 100000 in
theorem code_turned (ks ns ds ms : List Int) (j m : Nat) (x b : Int) (hj : j < 16) (hml : ms.length = m) (hmb : Bytes ms) (hx : x = (sealOf ks ns ds ms).getD (m + j) 0) (hb : 0 ≤ b ∧ b ≤ 255) : (openCode ks ns ds ((sealOf ks ns ds ms).set (m + j) (bits .xor .u8 x b)) == 0) = (b == 0) := by
  have hxb : 0 ≤ x ∧ x < 256 := by rw [hx]; exact (sealOf_bytes ks ns ds hmb).get _
  have hf := fits_turned ks ns ds ms j (bits .xor .u8 x b) hj
  rw [hml, ← hx] at hf
  have hl : ((sealOf ks ns ds ms).set (m + j) (bits .xor .u8 x b)).length = m + 16 := by rw [List.length_set, sealOf_length, hml]
  unfold openCode
  rw [if_neg (by rw [hl]; omega), hf]
  by_cases hb0 : b = 0
  · subst hb0
    have e : bits .xor .u8 x 0 = x := (xor_same hxb (by omega)).2 rfl
    rw [e]
    simp
  · have e : ¬ x = bits .xor .u8 x b := fun e => hb0 ((xor_same hxb (by omega)).1 e.symm)
    rw [decide_eq_false e]
    simp [hb0]
set_option maxHeartbeats 4000000 in
set_option maxRecDepth 100000 in
theorem sealTags_short (ks ns ds ms : List Int) (rs : List Int) (va vp : Value) (vr : Value) (a b : Int) (hkl : ks.length = 32) (hnl : ns.length = 12) (hkb : Bytes ks) (hnb : Bytes ns) (hdb : Bytes ds) (hmb : Bytes ms) (hrb : Bytes rs) (ha : 0 ≤ a ∧ a ≤ 255) (hb0 : 0 ≤ b ∧ b ≤ 255) (hd100 : ds.length ≤ 100) (hm200 : ms.length ≤ 200) (hr200 : rs.length ≤ 200) (h16 : rs.length < 16)  (w : World) (ht : Tab w) (hq : QTab w) (hva : SlOld w va ds) (hvp : SlOld w vp ms) (hvr : SlOld w vr rs) :
    Calls Tryd.prog 5 #[.agg (u8s ks).toArray, .agg (u8s ns).toArray, va, vp, .int .u8 a, .int .u8 b, vr] w fun e w' => e = .returned (.bool true) ∧ Below w.heap.size w w' := by
  have hm := Mem.start w
  have HT : Hid _ := ht
  have HQ : Hid _ := hq
  have HKL : Hid _ := hkl
  have HNL : Hid _ := hnl
  have HKB : Hid _ := hkb
  have HNB : Hid _ := hnb
  have HDB : Hid _ := hdb
  have HMB : Hid _ := hmb
  have HKU : Hid ((u8s ks).length = 32) := by show _ = _; rw [u8s_length]; exact hkl
  have HNU : Hid ((u8s ns).length = 12) := by show _ = _; rw [u8s_length]; exact hnl
  obtain ⟨m, hml⟩ : ∃ m, ms.length = m := ⟨_, rfl⟩
  obtain ⟨dl, hdl⟩ : ∃ dl, ds.length = dl := ⟨_, rfl⟩
  obtain ⟨pa, ca, hva1, _⟩ := hva.len
  obtain ⟨pp, cp, hvp1, _⟩ := hvp.len
  rw [hdl] at hva1
  rw [hml] at hvp1
  subst hva1 hvp1
  have HA : Hid (SlOld w (.slice pa dl ca) ds) := hva
  have HP : Hid (SlOld w (.slice pp m cp) ms) := hvp
  have HML : Hid (ms.length = m) := hml
  have HDL : Hid (ds.length = dl) := hdl
  have HRB : Hid (Bytes rs) := hrb
  obtain ⟨rl, hrl⟩ : ∃ rl, rs.length = rl := ⟨_, rfl⟩
  obtain ⟨pr, cr, hvr1, _⟩ := hvr.len
  rw [hrl] at hvr1
  subst hvr1
  have HR : Hid (SlOld w (.slice pr rl cr) rs) := hvr
  have HRS : Hid (rs.length < 16) := h16
  have hri : (rl : Int) < 16 := by omega
  have hr2 : ¬ (200 : Int) < (rl : Int) := by omega
  have h0i : ¬ (100 : Int) < (dl : Int) := by omega
  have h1i : ¬ (200 : Int) < (m : Int) := by omega
  obtain ⟨X, hX⟩ : ∃ X, X = sealOf ks ns ds ms := ⟨_, rfl⟩
  have HXX : Hid (∀ _ : Unit, sealOf ks ns ds ms = X) := fun _ => hX.symm
  have hxl : X.length = m + 16 := by rw [hX, sealOf_length, hml]
  have HXL : Hid (X.length = m + 16) := hxl
  have HXU : Hid ((u8s X).length = m + 16) := by show _ = _; rw [u8s_length]; exact hxl
  have HXB : Hid (Bytes X) := by rw [hX]; exact sealOf_bytes _ _ _ hmb
  have hxt : X.take m = encOf ks ns ms := by have h := sealOf_take ks ns ds ms; rw [hml, ← hX] at h; exact h
  have hxd : X.drop m = tagOf ks ns ds (encOf ks ns ms) := by have h := sealOf_drop ks ns ds ms; rw [hml, ← hX] at h; exact h
  obtain ⟨j, hj, hja⟩ : ∃ j : Nat, j < 16 ∧ a % 16 = (j : Int) := ⟨(a % 16).toNat, by omega, by omega⟩
  have hat : a.tmod 16 = (j : Int) := by rw [Int.tmod_eq_emod_of_nonneg ha.1]; exact hja
  obtain ⟨x, hx⟩ : ∃ x, x = X.getD (m + j) 0 := ⟨_, rfl⟩
  have HVX : Hid (∀ l : List Value, (u8s X ++ l)[m + j]? = some (.int .u8 x)) := fun l => by rw [List.getElem?_append_left (by rw [u8s_length]; omega), u8s_get _ _ (by omega), hx]
  have hxb : 0 ≤ x ∧ x < 256 := by rw [hx]; exact HXB.out.get _
  obtain ⟨y, hy⟩ : ∃ y, y = bits .xor .u8 x b := ⟨_, rfl⟩
  have HXY : Hid (∀ _ : Unit, bits .xor .u8 x b = y) := fun _ => hy.symm
  have hyb : 0 ≤ y ∧ y < 256 := by rw [hy]; exact byte_xor hxb (by omega)
  obtain ⟨X2, hX2⟩ : ∃ X2, X2 = X.set (m + j) y := ⟨_, rfl⟩
  have HST : Hid (∀ l : List Value, (u8s X ++ l).set (m + j) (.int .u8 y) = u8s X2 ++ l) := fun l => by rw [List.set_append_left _ _ (by rw [u8s_length]; omega), u8s_set, hX2]
  have HX2L : Hid (X2.length = m + 16) := by show _ = _; rw [hX2, List.length_set, hxl]
  have HX2B : Hid (Bytes X2) := by rw [hX2]; exact bytes_set HXB.out _ hyb
  obtain ⟨c1, hc1⟩ : ∃ c1, c1 = openCode ks ns ds X2 := ⟨_, rfl⟩
  have HC1 : Hid (∀ _ : Unit, openCode ks ns ds X2 = c1) := fun _ => hc1.symm
  have hcb : (c1 == 0) = (b == 0) := by
    rw [hc1, hX2, hy, hX]
    exact code_turned ks ns ds ms j m x b hj hml hmb (by rw [hx, hX]) hb0
  obtain ⟨ha0, ha1⟩ := ha
  obtain ⟨hb1, hb2⟩ := hb0
  clear ht hq hkl hnl hkb hnb hdb hmb hva hvp hX hxl hxt hxd hja hx hxb hy hyb hX2 hc1 hrb hd100 hm200 hr200 hvr hrl h16 hml hdl
  go_enter Tryd.func5, Tryd.ntmps5
  go_wp2_with (first
    | ((with_reducible refine at_op (some 7) (.box 23 (.tmp 0)) ?_); refine wpl_box (u8s ks) rfl hm ?_; clear hm; intro w1 g7 hm)
    | ((with_reducible refine at_op (some 8) (.box 30 (.tmp 1)) ?_); refine wpl_box (u8s ns) rfl hm ?_; clear hm; intro w2 g8 hm)
    | (go_at_call 9; refine (known5_any _ (Tab.mem HT.out hm (by simp)) (QTab.mem HQ.out hm (by simp))).mono ?_; rintro e wk ⟨rfl, hb⟩; replace hm := hm.call hb; clear hb)
    | ((with_reducible refine at_op (some 36) (.load 23 (.tmp 7)) ?_); refine wpl_ldw 1 hm rfl rfl _ un_key rfl 32 sz_key (HKU.out) ?_)
    | ((with_reducible refine at_op (some 37) (.load 30 (.tmp 8)) ?_); refine wpl_ldw 0 hm rfl rfl _ un_nce rfl 12 sz_nce (HNU.out) ?_)
    | (go_at_call 18; refine (seal_any ks ns ds ms _ _ HKL.out HNL.out HKB.out HNB.out HDB.out HMB.out (by rw [HDL.out]; omega) (by rw [HML.out]; omega) _ (Tab.mem HT.out hm (by simp)) (QTab.mem HQ.out hm (by simp)) (SlOld.mem HA.out hm) (SlOld.mem HP.out hm)).mono ?_; rintro e w3 ⟨gb, cap, l, he, hcap, hge, hr, hb⟩; rw [HML.out] at he hcap; subst he; rw [HXX.out ()] at hr; replace hm := hm.callNew hb hr hge; clear hb hr hge)
    | ((with_reducible refine at_op (some 49) (.load 5 (.tmp 48)) ?_); refine wpl_ldc 0 (m + j) (.int .u8 x) hm rfl rfl ag_u8 (HVX.out _) ?_)
    | ((with_reducible refine at_op none (.store 5 (.tmp 52) (.tmp 51)) ?_); go_must (refine wpl_stc 0 (m + j) (.int .u8 y) hm rfl rfl (by rw [← HXY.out ()]; rfl) sz_u8 (by rw [List.length_append, HXU.out]; omega) rfl rfl ?_); clear hm; intro w4 hm; replace hm : Mem w [] w4 [(gb, u8s X2 ++ l, 5), (g8, u8s ns, 30), (g7, u8s ks, 23)] := (by rw [HST.out] at hm; exact hm))
    | ((with_reducible refine at_op (some 54) (.load 23 (.tmp 7)) ?_); refine wpl_ldw 2 hm rfl rfl _ un_key rfl 32 sz_key (HKU.out) ?_)
    | ((with_reducible refine at_op (some 55) (.load 30 (.tmp 8)) ?_); refine wpl_ldw 1 hm rfl rfl _ un_nce rfl 12 sz_nce (HNU.out) ?_))
  refine (open_any ks ns ds X2 _ _ HKL.out HNL.out HKB.out HNB.out HDB.out HX2B.out (by rw [HDL.out]; omega) (by rw [HX2L.out]; omega) _ (Tab.mem HT.out hm (by simp)) (QTab.mem HQ.out hm (by simp)) (SlOld.mem HA.out hm) (old_head (hm.get 0 rfl) HX2L.out hcap)).mono ?_
  rintro e w5 ⟨v1, he, _, hb⟩
  rw [HC1.out ()] at he
  subst he
  replace hm := hm.call hb
  clear hb
  go_wp2_with (first
    | ((with_reducible refine at_op (some 62) (.load 23 (.tmp 7)) ?_); refine wpl_ldw 2 hm rfl rfl _ un_key rfl 32 sz_key (HKU.out) ?_)
    | ((with_reducible refine at_op (some 63) (.load 30 (.tmp 8)) ?_); refine wpl_ldw 1 hm rfl rfl _ un_nce rfl 12 sz_nce (HNU.out) ?_))
  refine (open_short ks ns rs _ _ HRS.out _ (SlOld.mem HR.out hm)).mono ?_
  rintro e w6 ⟨he, hb⟩
  subst he
  replace hm := hm.call hb
  clear hb
  go_wp2_with fail
  go_ret
  exact ⟨rfl, hm.below⟩
set_option maxHeartbeats 4000000 in
set_option maxRecDepth 100000 in
theorem sealTags_bad (ks ns ds ms : List Int) (rs : List Int) (va vp : Value) (b6 o6 c6 n : Nat) (a b : Int) (hkl : ks.length = 32) (hnl : ns.length = 12) (hkb : Bytes ks) (hnb : Bytes ns) (hdb : Bytes ds) (hmb : Bytes ms) (hrb : Bytes rs) (ha : 0 ≤ a ∧ a ≤ 255) (hb0 : 0 ≤ b ∧ b ≤ 255) (hd100 : ds.length ≤ 100) (hm200 : ms.length ≤ 200) (hr200 : rs.length ≤ 200) (hrl : rs.length = n + 16) (hc6 : n + 16 ≤ c6) (hf : rs.drop n ≠ tagOf ks ns ds (rs.take n)) (w : World) (ht : Tab w) (hq : QTab w) (hva : SlOld w va ds) (hvp : SlOld w vp ms) (hsr : Seg w b6 o6 rs) :
    Calls Tryd.prog 5 #[.agg (u8s ks).toArray, .agg (u8s ns).toArray, va, vp, .int .u8 a, .int .u8 b, .slice (some ⟨b6, o6, none⟩) (n + 16) c6] w fun e w' => e = .returned (.bool true) ∧ Below w.heap.size w w' := by
  have hm := Mem.start w
  have HT : Hid _ := ht
  have HQ : Hid _ := hq
  have HKL : Hid _ := hkl
  have HNL : Hid _ := hnl
  have HKB : Hid _ := hkb
  have HNB : Hid _ := hnb
  have HDB : Hid _ := hdb
  have HMB : Hid _ := hmb
  have HKU : Hid ((u8s ks).length = 32) := by show _ = _; rw [u8s_length]; exact hkl
  have HNU : Hid ((u8s ns).length = 12) := by show _ = _; rw [u8s_length]; exact hnl
  obtain ⟨m, hml⟩ : ∃ m, ms.length = m := ⟨_, rfl⟩
  obtain ⟨dl, hdl⟩ : ∃ dl, ds.length = dl := ⟨_, rfl⟩
  obtain ⟨pa, ca, hva1, _⟩ := hva.len
  obtain ⟨pp, cp, hvp1, _⟩ := hvp.len
  rw [hdl] at hva1
  rw [hml] at hvp1
  subst hva1 hvp1
  have HA : Hid (SlOld w (.slice pa dl ca) ds) := hva
  have HP : Hid (SlOld w (.slice pp m cp) ms) := hvp
  have HML : Hid (ms.length = m) := hml
  have HDL : Hid (ds.length = dl) := hdl
  have HRB : Hid (Bytes rs) := hrb
  have HSG : Hid (Seg w b6 o6 rs) := hsr
  have HRL : Hid (rs.length = n + 16) := hrl
  have HFR : Hid (∀ _ : Unit, _) := fun _ => hf
  have hnn : n ≤ 184 := by omega
  have hri : ¬ ((n : Int) + 16) < 16 := by omega
  have hr2 : ¬ (200 : Int) < ((n : Int) + 16) := by omega
  have h0i : ¬ (100 : Int) < (dl : Int) := by omega
  have h1i : ¬ (200 : Int) < (m : Int) := by omega
  obtain ⟨X, hX⟩ : ∃ X, X = sealOf ks ns ds ms := ⟨_, rfl⟩
  have HXX : Hid (∀ _ : Unit, sealOf ks ns ds ms = X) := fun _ => hX.symm
  have hxl : X.length = m + 16 := by rw [hX, sealOf_length, hml]
  have HXL : Hid (X.length = m + 16) := hxl
  have HXU : Hid ((u8s X).length = m + 16) := by show _ = _; rw [u8s_length]; exact hxl
  have HXB : Hid (Bytes X) := by rw [hX]; exact sealOf_bytes _ _ _ hmb
  have hxt : X.take m = encOf ks ns ms := by have h := sealOf_take ks ns ds ms; rw [hml, ← hX] at h; exact h
  have hxd : X.drop m = tagOf ks ns ds (encOf ks ns ms) := by have h := sealOf_drop ks ns ds ms; rw [hml, ← hX] at h; exact h
  obtain ⟨j, hj, hja⟩ : ∃ j : Nat, j < 16 ∧ a % 16 = (j : Int) := ⟨(a % 16).toNat, by omega, by omega⟩
  have hat : a.tmod 16 = (j : Int) := by rw [Int.tmod_eq_emod_of_nonneg ha.1]; exact hja
  obtain ⟨x, hx⟩ : ∃ x, x = X.getD (m + j) 0 := ⟨_, rfl⟩
  have HVX : Hid (∀ l : List Value, (u8s X ++ l)[m + j]? = some (.int .u8 x)) := fun l => by rw [List.getElem?_append_left (by rw [u8s_length]; omega), u8s_get _ _ (by omega), hx]
  have hxb : 0 ≤ x ∧ x < 256 := by rw [hx]; exact HXB.out.get _
  obtain ⟨y, hy⟩ : ∃ y, y = bits .xor .u8 x b := ⟨_, rfl⟩
  have HXY : Hid (∀ _ : Unit, bits .xor .u8 x b = y) := fun _ => hy.symm
  have hyb : 0 ≤ y ∧ y < 256 := by rw [hy]; exact byte_xor hxb (by omega)
  obtain ⟨X2, hX2⟩ : ∃ X2, X2 = X.set (m + j) y := ⟨_, rfl⟩
  have HST : Hid (∀ l : List Value, (u8s X ++ l).set (m + j) (.int .u8 y) = u8s X2 ++ l) := fun l => by rw [List.set_append_left _ _ (by rw [u8s_length]; omega), u8s_set, hX2]
  have HX2L : Hid (X2.length = m + 16) := by show _ = _; rw [hX2, List.length_set, hxl]
  have HX2B : Hid (Bytes X2) := by rw [hX2]; exact bytes_set HXB.out _ hyb
  obtain ⟨c1, hc1⟩ : ∃ c1, c1 = openCode ks ns ds X2 := ⟨_, rfl⟩
  have HC1 : Hid (∀ _ : Unit, openCode ks ns ds X2 = c1) := fun _ => hc1.symm
  have hcb : (c1 == 0) = (b == 0) := by
    rw [hc1, hX2, hy, hX]
    exact code_turned ks ns ds ms j m x b hj hml hmb (by rw [hx, hX]) hb0
  obtain ⟨ha0, ha1⟩ := ha
  obtain ⟨hb1, hb2⟩ := hb0
  clear ht hq hkl hnl hkb hnb hdb hmb hva hvp hX hxl hxt hxd hja hx hxb hy hyb hX2 hc1 hrb hd100 hm200 hr200 hsr hrl hf hml hdl
  go_enter Tryd.func5, Tryd.ntmps5
  go_wp2_with (first
    | ((with_reducible refine at_op (some 7) (.box 23 (.tmp 0)) ?_); refine wpl_box (u8s ks) rfl hm ?_; clear hm; intro w1 g7 hm)
    | ((with_reducible refine at_op (some 8) (.box 30 (.tmp 1)) ?_); refine wpl_box (u8s ns) rfl hm ?_; clear hm; intro w2 g8 hm)
    | (go_at_call 9; refine (known5_any _ (Tab.mem HT.out hm (by simp)) (QTab.mem HQ.out hm (by simp))).mono ?_; rintro e wk ⟨rfl, hb⟩; replace hm := hm.call hb; clear hb)
    | ((with_reducible refine at_op (some 36) (.load 23 (.tmp 7)) ?_); refine wpl_ldw 1 hm rfl rfl _ un_key rfl 32 sz_key (HKU.out) ?_)
    | ((with_reducible refine at_op (some 37) (.load 30 (.tmp 8)) ?_); refine wpl_ldw 0 hm rfl rfl _ un_nce rfl 12 sz_nce (HNU.out) ?_)
    | (go_at_call 18; refine (seal_any ks ns ds ms _ _ HKL.out HNL.out HKB.out HNB.out HDB.out HMB.out (by rw [HDL.out]; omega) (by rw [HML.out]; omega) _ (Tab.mem HT.out hm (by simp)) (QTab.mem HQ.out hm (by simp)) (SlOld.mem HA.out hm) (SlOld.mem HP.out hm)).mono ?_; rintro e w3 ⟨gb, cap, l, he, hcap, hge, hr, hb⟩; rw [HML.out] at he hcap; subst he; rw [HXX.out ()] at hr; replace hm := hm.callNew hb hr hge; clear hb hr hge)
    | ((with_reducible refine at_op (some 49) (.load 5 (.tmp 48)) ?_); refine wpl_ldc 0 (m + j) (.int .u8 x) hm rfl rfl ag_u8 (HVX.out _) ?_)
    | ((with_reducible refine at_op none (.store 5 (.tmp 52) (.tmp 51)) ?_); go_must (refine wpl_stc 0 (m + j) (.int .u8 y) hm rfl rfl (by rw [← HXY.out ()]; rfl) sz_u8 (by rw [List.length_append, HXU.out]; omega) rfl rfl ?_); clear hm; intro w4 hm; replace hm : Mem w [] w4 [(gb, u8s X2 ++ l, 5), (g8, u8s ns, 30), (g7, u8s ks, 23)] := (by rw [HST.out] at hm; exact hm))
    | ((with_reducible refine at_op (some 54) (.load 23 (.tmp 7)) ?_); refine wpl_ldw 2 hm rfl rfl _ un_key rfl 32 sz_key (HKU.out) ?_)
    | ((with_reducible refine at_op (some 55) (.load 30 (.tmp 8)) ?_); refine wpl_ldw 1 hm rfl rfl _ un_nce rfl 12 sz_nce (HNU.out) ?_))
  refine (open_any ks ns ds X2 _ _ HKL.out HNL.out HKB.out HNB.out HDB.out HX2B.out (by rw [HDL.out]; omega) (by rw [HX2L.out]; omega) _ (Tab.mem HT.out hm (by simp)) (QTab.mem HQ.out hm (by simp)) (SlOld.mem HA.out hm) (old_head (hm.get 0 rfl) HX2L.out hcap)).mono ?_
  rintro e w5 ⟨v1, he, _, hb⟩
  rw [HC1.out ()] at he
  subst he
  replace hm := hm.call hb
  clear hb
  go_wp2_with (first
    | ((with_reducible refine at_op (some 62) (.load 23 (.tmp 7)) ?_); refine wpl_ldw 2 hm rfl rfl _ un_key rfl 32 sz_key (HKU.out) ?_)
    | ((with_reducible refine at_op (some 63) (.load 30 (.tmp 8)) ?_); refine wpl_ldw 1 hm rfl rfl _ un_nce rfl 12 sz_nce (HNU.out) ?_))
  refine (open_bad ks ns ds rs _ b6 o6 c6 n HRL.out hc6 (HFR.out ()) HKL.out HNL.out HKB.out HNB.out HDB.out HRB.out (by rw [HDL.out]; omega) (by rw [HRL.out]; omega) _ (Tab.mem HT.out hm (by simp)) (QTab.mem HQ.out hm (by simp)) (SlOld.mem HA.out hm) (Seg.mem HSG.out hm (by simp))).mono ?_
  rintro e w6 ⟨he, hb⟩
  subst he
  replace hm := hm.call hb
  clear hb
  go_wp2_with fail
  go_ret
  exact ⟨rfl, hm.below⟩
set_option maxHeartbeats 4000000 in
set_option maxRecDepth 100000 in
theorem sealTags_good (ks ns ds ms : List Int) (rs : List Int) (va vp : Value) (b6 o6 c6 n : Nat) (a b : Int) (hkl : ks.length = 32) (hnl : ns.length = 12) (hkb : Bytes ks) (hnb : Bytes ns) (hdb : Bytes ds) (hmb : Bytes ms) (hrb : Bytes rs) (ha : 0 ≤ a ∧ a ≤ 255) (hb0 : 0 ≤ b ∧ b ≤ 255) (hd100 : ds.length ≤ 100) (hm200 : ms.length ≤ 200) (hr200 : rs.length ≤ 200) (hrl : rs.length = n + 16) (hc6 : n + 16 ≤ c6) (hf : rs.drop n = tagOf ks ns ds (rs.take n)) (w : World) (ht : Tab w) (hq : QTab w) (hva : SlOld w va ds) (hvp : SlOld w vp ms) (hsr : Seg w b6 o6 rs) :
    Calls Tryd.prog 5 #[.agg (u8s ks).toArray, .agg (u8s ns).toArray, va, vp, .int .u8 a, .int .u8 b, .slice (some ⟨b6, o6, none⟩) (n + 16) c6] w fun e w' => e = .returned (.bool true) ∧ Below w.heap.size w w' := by
  have hm := Mem.start w
  have HT : Hid _ := ht
  have HQ : Hid _ := hq
  have HKL : Hid _ := hkl
  have HNL : Hid _ := hnl
  have HKB : Hid _ := hkb
  have HNB : Hid _ := hnb
  have HDB : Hid _ := hdb
  have HMB : Hid _ := hmb
  have HKU : Hid ((u8s ks).length = 32) := by show _ = _; rw [u8s_length]; exact hkl
  have HNU : Hid ((u8s ns).length = 12) := by show _ = _; rw [u8s_length]; exact hnl
  obtain ⟨m, hml⟩ : ∃ m, ms.length = m := ⟨_, rfl⟩
  obtain ⟨dl, hdl⟩ : ∃ dl, ds.length = dl := ⟨_, rfl⟩
  obtain ⟨pa, ca, hva1, _⟩ := hva.len
  obtain ⟨pp, cp, hvp1, _⟩ := hvp.len
  rw [hdl] at hva1
  rw [hml] at hvp1
  subst hva1 hvp1
  have HA : Hid (SlOld w (.slice pa dl ca) ds) := hva
  have HP : Hid (SlOld w (.slice pp m cp) ms) := hvp
  have HML : Hid (ms.length = m) := hml
  have HDL : Hid (ds.length = dl) := hdl
  have HRB : Hid (Bytes rs) := hrb
  have HSG : Hid (Seg w b6 o6 rs) := hsr
  have HRL : Hid (rs.length = n + 16) := hrl
  have HFR : Hid (∀ _ : Unit, _) := fun _ => hf
  have hnn : n ≤ 184 := by omega
  have hri : ¬ ((n : Int) + 16) < 16 := by omega
  have hr2 : ¬ (200 : Int) < ((n : Int) + 16) := by omega
  have h0i : ¬ (100 : Int) < (dl : Int) := by omega
  have h1i : ¬ (200 : Int) < (m : Int) := by omega
  obtain ⟨X, hX⟩ : ∃ X, X = sealOf ks ns ds ms := ⟨_, rfl⟩
  have HXX : Hid (∀ _ : Unit, sealOf ks ns ds ms = X) := fun _ => hX.symm
  have hxl : X.length = m + 16 := by rw [hX, sealOf_length, hml]
  have HXL : Hid (X.length = m + 16) := hxl
  have HXU : Hid ((u8s X).length = m + 16) := by show _ = _; rw [u8s_length]; exact hxl
  have HXB : Hid (Bytes X) := by rw [hX]; exact sealOf_bytes _ _ _ hmb
  have hxt : X.take m = encOf ks ns ms := by have h := sealOf_take ks ns ds ms; rw [hml, ← hX] at h; exact h
  have hxd : X.drop m = tagOf ks ns ds (encOf ks ns ms) := by have h := sealOf_drop ks ns ds ms; rw [hml, ← hX] at h; exact h
  obtain ⟨j, hj, hja⟩ : ∃ j : Nat, j < 16 ∧ a % 16 = (j : Int) := ⟨(a % 16).toNat, by omega, by omega⟩
  have hat : a.tmod 16 = (j : Int) := by rw [Int.tmod_eq_emod_of_nonneg ha.1]; exact hja
  obtain ⟨x, hx⟩ : ∃ x, x = X.getD (m + j) 0 := ⟨_, rfl⟩
  have HVX : Hid (∀ l : List Value, (u8s X ++ l)[m + j]? = some (.int .u8 x)) := fun l => by rw [List.getElem?_append_left (by rw [u8s_length]; omega), u8s_get _ _ (by omega), hx]
  have hxb : 0 ≤ x ∧ x < 256 := by rw [hx]; exact HXB.out.get _
  obtain ⟨y, hy⟩ : ∃ y, y = bits .xor .u8 x b := ⟨_, rfl⟩
  have HXY : Hid (∀ _ : Unit, bits .xor .u8 x b = y) := fun _ => hy.symm
  have hyb : 0 ≤ y ∧ y < 256 := by rw [hy]; exact byte_xor hxb (by omega)
  obtain ⟨X2, hX2⟩ : ∃ X2, X2 = X.set (m + j) y := ⟨_, rfl⟩
  have HST : Hid (∀ l : List Value, (u8s X ++ l).set (m + j) (.int .u8 y) = u8s X2 ++ l) := fun l => by rw [List.set_append_left _ _ (by rw [u8s_length]; omega), u8s_set, hX2]
  have HX2L : Hid (X2.length = m + 16) := by show _ = _; rw [hX2, List.length_set, hxl]
  have HX2B : Hid (Bytes X2) := by rw [hX2]; exact bytes_set HXB.out _ hyb
  obtain ⟨c1, hc1⟩ : ∃ c1, c1 = openCode ks ns ds X2 := ⟨_, rfl⟩
  have HC1 : Hid (∀ _ : Unit, openCode ks ns ds X2 = c1) := fun _ => hc1.symm
  have hcb : (c1 == 0) = (b == 0) := by
    rw [hc1, hX2, hy, hX]
    exact code_turned ks ns ds ms j m x b hj hml hmb (by rw [hx, hX]) hb0
  obtain ⟨Pl, hPl⟩ : ∃ Pl, Pl = encOf ks ns (rs.take n) := ⟨_, rfl⟩
  have HPP : Hid (∀ _ : Unit, encOf ks ns (rs.take n) = Pl) := fun _ => hPl.symm
  have HPN : Hid (Pl.length = n) := by show _ = _; rw [hPl, encOf_length, List.length_take]; omega
  have HPB : Hid (Bytes Pl) := by rw [hPl]; exact encOf_bytes _ _ (hrb.take _)
  have HSB : Hid (∀ _ : Unit, sealOf ks ns ds Pl = rs) := fun _ => by
    have hfit : fits ks ns ds rs = true := by unfold fits; rw [hrl, Nat.add_sub_cancel]; exact decide_eq_true hf
    have h := fits_back ks ns ds hrb hfit
    rw [hrl, Nat.add_sub_cancel, ← hPl] at h
    exact h
  obtain ⟨G, hG⟩ : ∃ G, G = rs.drop n := ⟨_, rfl⟩
  have HGD : Hid (∀ _ : Unit, rs.drop n = G) := fun _ => hG.symm
  have HGG : Hid (∀ _ : Unit, tagOf ks ns ds (rs.take n) = G) := fun _ => by rw [hG, hf]
  have HGL : Hid (G.length = 16) := by show _ = _; rw [hG, List.length_drop]; omega
  have HGU : Hid ((u8s G).length = 16) := by show _ = _; rw [u8s_length]; exact HGL.out
  have HTB : Hid (Bytes (rs.take n)) := hrb.take _
  have HTL : Hid ((rs.take n).length ≤ 20000) := by show _ ≤ _; rw [List.length_take]; omega
  obtain ⟨ha0, ha1⟩ := ha
  obtain ⟨hb1, hb2⟩ := hb0
  clear ht hq hkl hnl hkb hnb hdb hmb hva hvp hX hxl hxt hxd hja hx hxb hy hyb hX2 hc1 hrb hd100 hm200 hr200 hsr hrl hf hPl hG hml hdl
  go_enter Tryd.func5, Tryd.ntmps5
  go_wp2_with (first
    | ((with_reducible refine at_op (some 7) (.box 23 (.tmp 0)) ?_); refine wpl_box (u8s ks) rfl hm ?_; clear hm; intro w1 g7 hm)
    | ((with_reducible refine at_op (some 8) (.box 30 (.tmp 1)) ?_); refine wpl_box (u8s ns) rfl hm ?_; clear hm; intro w2 g8 hm)
    | (go_at_call 9; refine (known5_any _ (Tab.mem HT.out hm (by simp)) (QTab.mem HQ.out hm (by simp))).mono ?_; rintro e wk ⟨rfl, hb⟩; replace hm := hm.call hb; clear hb)
    | ((with_reducible refine at_op (some 36) (.load 23 (.tmp 7)) ?_); refine wpl_ldw 1 hm rfl rfl _ un_key rfl 32 sz_key (HKU.out) ?_)
    | ((with_reducible refine at_op (some 37) (.load 30 (.tmp 8)) ?_); refine wpl_ldw 0 hm rfl rfl _ un_nce rfl 12 sz_nce (HNU.out) ?_)
    | (go_at_call 18; refine (seal_any ks ns ds ms _ _ HKL.out HNL.out HKB.out HNB.out HDB.out HMB.out (by rw [HDL.out]; omega) (by rw [HML.out]; omega) _ (Tab.mem HT.out hm (by simp)) (QTab.mem HQ.out hm (by simp)) (SlOld.mem HA.out hm) (SlOld.mem HP.out hm)).mono ?_; rintro e w3 ⟨gb, cap, l, he, hcap, hge, hr, hb⟩; rw [HML.out] at he hcap; subst he; rw [HXX.out ()] at hr; replace hm := hm.callNew hb hr hge; clear hb hr hge)
    | ((with_reducible refine at_op (some 49) (.load 5 (.tmp 48)) ?_); refine wpl_ldc 0 (m + j) (.int .u8 x) hm rfl rfl ag_u8 (HVX.out _) ?_)
    | ((with_reducible refine at_op none (.store 5 (.tmp 52) (.tmp 51)) ?_); go_must (refine wpl_stc 0 (m + j) (.int .u8 y) hm rfl rfl (by rw [← HXY.out ()]; rfl) sz_u8 (by rw [List.length_append, HXU.out]; omega) rfl rfl ?_); clear hm; intro w4 hm; replace hm : Mem w [] w4 [(gb, u8s X2 ++ l, 5), (g8, u8s ns, 30), (g7, u8s ks, 23)] := (by rw [HST.out] at hm; exact hm))
    | ((with_reducible refine at_op (some 54) (.load 23 (.tmp 7)) ?_); refine wpl_ldw 2 hm rfl rfl _ un_key rfl 32 sz_key (HKU.out) ?_)
    | ((with_reducible refine at_op (some 55) (.load 30 (.tmp 8)) ?_); refine wpl_ldw 1 hm rfl rfl _ un_nce rfl 12 sz_nce (HNU.out) ?_))
  refine (open_any ks ns ds X2 _ _ HKL.out HNL.out HKB.out HNB.out HDB.out HX2B.out (by rw [HDL.out]; omega) (by rw [HX2L.out]; omega) _ (Tab.mem HT.out hm (by simp)) (QTab.mem HQ.out hm (by simp)) (SlOld.mem HA.out hm) (old_head (hm.get 0 rfl) HX2L.out hcap)).mono ?_
  rintro e w5 ⟨v1, he, _, hb⟩
  rw [HC1.out ()] at he
  subst he
  replace hm := hm.call hb
  clear hb
  go_wp2_with (first
    | ((with_reducible refine at_op (some 62) (.load 23 (.tmp 7)) ?_); refine wpl_ldw 2 hm rfl rfl _ un_key rfl 32 sz_key (HKU.out) ?_)
    | ((with_reducible refine at_op (some 63) (.load 30 (.tmp 8)) ?_); refine wpl_ldw 1 hm rfl rfl _ un_nce rfl 12 sz_nce (HNU.out) ?_))
  refine (open_good ks ns ds rs _ b6 o6 c6 n HRL.out hc6 (HFR.out ()) HKL.out HNL.out HKB.out HNB.out HDB.out HRB.out (by rw [HDL.out]; omega) (by rw [HRL.out]; omega) _ (Tab.mem HT.out hm (by simp)) (QTab.mem HQ.out hm (by simp)) (SlOld.mem HA.out hm) (Seg.mem HSG.out hm (by simp))).mono ?_
  rintro e w6 ⟨gx, he, hge, hr, hb⟩
  subst he
  rw [HPP.out ()] at hr
  replace hm := hm.callNew hb hr hge
  clear hb hr hge
  go_wp2_with fail
  refine wp_ends0 ?_
  refine anyH_start (T := fun W => Mem w [] W [(gx, u8s Pl, 5), (gb, u8s X2 ++ l, 5), (g8, u8s ns, 30), (g7, u8s ks, 23)]) (by kernel_rfl) hm ?_
  clear hm
  intro w7 hm
  refine anyH_takeG 0 (v := .agg (u8s ks).toArray) rfl (by kernel_rfl) (by kernel_rfl) (by kernel_rfl) rfl (fun W hW => exec_ldsG 0 _ (Mem.get hW 3 rfl) rfl _ un_key rfl 32 sz_key (by rw [HKU.out]; omega) (by rw [List.drop_zero, List.take_of_length_le (Nat.le_of_eq HKU.out)])) hm ?_
  go_simp
  refine anyH_takeG 1 (v := .agg (u8s ns).toArray) rfl (by kernel_rfl) (by kernel_rfl) (by kernel_rfl) rfl (fun W hW => exec_ldsG 0 _ (Mem.get hW 2 rfl) rfl _ un_nce rfl 12 sz_nce (by rw [HNU.out]; omega) (by rw [List.drop_zero, List.take_of_length_le (Nat.le_of_eq HNU.out)])) hm ?_
  go_simp
  refine anyH_takeG 2 (v := .slice pa dl ca) rfl (by kernel_rfl) (by kernel_rfl) (by kernel_rfl) rfl (fun W _ => by go_simp) hm ?_
  go_simp
  refine anyH_takeG 3 (v := .slice (some ⟨b6, o6, none⟩) (n + 16) c6) rfl (by kernel_rfl) (by kernel_rfl) (by kernel_rfl) rfl (fun W _ => by go_simp) hm ?_
  go_simp
  refine anyH_takeG 4 (v := .slice (some ⟨b6, o6, none⟩) (n + 16) c6) rfl (by kernel_rfl) (by kernel_rfl) (by kernel_rfl) rfl (fun W _ => by go_simp) hm ?_
  go_simp
  refine anyH_takeG 5 (v := .int .i64 ((n : Int) + 16)) rfl (by kernel_rfl) (by kernel_rfl) (by kernel_rfl) rfl (fun W _ => by go_simp) hm ?_
  go_simp
  refine anyH_takeG 6 (v := .int .i64 (n : Int)) rfl (by kernel_rfl) (by kernel_rfl) (by kernel_rfl) rfl (fun W _ => by go_simp; exact wrapi _ (by omega) (by omega)) hm ?_
  go_simp
  refine anyH_takeG 7 (v := .slice (some ⟨b6, o6, none⟩) n c6) rfl (by kernel_rfl) (by kernel_rfl) (by kernel_rfl) rfl (fun W _ => exec_hiS un_bs sz_u8 n (by omega) rfl rfl rfl) hm ?_
  go_simp
  refine wpAnyH_all (rs := [8, 9]) (by kernel_rfl) (by simp) ?_
  intro i hi
  simp only [List.mem_cons, List.not_mem_nil, or_false] at hi
  rcases hi with rfl | rfl
  · refine anyH_op 8 rfl rfl ?_
    intro K hK
    go_wp2_with (go_at_call 16; refine (tag_any ks ns ds (rs.take n) _ _ HKL.out HNL.out HKB.out HNB.out HDB.out HTB.out (by rw [HDL.out]; omega) HTL.out _ (Tab.mem HT.out hm (by simp)) (SlOld.mem HA.out hm) (old_segT (Seg.mem HSG.out hm (by simp)) n (by rw [HRL.out]; omega) (by omega))).mono ?_; rintro e wt ⟨he, hb⟩; rw [HGG.out ()] at he; subst he; replace hm := hm.call hb; clear hb)
    refine hK _ _ hm ?_
    clear hK K
    refine wpAnyH_all (rs := [9]) (by kernel_rfl) (by simp) ?_
    intro i hi
    simp only [List.mem_cons, List.not_mem_nil, or_false] at hi
    subst hi
    refine anyH_op 9 rfl rfl ?_
    intro K hK
    refine wpl_alloc _ zero_tag hm ?_
    clear hm
    intro wa g20 hm
    refine wpList_nil ?_
    refine hK _ _ hm.tail ?_
    clear hK K
    refine wpAnyH_all (rs := [10]) (by kernel_rfl) (by simp) ?_
    intro i hi
    simp only [List.mem_cons, List.not_mem_nil, or_false] at hi
    subst hi
    refine anyH_op 10 rfl rfl ?_
    intro K hK
    refine wpl_stw 0 (u8s G) hm rfl rfl rfl 16 sz_tag (by simp [u8s_length]) HGU.out (u8s_one _) ?_
    clear hm
    intro wz hm
    refine wpList_nil ?_
    refine hK _ _ hm.tail ?_
    clear hK K
    refine wpAnyH_done (by kernel_rfl) ?_ _
    simp only [endsIn]
    go_wp2_with fail
    refine wp_ends0 ?_
    refine anyH_start (T := fun W => Mem w [] W [(g20, u8s G, 42), (gx, u8s Pl, 5), (gb, u8s X2 ++ l, 5), (g8, u8s ns, 30), (g7, u8s ks, 23)]) (by kernel_rfl) hm ?_
    clear hm
    intro w8 hm
    refine anyH_takeG 0 (v := .slice (some ⟨g20, 0, none⟩) 16 16) rfl (by kernel_rfl) (by kernel_rfl) (by kernel_rfl) rfl (fun W _ => by go_simp) hm ?_
    go_simp
    refine anyH_takeG 1 (v := .string (strOf G)) rfl (by kernel_rfl) (by kernel_rfl) (by kernel_rfl) rfl (fun W hW => exec_tostr un_bs un_u8 un_strT _ rfl (old_all (Mem.get hW 0 rfl) HGL.out (Nat.le_refl _))) hm ?_
    go_simp
    refine anyH_takeG 2 (v := .slice (some ⟨b6, o6, none⟩) (n + 16) c6) rfl (by kernel_rfl) (by kernel_rfl) (by kernel_rfl) rfl (fun W _ => by go_simp) hm ?_
    go_simp
    refine anyH_takeG 3 (v := .slice (some ⟨b6, o6, none⟩) (n + 16) c6) rfl (by kernel_rfl) (by kernel_rfl) (by kernel_rfl) rfl (fun W _ => by go_simp) hm ?_
    go_simp
    refine anyH_takeG 4 (v := .int .i64 ((n : Int) + 16)) rfl (by kernel_rfl) (by kernel_rfl) (by kernel_rfl) rfl (fun W _ => by go_simp) hm ?_
    go_simp
    refine anyH_takeG 5 (v := .int .i64 (n : Int)) rfl (by kernel_rfl) (by kernel_rfl) (by kernel_rfl) rfl (fun W _ => by go_simp; exact wrapi _ (by omega) (by omega)) hm ?_
    go_simp
    refine anyH_takeG 6 (v := .slice (some ⟨b6, o6 + n, none⟩) 16 (c6 - n)) rfl (by kernel_rfl) (by kernel_rfl) (by kernel_rfl) rfl (fun W _ => exec_loS un_bs sz_u8 n 16 (by omega) (by omega) (by omega) rfl rfl rfl) hm ?_
    go_simp
    refine anyH_takeG 7 (v := .string (strOf G)) rfl (by kernel_rfl) (by kernel_rfl) (by kernel_rfl) rfl (fun W hW => exec_tostr un_bs un_u8 un_strT _ rfl (by rw [← HGD.out ()]; exact old_segD (Seg.mem HSG.out hW (by simp)) n 16 HRL.out (by omega))) hm ?_
    go_simp
    refine anyH_takeG 8 (v := .bool true) rfl (by kernel_rfl) (by kernel_rfl) (by kernel_rfl) rfl (fun W _ => exec_eqsB (strOf G) (strOf G) true rfl rfl (beq_self_str _)) hm ?_
    go_simp
    refine anyH_takeG 9 (v := .bool true) rfl (by kernel_rfl) (by kernel_rfl) (by kernel_rfl) rfl (fun W _ => by go_simp) hm ?_
    go_simp
    refine anyH_takeG 10 (v := .agg (u8s ks).toArray) rfl (by kernel_rfl) (by kernel_rfl) (by kernel_rfl) rfl (fun W hW => exec_ldsG 0 _ (Mem.get hW 4 rfl) rfl _ un_key rfl 32 sz_key (by rw [HKU.out]; omega) (by rw [List.drop_zero, List.take_of_length_le (Nat.le_of_eq HKU.out)])) hm ?_
    go_simp
    refine anyH_takeG 11 (v := .agg (u8s ns).toArray) rfl (by kernel_rfl) (by kernel_rfl) (by kernel_rfl) rfl (fun W hW => exec_ldsG 0 _ (Mem.get hW 3 rfl) rfl _ un_nce rfl 12 sz_nce (by rw [HNU.out]; omega) (by rw [List.drop_zero, List.take_of_length_le (Nat.le_of_eq HNU.out)])) hm ?_
    go_simp
    refine anyH_takeG 12 (v := .slice pa dl ca) rfl (by kernel_rfl) (by kernel_rfl) (by kernel_rfl) rfl (fun W _ => by go_simp) hm ?_
    go_simp
    refine anyH_takeG 13 (v := .slice (some ⟨gx, 0, none⟩) n n) rfl (by kernel_rfl) (by kernel_rfl) (by kernel_rfl) rfl (fun W _ => by go_simp) hm ?_
    go_simp
    refine anyH_takeG 16 (v := .slice (some ⟨b6, o6, none⟩) (n + 16) c6) rfl (by kernel_rfl) (by kernel_rfl) (by kernel_rfl) rfl (fun W _ => by go_simp) hm ?_
    go_simp
    refine anyH_takeG 17 (v := .string (strOf rs)) rfl (by kernel_rfl) (by kernel_rfl) (by kernel_rfl) rfl (fun W hW => exec_tostr un_bs un_u8 un_strT _ rfl (by rw [← HRL.out]; exact ⟨_, c6, rfl, by rw [HRL.out]; exact hc6, fun _ => ⟨b6, o6, rfl, Seg.mem HSG.out hW (by simp)⟩⟩)) hm ?_
    go_simp
    refine wpAnyH_all (rs := [14]) (by kernel_rfl) (by simp) ?_
    intro i hi
    simp only [List.mem_cons, List.not_mem_nil, or_false] at hi
    subst hi
    refine anyH_opW 14 rfl rfl ?_
    intro K hK
    go_wp2_with (go_at_call 18; refine (seal_any ks ns ds Pl _ _ HKL.out HNL.out HKB.out HNB.out HDB.out HPB.out (by rw [HDL.out]; omega) (by rw [HPN.out]; omega) _ (Tab.mem HT.out hm (by simp)) (QTab.mem HQ.out hm (by simp)) (SlOld.mem HA.out hm) (old_all (hm.get 1 rfl) HPN.out (Nat.le_refl _))).mono ?_; rintro e ws ⟨gs, cap2, l2, he, hcap2, hge, hr, hb⟩; rw [HPN.out] at he hcap2; subst he; rw [HSB.out ()] at hr; replace hm := hm.callNew hb hr hge; clear hb hr hge)
    refine hK _ _ hm.tail ?_
    clear hK K
    refine wpAnyH_all (rs := [15]) (by kernel_rfl) (by simp) ?_
    intro i hi
    simp only [List.mem_cons, List.not_mem_nil, or_false] at hi
    subst hi
    refine anyH_opW 15 rfl rfl ?_
    intro K hK
    refine wpl_execG (.string (strOf rs)) rfl (exec_tostr un_bs un_u8 un_strT _ rfl (old_head (hm.get 0 rfl) HRL.out hcap2)) ?_
    refine wpList_nil ?_
    refine hK _ _ hm.tail ?_
    clear hK K
    refine anyH_takeG 18 (v := .bool true) rfl (by kernel_rfl) (by kernel_rfl) (by kernel_rfl) rfl (fun W _ => exec_eqsB (strOf rs) (strOf rs) true rfl rfl (beq_self_str _)) hm.tail ?_
    go_simp
    refine anyH_takeG 19 (v := .bool true) rfl (by kernel_rfl) (by kernel_rfl) (by kernel_rfl) rfl (fun W _ => by go_simp) hm.tail ?_
    go_simp
    refine anyH_takeG 20 (v := .bool true) rfl (by kernel_rfl) (by kernel_rfl) (by kernel_rfl) rfl (fun W _ => by go_simp) hm.tail ?_
    go_simp
    refine wpAnyH_done (by kernel_rfl) ?_ _
    simp only [endsIn]
    go_wp2_with fail
    go_ret
    exact ⟨rfl, hm.below⟩
  · refine anyH_op 9 rfl rfl ?_
    intro K hK
    refine wpl_alloc _ zero_tag hm ?_
    clear hm
    intro wa g20 hm
    refine wpList_nil ?_
    refine hK _ _ hm.tail ?_
    clear hK K
    refine wpAnyH_all (rs := [8]) (by kernel_rfl) (by simp) ?_
    intro i hi
    simp only [List.mem_cons, List.not_mem_nil, or_false] at hi
    subst hi
    refine anyH_op 8 rfl rfl ?_
    intro K hK
    go_wp2_with (go_at_call 16; refine (tag_any ks ns ds (rs.take n) _ _ HKL.out HNL.out HKB.out HNB.out HDB.out HTB.out (by rw [HDL.out]; omega) HTL.out _ (Tab.mem HT.out hm (by simp)) (SlOld.mem HA.out hm) (old_segT (Seg.mem HSG.out hm (by simp)) n (by rw [HRL.out]; omega) (by omega))).mono ?_; rintro e wt ⟨he, hb⟩; rw [HGG.out ()] at he; subst he; replace hm := hm.call hb; clear hb)
    refine hK _ _ hm.tail ?_
    clear hK K
    refine wpAnyH_all (rs := [10]) (by kernel_rfl) (by simp) ?_
    intro i hi
    simp only [List.mem_cons, List.not_mem_nil, or_false] at hi
    subst hi
    refine anyH_op 10 rfl rfl ?_
    intro K hK
    refine wpl_stw 0 (u8s G) hm rfl rfl rfl 16 sz_tag (by simp [u8s_length]) HGU.out (u8s_one _) ?_
    clear hm
    intro wz hm
    refine wpList_nil ?_
    refine hK _ _ hm.tail ?_
    clear hK K
    refine wpAnyH_done (by kernel_rfl) ?_ _
    simp only [endsIn]
    go_wp2_with fail
    refine wp_ends0 ?_
    refine anyH_start (T := fun W => Mem w [] W [(g20, u8s G, 42), (gx, u8s Pl, 5), (gb, u8s X2 ++ l, 5), (g8, u8s ns, 30), (g7, u8s ks, 23)]) (by kernel_rfl) hm ?_
    clear hm
    intro w8 hm
    refine anyH_takeG 0 (v := .slice (some ⟨g20, 0, none⟩) 16 16) rfl (by kernel_rfl) (by kernel_rfl) (by kernel_rfl) rfl (fun W _ => by go_simp) hm ?_
    go_simp
    refine anyH_takeG 1 (v := .string (strOf G)) rfl (by kernel_rfl) (by kernel_rfl) (by kernel_rfl) rfl (fun W hW => exec_tostr un_bs un_u8 un_strT _ rfl (old_all (Mem.get hW 0 rfl) HGL.out (Nat.le_refl _))) hm ?_
    go_simp
    refine anyH_takeG 2 (v := .slice (some ⟨b6, o6, none⟩) (n + 16) c6) rfl (by kernel_rfl) (by kernel_rfl) (by kernel_rfl) rfl (fun W _ => by go_simp) hm ?_
    go_simp
    refine anyH_takeG 3 (v := .slice (some ⟨b6, o6, none⟩) (n + 16) c6) rfl (by kernel_rfl) (by kernel_rfl) (by kernel_rfl) rfl (fun W _ => by go_simp) hm ?_
    go_simp
    refine anyH_takeG 4 (v := .int .i64 ((n : Int) + 16)) rfl (by kernel_rfl) (by kernel_rfl) (by kernel_rfl) rfl (fun W _ => by go_simp) hm ?_
    go_simp
    refine anyH_takeG 5 (v := .int .i64 (n : Int)) rfl (by kernel_rfl) (by kernel_rfl) (by kernel_rfl) rfl (fun W _ => by go_simp; exact wrapi _ (by omega) (by omega)) hm ?_
    go_simp
    refine anyH_takeG 6 (v := .slice (some ⟨b6, o6 + n, none⟩) 16 (c6 - n)) rfl (by kernel_rfl) (by kernel_rfl) (by kernel_rfl) rfl (fun W _ => exec_loS un_bs sz_u8 n 16 (by omega) (by omega) (by omega) rfl rfl rfl) hm ?_
    go_simp
    refine anyH_takeG 7 (v := .string (strOf G)) rfl (by kernel_rfl) (by kernel_rfl) (by kernel_rfl) rfl (fun W hW => exec_tostr un_bs un_u8 un_strT _ rfl (by rw [← HGD.out ()]; exact old_segD (Seg.mem HSG.out hW (by simp)) n 16 HRL.out (by omega))) hm ?_
    go_simp
    refine anyH_takeG 8 (v := .bool true) rfl (by kernel_rfl) (by kernel_rfl) (by kernel_rfl) rfl (fun W _ => exec_eqsB (strOf G) (strOf G) true rfl rfl (beq_self_str _)) hm ?_
    go_simp
    refine anyH_takeG 9 (v := .bool true) rfl (by kernel_rfl) (by kernel_rfl) (by kernel_rfl) rfl (fun W _ => by go_simp) hm ?_
    go_simp
    refine anyH_takeG 10 (v := .agg (u8s ks).toArray) rfl (by kernel_rfl) (by kernel_rfl) (by kernel_rfl) rfl (fun W hW => exec_ldsG 0 _ (Mem.get hW 4 rfl) rfl _ un_key rfl 32 sz_key (by rw [HKU.out]; omega) (by rw [List.drop_zero, List.take_of_length_le (Nat.le_of_eq HKU.out)])) hm ?_
    go_simp
    refine anyH_takeG 11 (v := .agg (u8s ns).toArray) rfl (by kernel_rfl) (by kernel_rfl) (by kernel_rfl) rfl (fun W hW => exec_ldsG 0 _ (Mem.get hW 3 rfl) rfl _ un_nce rfl 12 sz_nce (by rw [HNU.out]; omega) (by rw [List.drop_zero, List.take_of_length_le (Nat.le_of_eq HNU.out)])) hm ?_
    go_simp
    refine anyH_takeG 12 (v := .slice pa dl ca) rfl (by kernel_rfl) (by kernel_rfl) (by kernel_rfl) rfl (fun W _ => by go_simp) hm ?_
    go_simp
    refine anyH_takeG 13 (v := .slice (some ⟨gx, 0, none⟩) n n) rfl (by kernel_rfl) (by kernel_rfl) (by kernel_rfl) rfl (fun W _ => by go_simp) hm ?_
    go_simp
    refine anyH_takeG 16 (v := .slice (some ⟨b6, o6, none⟩) (n + 16) c6) rfl (by kernel_rfl) (by kernel_rfl) (by kernel_rfl) rfl (fun W _ => by go_simp) hm ?_
    go_simp
    refine anyH_takeG 17 (v := .string (strOf rs)) rfl (by kernel_rfl) (by kernel_rfl) (by kernel_rfl) rfl (fun W hW => exec_tostr un_bs un_u8 un_strT _ rfl (by rw [← HRL.out]; exact ⟨_, c6, rfl, by rw [HRL.out]; exact hc6, fun _ => ⟨b6, o6, rfl, Seg.mem HSG.out hW (by simp)⟩⟩)) hm ?_
    go_simp
    refine wpAnyH_all (rs := [14]) (by kernel_rfl) (by simp) ?_
    intro i hi
    simp only [List.mem_cons, List.not_mem_nil, or_false] at hi
    subst hi
    refine anyH_opW 14 rfl rfl ?_
    intro K hK
    go_wp2_with (go_at_call 18; refine (seal_any ks ns ds Pl _ _ HKL.out HNL.out HKB.out HNB.out HDB.out HPB.out (by rw [HDL.out]; omega) (by rw [HPN.out]; omega) _ (Tab.mem HT.out hm (by simp)) (QTab.mem HQ.out hm (by simp)) (SlOld.mem HA.out hm) (old_all (hm.get 1 rfl) HPN.out (Nat.le_refl _))).mono ?_; rintro e ws ⟨gs, cap2, l2, he, hcap2, hge, hr, hb⟩; rw [HPN.out] at he hcap2; subst he; rw [HSB.out ()] at hr; replace hm := hm.callNew hb hr hge; clear hb hr hge)
    refine hK _ _ hm.tail ?_
    clear hK K
    refine wpAnyH_all (rs := [15]) (by kernel_rfl) (by simp) ?_
    intro i hi
    simp only [List.mem_cons, List.not_mem_nil, or_false] at hi
    subst hi
    refine anyH_opW 15 rfl rfl ?_
    intro K hK
    refine wpl_execG (.string (strOf rs)) rfl (exec_tostr un_bs un_u8 un_strT _ rfl (old_head (hm.get 0 rfl) HRL.out hcap2)) ?_
    refine wpList_nil ?_
    refine hK _ _ hm.tail ?_
    clear hK K
    refine anyH_takeG 18 (v := .bool true) rfl (by kernel_rfl) (by kernel_rfl) (by kernel_rfl) rfl (fun W _ => exec_eqsB (strOf rs) (strOf rs) true rfl rfl (beq_self_str _)) hm.tail ?_
    go_simp
    refine anyH_takeG 19 (v := .bool true) rfl (by kernel_rfl) (by kernel_rfl) (by kernel_rfl) rfl (fun W _ => by go_simp) hm.tail ?_
    go_simp
    refine anyH_takeG 20 (v := .bool true) rfl (by kernel_rfl) (by kernel_rfl) (by kernel_rfl) rfl (fun W _ => by go_simp) hm.tail ?_
    go_simp
    refine wpAnyH_done (by kernel_rfl) ?_ _
    simp only [endsIn]
    go_wp2_with fail
    go_ret
    exact ⟨rfl, hm.below⟩
set_option maxHeartbeats 1000000 in
set_option maxRecDepth 100000 in
theorem sealTags_far (ks ns ds ms : List Int) (rs : List Int) (va vp vr : Value) (a b : Int) (hkl : ks.length = 32) (hnl : ns.length = 12) (hkb : Bytes ks) (hnb : Bytes ns) (hdb : Bytes ds) (hmb : Bytes ms) (hfar : 100 < ds.length ∨ 200 < ms.length ∨ 200 < rs.length) (w : World) (ht : Tab w) (hq : QTab w) (hva : SlOld w va ds) (hvp : SlOld w vp ms) (hvr : SlOld w vr rs) :
    Calls Tryd.prog 5 #[.agg (u8s ks).toArray, .agg (u8s ns).toArray, va, vp, .int .u8 a, .int .u8 b, vr] w fun e w' => e = .returned (.bool true) ∧ Below w.heap.size w w' := by
  have hm := Mem.start w
  have HT : Hid _ := ht
  have HQ : Hid _ := hq
  have HKL : Hid _ := hkl
  have HNL : Hid _ := hnl
  have HKB : Hid _ := hkb
  have HNB : Hid _ := hnb
  have HDB : Hid _ := hdb
  have HMB : Hid _ := hmb
  have HKU : Hid ((u8s ks).length = 32) := by show _ = _; rw [u8s_length]; exact hkl
  have HNU : Hid ((u8s ns).length = 12) := by show _ = _; rw [u8s_length]; exact hnl
  obtain ⟨m, hml⟩ : ∃ m, ms.length = m := ⟨_, rfl⟩
  obtain ⟨dl, hdl⟩ : ∃ dl, ds.length = dl := ⟨_, rfl⟩
  obtain ⟨pa, ca, hva1, _⟩ := hva.len
  obtain ⟨pp, cp, hvp1, _⟩ := hvp.len
  rw [hdl] at hva1
  rw [hml] at hvp1
  subst hva1 hvp1
  have HA : Hid (SlOld w (.slice pa dl ca) ds) := hva
  have HP : Hid (SlOld w (.slice pp m cp) ms) := hvp
  have HML : Hid (ms.length = m) := hml
  have HDL : Hid (ds.length = dl) := hdl
  obtain ⟨rl, hrl⟩ : ∃ rl, rs.length = rl := ⟨_, rfl⟩
  obtain ⟨pr, cr, hvr1, _⟩ := hvr.len
  rw [hrl] at hvr1
  subst hvr1
  by_cases h0x : 100 < dl
  · have h0i : (100 : Int) < (dl : Int) := by omega
    clear ht hq hkl hnl hkb hnb hdb hmb hva hvp
    go_enter Tryd.func5, Tryd.ntmps5
    go_wp2_with (first
      | ((with_reducible refine at_op (some 7) (.box 23 (.tmp 0)) ?_); refine wpl_box (u8s ks) rfl hm ?_; clear hm; intro w1 g7 hm)
      | ((with_reducible refine at_op (some 8) (.box 30 (.tmp 1)) ?_); refine wpl_box (u8s ns) rfl hm ?_; clear hm; intro w2 g8 hm)
      | (go_at_call 9; refine (known5_any _ (Tab.mem HT.out hm (by simp)) (QTab.mem HQ.out hm (by simp))).mono ?_; rintro e wk ⟨rfl, hb⟩; replace hm := hm.call hb; clear hb))
    go_ret
    exact ⟨rfl, hm.below⟩
  have h0i : ¬ (100 : Int) < (dl : Int) := by omega
  by_cases h1x : 200 < m
  · have h1i : (200 : Int) < (m : Int) := by omega
    clear ht hq hkl hnl hkb hnb hdb hmb hva hvp
    go_enter Tryd.func5, Tryd.ntmps5
    go_wp2_with (first
      | ((with_reducible refine at_op (some 7) (.box 23 (.tmp 0)) ?_); refine wpl_box (u8s ks) rfl hm ?_; clear hm; intro w1 g7 hm)
      | ((with_reducible refine at_op (some 8) (.box 30 (.tmp 1)) ?_); refine wpl_box (u8s ns) rfl hm ?_; clear hm; intro w2 g8 hm)
      | (go_at_call 9; refine (known5_any _ (Tab.mem HT.out hm (by simp)) (QTab.mem HQ.out hm (by simp))).mono ?_; rintro e wk ⟨rfl, hb⟩; replace hm := hm.call hb; clear hb))
    go_ret
    exact ⟨rfl, hm.below⟩
  have h1i : ¬ (200 : Int) < (m : Int) := by omega
  by_cases h2x : 200 < rl
  · have h2i : (200 : Int) < (rl : Int) := by omega
    clear ht hq hkl hnl hkb hnb hdb hmb hva hvp
    go_enter Tryd.func5, Tryd.ntmps5
    go_wp2_with (first
      | ((with_reducible refine at_op (some 7) (.box 23 (.tmp 0)) ?_); refine wpl_box (u8s ks) rfl hm ?_; clear hm; intro w1 g7 hm)
      | ((with_reducible refine at_op (some 8) (.box 30 (.tmp 1)) ?_); refine wpl_box (u8s ns) rfl hm ?_; clear hm; intro w2 g8 hm)
      | (go_at_call 9; refine (known5_any _ (Tab.mem HT.out hm (by simp)) (QTab.mem HQ.out hm (by simp))).mono ?_; rintro e wk ⟨rfl, hb⟩; replace hm := hm.call hb; clear hb))
    go_ret
    exact ⟨rfl, hm.below⟩
  have h2i : ¬ (200 : Int) < (rl : Int) := by omega
  omega
set_option maxRecDepth 100000 in
theorem sealTags_walk (ks ns ds ms : List Int) (rs : List Int) (va vp vr : Value) (a b : Int) (hkl : ks.length = 32) (hnl : ns.length = 12) (hkb : Bytes ks) (hnb : Bytes ns) (hdb : Bytes ds) (hmb : Bytes ms) (hrb : Bytes rs) (ha : 0 ≤ a ∧ a ≤ 255) (hb0 : 0 ≤ b ∧ b ≤ 255) (w : World) (ht : Tab w) (hq : QTab w) (hva : SlOld w va ds) (hvp : SlOld w vp ms) (hvr : SlOld w vr rs) :
    Calls Tryd.prog 5 #[.agg (u8s ks).toArray, .agg (u8s ns).toArray, va, vp, .int .u8 a, .int .u8 b, vr] w fun e w' => e = .returned (.bool true) ∧ Below w.heap.size w w' := by
  by_cases hfar : 100 < ds.length ∨ 200 < ms.length ∨ 200 < rs.length
  · exact sealTags_far ks ns ds ms rs va vp vr a b hkl hnl hkb hnb hdb hmb hfar w ht hq hva hvp hvr
  by_cases h16 : rs.length < 16
  · exact sealTags_short ks ns ds ms rs va vp vr a b hkl hnl hkb hnb hdb hmb hrb ha hb0 (by omega) (by omega) (by omega) h16 w ht hq hva hvp hvr
  obtain ⟨n, hn⟩ : ∃ n, rs.length = n + 16 := ⟨rs.length - 16, by omega⟩
  obtain ⟨b6, o6, c6, rfl, hcap, hseg⟩ := hvr.some (by omega)
  rw [hn] at hcap ⊢
  by_cases hf : rs.drop n = tagOf ks ns ds (rs.take n)
  · exact sealTags_good ks ns ds ms rs va vp b6 o6 c6 n a b hkl hnl hkb hnb hdb hmb hrb ha hb0 (by omega) (by omega) (by omega) hn hcap hf w ht hq hva hvp hseg
  · exact sealTags_bad ks ns ds ms rs va vp b6 o6 c6 n a b hkl hnl hkb hnb hdb hmb hrb ha hb0 (by omega) (by omega) (by omega) hn hcap hf w ht hq hva hvp hseg
end Go.Proofs.YtbfccepddfinoaaDoor
