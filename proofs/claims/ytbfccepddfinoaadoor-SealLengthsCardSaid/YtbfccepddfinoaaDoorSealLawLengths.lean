/- The walk of the law SealLengths. -/
import Derived.Test.YtbfccepddfinoaaDoorSealKnown
namespace Go.Proofs.YtbfccepddfinoaaDoor
open Go Go.RowKit
set_option maxRecDepth 100000 in
theorem bytes_set {X : List Int} (h : Bytes X) (i : Nat) {x : Int} (hx : 0 ≤ x ∧ x < 256) : Bytes (X.set i x) := by
  intro y hy
  rcases List.mem_or_eq_of_mem_set hy with h1 | h1
  · exact h y h1
  · rw [h1]; exact hx
set_option maxRecDepth 100000 in
theorem old_tail {w : World} {g c : Nat} {X : List Int} {r : List Value} {t : TypeId} (hr : Row w g (u8s X ++ r) t) (m k : Nat) (hX : X.length = m + k) (hc : k ≤ c) : SlOld w (.slice (some ⟨g, m, none⟩) k c) (X.drop m) := by
  have hl : (X.drop m).length = k := by rw [List.length_drop]; omega
  refine ⟨_, c, by rw [hl], by rw [hl]; exact hc, fun _ => ⟨g, m, rfl, ?_⟩⟩
  have := (seg_head hr).drop m
  rw [Nat.zero_add] at this
  exact this
set_option maxRecDepth 100000 in
theorem old_head {w : World} {g cap n : Nat} {X : List Int} {r : List Value} {t : TypeId} (hr : Row w g (u8s X ++ r) t) (hX : X.length = n) (hc : n ≤ cap) : SlOld w (.slice (some ⟨g, 0, none⟩) n cap) X := by
  subst hX
  exact ⟨_, cap, rfl, hc, fun _ => ⟨g, 0, rfl, seg_head hr⟩⟩
set_option maxRecDepth 100000 in
theorem old_segT {w : World} {b o cap : Nat} {X : List Int} (h : Seg w b o X) (n : Nat) (hX : n ≤ X.length) (hc : n ≤ cap) : SlOld w (.slice (some ⟨b, o, none⟩) n cap) (X.take n) := by
  have hl : (X.take n).length = n := by rw [List.length_take]; omega
  exact ⟨_, cap, by rw [hl], by rw [hl]; exact hc, fun _ => ⟨b, o, rfl, h.take n⟩⟩
set_option maxRecDepth 100000 in
theorem old_segD {w : World} {b o c : Nat} {X : List Int} (h : Seg w b o X) (n k : Nat) (hX : X.length = n + k) (hc : k ≤ c) : SlOld w (.slice (some ⟨b, o + n, none⟩) k c) (X.drop n) := by
  have hl : (X.drop n).length = k := by rw [List.length_drop]; omega
  exact ⟨_, c, by rw [hl], by rw [hl]; exact hc, fun _ => ⟨b, o + n, rfl, h.drop n⟩⟩
set_option maxRecDepth 100000 in
theorem code_turned (ks ns ds ms : List Int) (j m : Nat) (x b : Int) (hj : j < 16) (hml : ms.length = m) (hmb : Bytes ms) (hx : x = (sealOf ks ns ds ms).getD (m + j) 0) (hb : 0 ≤ b ∧ b ≤ 255) : (openCode ks ns ds ((sealOf ks ns ds ms).set (m + j) (bits .xor .u8 x b)) == 0) = (b == 0) := by
  have hxb : 0 ≤ x ∧ x < 256 := by rw [hx]; exact (sealOf_bytes ks ns ds hmb).get _
  have hf := fits_turned ks ns ds ms j (bits .xor .u8 x b) hj
  rw [hml, ← hx] at hf
  have hl : ((sealOf ks ns ds ms).set (m + j) (bits .xor .u8 x b)).length = m + 16 := by rw [List.length_set, sealOf_length, hml]
  unfold openCode
  rw [if_neg (by rw [hl]; omega), hf]
  by_cases hb0 : b = 0
  · subst hb0
    have e : bits .xor .u8 x 0 = x := (xor_same hxb (by omega)).2 rfl
    rw [e]
    simp
  · have e : ¬ x = bits .xor .u8 x b := fun e => hb0 ((xor_same hxb (by omega)).1 e.symm)
    rw [decide_eq_false e]
    simp [hb0]
set_option maxRecDepth 100000 in
theorem Mem.adoptO {w0 w : World} {S : List Nat} {rows : List (Nat × List Value × TypeId)} {e : TypeId} {v : Value} {zs : List Int} (hm : Mem w0 S w rows) (ho : OwnB e w w0.heap.size v zs) (hty : ∀ r ∈ rows, r.2.2 ≠ e) (h0 : 0 < zs.length) :
    ∃ g cap l, v = .slice (some ⟨g, 0, none⟩) zs.length cap ∧ zs.length ≤ cap ∧ Mem w0 S w ((g, u8s zs ++ l, e) :: rows) := by
  obtain ⟨g, cap, l, hv, hge, hr, hc⟩ := ho.row h0
  refine ⟨g, cap, l, hv, hc, hm.os, hm.tape, hm.output, hm.size, hm.block, ?_, ?_, ?_⟩
  · intro r hr'
    rcases List.mem_cons.1 hr' with rfl | hr'
    · exact hr
    · exact hm.row r hr'
  · simp only [List.map_cons, List.nodup_cons]
    refine ⟨fun hc => ?_, hm.nodup⟩
    obtain ⟨r, hr', he⟩ := List.mem_map.1 hc
    refine ho.apart (hm.row r hr') (hty r hr') ?_
    rw [hv, he]
    rfl
  · intro r hr'
    rcases List.mem_cons.1 hr' with rfl | hr'
    · exact Or.inr hge
    · exact hm.fresh r hr'
set_option maxRecDepth 100000 in
theorem seal_head (ks ns ds ms : List Int) (i : Nat) (h : i < ms.length) : (sealOf ks ns ds ms).getD i 0 = bits .xor .u8 (ms.getD i 0) (keyAt (encKey ks) ns 1 i) := by
  rw [sealOf, getD_append, if_pos (by rw [encOf_length]; exact h), encOf_get _ _ _ _ h]
set_option maxRecDepth 100000 in
theorem xor_inj {x y k : Int} (hx : 0 ≤ x ∧ x < 256) (hy : 0 ≤ y ∧ y < 256) (hk : 0 ≤ k ∧ k < 256) : bits .xor .u8 x k = bits .xor .u8 y k ↔ x = y := by
  constructor
  · intro h
    have h2 := congrArg (fun z => bits .xor .u8 z k) h
    simpa [xor_twice8 hx hk, xor_twice8 hy hk] using h2
  · intro h
    rw [h]
set_option maxRecDepth 100000 in
/-- Where the two sealed texts differ. -/
theorem seal_diff (ks ns ds ms : List Int) (j i : Nat) (b : Int) (hmb : Bytes ms) (hj : j < ms.length) (hi : i < ms.length) (hb : 0 ≤ b ∧ b ≤ 255) : bits .xor .u8 ((sealOf ks ns ds ms).getD i 0) ((sealOf ks ns ds (ms.set j (bits .xor .u8 (ms.getD j 0) b))).getD i 0) = 0 ↔ ¬ (i = j ∧ ¬ b = 0) := by
  have hk := keyAt_byte (encKey ks) ns 1 i
  have hx := hmb.get j
  have hy := byte_xor hx (show 0 ≤ b ∧ b < 256 by omega)
  have hsb : Bytes (ms.set j (bits .xor .u8 (ms.getD j 0) b)) := bytes_set hmb j hy
  rw [seal_head ks ns ds ms i hi, seal_head ks ns ds _ i (by rw [List.length_set]; exact hi), xor_nought (byte_xor (hmb.get i) hk) (byte_xor (hsb.get i) hk), xor_inj (hmb.get i) (hsb.get i) hk]
  by_cases hij : i = j
  · subst hij
    have e : (ms.set i (bits .xor .u8 (ms.getD i 0) b)).getD i 0 = bits .xor .u8 (ms.getD i 0) b := by simp [hi]
    rw [e]
    constructor
    · intro h hc
      exact hc.2 ((xor_same hx (by omega)).1 h.symm)
    · intro h
      have hb0 : b = 0 := Classical.byContradiction fun hn => h ⟨rfl, hn⟩
      exact ((xor_same hx (by omega)).2 hb0).symm
  · have e : (ms.set j (bits .xor .u8 (ms.getD j 0) b)).getD i 0 = ms.getD i 0 := by simp [Ne.symm hij]
    rw [e]
    simp [hij]
set_option maxHeartbeats 4000000 in
set_option maxRecDepth 100000 in
theorem sealLengths_walk (ks ns ds ms : List Int) (va vp : Value) (a b : Int) (hkl : ks.length = 32) (hnl : ns.length = 12) (hkb : Bytes ks) (hnb : Bytes ns) (hdb : Bytes ds) (hmb : Bytes ms) (ha : 0 ≤ a ∧ a ≤ 255) (hb0 : 0 ≤ b ∧ b ≤ 255) (w : World) (ht : Tab w) (hq : QTab w) (hva : SlOld w va ds) (hvp : SlOld w vp ms) :
    Calls Tryd.prog 8 #[.agg (u8s ks).toArray, .agg (u8s ns).toArray, va, vp, .int .u8 a, .int .u8 b] w fun e w' => e = .returned (.bool true) ∧ Below w.heap.size w w' := by
  have hm := Mem.start w
  have HT : Hid _ := ht
  have HQ : Hid _ := hq
  have HKL : Hid _ := hkl
  have HNL : Hid _ := hnl
  have HKB : Hid _ := hkb
  have HNB : Hid _ := hnb
  have HDB : Hid _ := hdb
  have HMB : Hid _ := hmb
  have HKU : Hid ((u8s ks).length = 32) := by show _ = _; rw [u8s_length]; exact hkl
  have HNU : Hid ((u8s ns).length = 12) := by show _ = _; rw [u8s_length]; exact hnl
  obtain ⟨m, hml⟩ : ∃ m, ms.length = m := ⟨_, rfl⟩
  obtain ⟨dl, hdl⟩ : ∃ dl, ds.length = dl := ⟨_, rfl⟩
  obtain ⟨pa, ca, hva1, _⟩ := hva.len
  obtain ⟨pp, cp, hvp1, _⟩ := hvp.len
  rw [hdl] at hva1
  rw [hml] at hvp1
  subst hva1 hvp1
  have HA : Hid (SlOld w (.slice pa dl ca) ds) := hva
  have HP : Hid (SlOld w (.slice pp m cp) ms) := hvp
  have HML : Hid (ms.length = m) := hml
  have HDL : Hid (ds.length = dl) := hdl
  by_cases h0x : 50 < dl
  · have h0i : (50 : Int) < (dl : Int) := by omega
    clear ht hq hkl hnl hkb hnb hdb hmb hva hvp
    go_enter Tryd.func8, Tryd.ntmps8
    go_wp2_with (first
      | ((with_reducible refine at_op (some 6) (.box 23 (.tmp 0)) ?_); refine wpl_box (u8s ks) rfl hm ?_; clear hm; intro w1 g6 hm)
      | ((with_reducible refine at_op (some 7) (.box 30 (.tmp 1)) ?_); refine wpl_box (u8s ns) rfl hm ?_; clear hm; intro w2 g7 hm)
      | (go_at_call 9; refine (known5_any _ (Tab.mem HT.out hm (by simp)) (QTab.mem HQ.out hm (by simp))).mono ?_; rintro e wk ⟨rfl, hb⟩; replace hm := hm.call hb; clear hb))
    go_ret
    exact ⟨rfl, hm.below⟩
  have h0i : ¬ (50 : Int) < (dl : Int) := by omega
  by_cases hz : m = 0
  · subst hz
    clear ht hq hkl hnl hkb hnb hdb hmb hva hvp
    go_enter Tryd.func8, Tryd.ntmps8
    go_wp2_with (first
      | ((with_reducible refine at_op (some 6) (.box 23 (.tmp 0)) ?_); refine wpl_box (u8s ks) rfl hm ?_; clear hm; intro w1 g6 hm)
      | ((with_reducible refine at_op (some 7) (.box 30 (.tmp 1)) ?_); refine wpl_box (u8s ns) rfl hm ?_; clear hm; intro w2 g7 hm)
      | (go_at_call 9; refine (known5_any _ (Tab.mem HT.out hm (by simp)) (QTab.mem HQ.out hm (by simp))).mono ?_; rintro e wk ⟨rfl, hb⟩; replace hm := hm.call hb; clear hb))
    go_ret
    exact ⟨rfl, hm.below⟩
  have hzi : ((m : Int) == 0) = false := by simp; omega
  have hzn : ¬ (m : Int) = 0 := by omega
  by_cases h0x : 150 < m
  · have h0i : (150 : Int) < (m : Int) := by omega
    clear ht hq hkl hnl hkb hnb hdb hmb hva hvp
    go_enter Tryd.func8, Tryd.ntmps8
    go_wp2_with (first
      | ((with_reducible refine at_op (some 6) (.box 23 (.tmp 0)) ?_); refine wpl_box (u8s ks) rfl hm ?_; clear hm; intro w1 g6 hm)
      | ((with_reducible refine at_op (some 7) (.box 30 (.tmp 1)) ?_); refine wpl_box (u8s ns) rfl hm ?_; clear hm; intro w2 g7 hm)
      | (go_at_call 9; refine (known5_any _ (Tab.mem HT.out hm (by simp)) (QTab.mem HQ.out hm (by simp))).mono ?_; rintro e wk ⟨rfl, hb⟩; replace hm := hm.call hb; clear hb))
    go_ret
    exact ⟨rfl, hm.below⟩
  have h0i : ¬ (150 : Int) < (m : Int) := by omega
  obtain ⟨X, hX⟩ : ∃ X, X = sealOf ks ns ds ms := ⟨_, rfl⟩
  have HXX : Hid (∀ _ : Unit, sealOf ks ns ds ms = X) := fun _ => hX.symm
  have hxl : X.length = m + 16 := by rw [hX, sealOf_length, hml]
  have HXL : Hid (X.length = m + 16) := hxl
  have HXU : Hid ((u8s X).length = m + 16) := by show _ = _; rw [u8s_length]; exact hxl
  have HXB : Hid (Bytes X) := by rw [hX]; exact sealOf_bytes _ _ _ hmb
  have hxt : X.take m = encOf ks ns ms := by have h := sealOf_take ks ns ds ms; rw [hml, ← hX] at h; exact h
  have hxd : X.drop m = tagOf ks ns ds (encOf ks ns ms) := by have h := sealOf_drop ks ns ds ms; rw [hml, ← hX] at h; exact h
  obtain ⟨j, hj, hja⟩ : ∃ j : Nat, j < m ∧ a % (m : Int) = (j : Int) := ⟨(a % (m : Int)).toNat, by have h1 := Int.emod_nonneg a hzn; have h2 := Int.emod_lt_of_pos a (show (0 : Int) < (m : Int) by omega); omega, by have h1 := Int.emod_nonneg a hzn; omega⟩
  have hat : a.tmod (m : Int) = (j : Int) := by rw [Int.tmod_eq_emod_of_nonneg ha.1]; exact hja
  obtain ⟨x, hx⟩ : ∃ x, x = ms.getD j 0 := ⟨_, rfl⟩
  have HVX : Hid (∀ l : List Value, (u8s ms ++ l)[j]? = some (.int .u8 x)) := fun l => by rw [List.getElem?_append_left (by rw [u8s_length]; omega), u8s_get _ _ (by omega), hx]
  have hxb : 0 ≤ x ∧ x < 256 := by rw [hx]; exact hmb.get _
  obtain ⟨y, hy⟩ : ∃ y, y = bits .xor .u8 x b := ⟨_, rfl⟩
  have HXY : Hid (∀ _ : Unit, bits .xor .u8 x b = y) := fun _ => hy.symm
  have hyb : 0 ≤ y ∧ y < 256 := by rw [hy]; exact byte_xor hxb (by omega)
  obtain ⟨Q, hQ⟩ : ∃ Q, Q = ms.set j y := ⟨_, rfl⟩
  have HST : Hid (∀ l : List Value, (u8s ms ++ l).set j (.int .u8 y) = u8s Q ++ l) := fun l => by rw [List.set_append_left _ _ (by rw [u8s_length]; omega), u8s_set, hQ]
  have HQL : Hid (Q.length = m) := by show _ = _; rw [hQ, List.length_set, hml]
  have HQB : Hid (Bytes Q) := by rw [hQ]; exact bytes_set hmb _ hyb
  have HMU : Hid ((u8s ms).length = m) := by show _ = _; rw [u8s_length]; exact hml
  obtain ⟨Bs, hBs⟩ : ∃ Bs, Bs = sealOf ks ns ds Q := ⟨_, rfl⟩
  have HBB : Hid (∀ _ : Unit, sealOf ks ns ds Q = Bs) := fun _ => hBs.symm
  have HBL : Hid (Bs.length = m + 16) := by show _ = _; rw [hBs, sealOf_length, HQL.out]
  have HBU : Hid ((u8s Bs).length = m + 16) := by show _ = _; rw [u8s_length]; exact HBL.out
  have HDF : Hid (∀ i, i < m → (bits .xor .u8 (X.getD i 0) (Bs.getD i 0) = 0 ↔ ¬ (i = j ∧ ¬ b = 0))) := fun i hi => by
    have h := seal_diff ks ns ds ms j i b hmb (by omega) (by omega) hb0
    rw [hX, hBs, hQ, hy, hx]
    exact h
  have hty : ∀ (a b : Nat), ∀ r ∈ [(a, u8s ns, (30 : TypeId)), (b, u8s ks, (23 : TypeId))], r.2.2 ≠ 5 := by
    intro a b r hr
    simp only [List.mem_cons, List.not_mem_nil, or_false] at hr
    rcases hr with rfl | rfl <;> simp
  have HTY : Hid _ := hty
  obtain ⟨ha0, ha1⟩ := ha
  obtain ⟨hb1, hb2⟩ := hb0
  clear ht hq hkl hnl hkb hnb hdb hmb hva hvp hX hxl hxt hxd hja hx hxb hy hyb hQ hBs hty hml hdl
  go_enter Tryd.func8, Tryd.ntmps8
  go_wp2_with (first
    | ((with_reducible refine at_op (some 6) (.box 23 (.tmp 0)) ?_); refine wpl_box (u8s ks) rfl hm ?_; clear hm; intro w1 g6 hm)
    | ((with_reducible refine at_op (some 7) (.box 30 (.tmp 1)) ?_); refine wpl_box (u8s ns) rfl hm ?_; clear hm; intro w2 g7 hm)
    | (go_at_call 9; refine (known5_any _ (Tab.mem HT.out hm (by simp)) (QTab.mem HQ.out hm (by simp))).mono ?_; rintro e wk ⟨rfl, hb⟩; replace hm := hm.call hb; clear hb)
    | ((with_reducible refine at_op (some 34) (.call { callee := .builtin .append, args := #[.const (.slice none 0 0), .tmp 33], argTypes := #[26, 26] }) ?_); go_must (refine wpl_app rfl un_bs made_u8 ms hm (OwnB.nil _ _ _) (HTY.out _ _) rfl rfl HML.out.symm (SlOld.mem HP.out hm).src0.2.2 (by rw [HML.out]; simp; omega) ?_); clear hm; intro v13 w4 ho hm; obtain ⟨gq, cq, lq, hvq, hcq, hm2⟩ := Mem.adoptO hm ho (HTY.out _ _) (by rw [List.nil_append, HML.out]; omega); rw [List.nil_append, HML.out] at hvq hcq; subst hvq; replace hm := hm2; clear hm2 ho; rw [List.nil_append] at hm)
    | ((with_reducible refine at_op (some 43) (.load 5 (.tmp 42)) ?_); refine wpl_ldc 0 j (.int .u8 x) hm rfl rfl ag_u8 (HVX.out _) ?_)
    | ((with_reducible refine at_op none (.store 5 (.tmp 46) (.tmp 45)) ?_); go_must (refine wpl_stc 0 j (.int .u8 y) hm rfl rfl (by rw [← HXY.out ()]; rfl) sz_u8 (by rw [List.length_append, HMU.out]; omega) rfl rfl ?_); clear hm; intro w5 hm; replace hm : Mem w [] w5 [(gq, u8s Q ++ lq, 5), (g7, u8s ns, 30), (g6, u8s ks, 23)] := (by rw [HST.out] at hm; exact hm)))
  refine wp_ends0 ?_
  refine anyH_start (T := fun W => Mem w [] W [(gq, u8s Q ++ lq, 5), (g7, u8s ns, 30), (g6, u8s ks, 23)]) (by kernel_rfl) hm ?_
  clear hm
  intro w6 hm
  refine anyH_takeG 0 (v := .agg (u8s ks).toArray) rfl (by kernel_rfl) (by kernel_rfl) (by kernel_rfl) rfl (fun W hW => exec_ldsG 0 _ (Mem.get hW 2 rfl) rfl _ un_key rfl 32 sz_key (by rw [HKU.out]; omega) (by rw [List.drop_zero, List.take_of_length_le (Nat.le_of_eq HKU.out)])) hm ?_
  go_simp
  refine anyH_takeG 1 (v := .agg (u8s ns).toArray) rfl (by kernel_rfl) (by kernel_rfl) (by kernel_rfl) rfl (fun W hW => exec_ldsG 0 _ (Mem.get hW 1 rfl) rfl _ un_nce rfl 12 sz_nce (by rw [HNU.out]; omega) (by rw [List.drop_zero, List.take_of_length_le (Nat.le_of_eq HNU.out)])) hm ?_
  go_simp
  refine anyH_takeG 2 (v := .slice pa dl ca) rfl (by kernel_rfl) (by kernel_rfl) (by kernel_rfl) rfl (fun W _ => by go_simp) hm ?_
  go_simp
  refine anyH_takeG 3 (v := .slice pp m cp) rfl (by kernel_rfl) (by kernel_rfl) (by kernel_rfl) rfl (fun W _ => by go_simp) hm ?_
  go_simp
  refine anyH_takeG 5 (v := .agg (u8s ks).toArray) rfl (by kernel_rfl) (by kernel_rfl) (by kernel_rfl) rfl (fun W hW => exec_ldsG 0 _ (Mem.get hW 2 rfl) rfl _ un_key rfl 32 sz_key (by rw [HKU.out]; omega) (by rw [List.drop_zero, List.take_of_length_le (Nat.le_of_eq HKU.out)])) hm ?_
  go_simp
  refine anyH_takeG 6 (v := .agg (u8s ns).toArray) rfl (by kernel_rfl) (by kernel_rfl) (by kernel_rfl) rfl (fun W hW => exec_ldsG 0 _ (Mem.get hW 1 rfl) rfl _ un_nce rfl 12 sz_nce (by rw [HNU.out]; omega) (by rw [List.drop_zero, List.take_of_length_le (Nat.le_of_eq HNU.out)])) hm ?_
  go_simp
  refine anyH_takeG 7 (v := .slice pa dl ca) rfl (by kernel_rfl) (by kernel_rfl) (by kernel_rfl) rfl (fun W _ => by go_simp) hm ?_
  go_simp
  refine anyH_takeG 8 (v := .slice (some ⟨gq, 0, none⟩) m cq) rfl (by kernel_rfl) (by kernel_rfl) (by kernel_rfl) rfl (fun W _ => by go_simp) hm ?_
  go_simp
  refine wpAnyH_all (rs := [4]) (by kernel_rfl) (by simp) ?_
  intro i hi
  simp only [List.mem_cons, List.not_mem_nil, or_false] at hi
  subst hi
  refine anyH_op 4 rfl rfl ?_
  intro K hK
  go_wp2_with (go_at_call 18; refine (seal_any ks ns ds ms _ _ HKL.out HNL.out HKB.out HNB.out HDB.out HMB.out (by rw [HDL.out]; omega) (by rw [HML.out]; omega) _ (Tab.mem HT.out hm (by simp)) (QTab.mem HQ.out hm (by simp)) (SlOld.mem HA.out hm) (SlOld.mem HP.out hm)).mono ?_; rintro e w7 ⟨ga, cpa, la, he, hcpa, hge, hr, hb⟩; rw [HML.out] at he hcpa; subst he; rw [HXX.out ()] at hr; replace hm := hm.callNew hb hr hge; clear hb hr hge)
  refine hK _ _ hm.tail ?_
  clear hK K
  refine wpAnyH_all (rs := [9]) (by kernel_rfl) (by simp) ?_
  intro i hi
  simp only [List.mem_cons, List.not_mem_nil, or_false] at hi
  subst hi
  refine anyH_op 9 rfl rfl ?_
  intro K hK
  go_wp2_with (go_at_call 18; refine (seal_any ks ns ds Q _ _ HKL.out HNL.out HKB.out HNB.out HDB.out HQB.out (by rw [HDL.out]; omega) (by rw [HQL.out]; omega) _ (Tab.mem HT.out hm (by simp)) (QTab.mem HQ.out hm (by simp)) (SlOld.mem HA.out hm) (old_head (hm.get 1 rfl) HQL.out hcq)).mono ?_; rintro e w8 ⟨gb, cpb, lb, he, hcpb, hge, hr, hb⟩; rw [HQL.out] at he hcpb; subst he; rw [HBB.out ()] at hr; replace hm := hm.callNew hb hr hge; clear hb hr hge)
  refine hK _ _ hm.tail.tail ?_
  clear hK K
  refine anyH_takeG 10 (v := .slice (some ⟨ga, 0, none⟩) (m + 16) cpa) rfl (by kernel_rfl) (by kernel_rfl) (by kernel_rfl) rfl (fun W _ => by go_simp) hm.tail.tail ?_
  go_simp
  refine anyH_takeG 11 (v := .slice (some ⟨gb, 0, none⟩) (m + 16) cpb) rfl (by kernel_rfl) (by kernel_rfl) (by kernel_rfl) rfl (fun W _ => by go_simp) hm.tail.tail ?_
  go_simp
  refine wpAnyH_done (by kernel_rfl) ?_ _
  simp only [endsIn]
  go_wp2_with fail
  go_loopw [17] (fun vi wr => ∃ i : Nat, i ≤ m ∧ vi = .int .i64 i ∧ Mem w [] wr [(gb, u8s Bs ++ lb, 5), (ga, u8s X ++ la, 5), (gq, u8s Q ++ lq, 5), (g7, u8s ns, 30), (g6, u8s ks, 23)]) (fun vi _ => m - (intOf vi).toNat)
  case atStart => exact ⟨0, by omega, rfl, hm⟩
  case round =>
    clear hm
    obtain ⟨i, hi, rfl, hm⟩ := hrel
    by_cases hlt : i < m
    · have hii : (i : Int) < (m : Int) := by omega
      obtain ⟨xi, hxi⟩ : ∃ xi, xi = X.getD i 0 := ⟨_, rfl⟩
      obtain ⟨yi, hyi⟩ : ∃ yi, yi = Bs.getD i 0 := ⟨_, rfl⟩
      have HV1 : Hid ((u8s X ++ la)[i]? = some (.int .u8 xi)) := by show _ = _; rw [List.getElem?_append_left (by rw [HXU.out]; omega), u8s_get _ _ (by rw [HXL.out]; omega), hxi]
      have HV2 : Hid ((u8s Bs ++ lb)[i]? = some (.int .u8 yi)) := by show _ = _; rw [List.getElem?_append_left (by rw [HBU.out]; omega), u8s_get _ _ (by rw [HBL.out]; omega), hyi]
      obtain ⟨z, hz⟩ : ∃ z, z = bits .xor .u8 xi yi := ⟨_, rfl⟩
      have HZ : Hid (∀ _ : Unit, bits .xor .u8 xi yi = z) := fun _ => hz.symm
      have hzz : z = 0 ↔ ¬ (i = j ∧ ¬ b = 0) := by rw [hz, hxi, hyi]; exact HDF.out i hlt
      by_cases hij : i = j
      · have hije : ((i : Int) == (j : Int)) = true := by simp [hij]
        have hzb : (z == 0) = (b == 0) := by
          by_cases hb9 : b = 0
          · have : z = 0 := hzz.2 (fun h => h.2 hb9)
            rw [this, hb9]
          · have : ¬ z = 0 := fun h => hzz.1 h ⟨hij, hb9⟩
            rw [beq_eq_false_iff_ne.2 this, beq_eq_false_iff_ne.2 hb9]
        have HZB : Hid _ := hzb
        have HIJ : Hid _ := hije
        clear hxi hyi hz hzz hzb hije hij
        go_wp2_with fail
        refine wp_ends0 ?_
        refine anyH_start (T := fun W => Mem w [] W [(gb, u8s Bs ++ lb, 5), (ga, u8s X ++ la, 5), (gq, u8s Q ++ lq, 5), (g7, u8s ns, 30), (g6, u8s ks, 23)]) (by kernel_rfl) hm ?_
        clear hm
        intro w9 hm
        refine anyH_takeG 0 (v := .slice (some ⟨ga, 0, none⟩) (m + 16) cpa) rfl (by kernel_rfl) (by kernel_rfl) (by kernel_rfl) rfl (fun W _ => by go_simp) hm ?_
        go_simp
        refine anyH_takeG 1 (v := .int .i64 (i : Int)) rfl (by kernel_rfl) (by kernel_rfl) (by kernel_rfl) rfl (fun W _ => by go_simp) hm ?_
        go_simp
        refine anyH_takeG 2 (v := .pointer (some ⟨ga, i, none⟩)) rfl (by kernel_rfl) (by kernel_rfl) (by kernel_rfl) rfl (fun W _ => by go_simp; intro h; omega) hm ?_
        go_simp
        refine anyH_takeG 3 (v := .int .u8 xi) rfl (by kernel_rfl) (by kernel_rfl) (by kernel_rfl) rfl (fun W hW => exec_ldrG i (.int .u8 xi) (Mem.get hW 1 rfl) rfl ag_u8 HV1.out) hm ?_
        go_simp
        refine anyH_takeG 4 (v := .slice (some ⟨gb, 0, none⟩) (m + 16) cpb) rfl (by kernel_rfl) (by kernel_rfl) (by kernel_rfl) rfl (fun W _ => by go_simp) hm ?_
        go_simp
        refine anyH_takeG 5 (v := .int .i64 (i : Int)) rfl (by kernel_rfl) (by kernel_rfl) (by kernel_rfl) rfl (fun W _ => by go_simp) hm ?_
        go_simp
        refine anyH_takeG 6 (v := .pointer (some ⟨gb, i, none⟩)) rfl (by kernel_rfl) (by kernel_rfl) (by kernel_rfl) rfl (fun W _ => by go_simp; intro h; omega) hm ?_
        go_simp
        refine anyH_takeG 7 (v := .int .u8 yi) rfl (by kernel_rfl) (by kernel_rfl) (by kernel_rfl) rfl (fun W hW => exec_ldrG i (.int .u8 yi) (Mem.get hW 0 rfl) rfl ag_u8 HV2.out) hm ?_
        go_simp
        refine anyH_takeG 8 (v := .int .u8 z) rfl (by kernel_rfl) (by kernel_rfl) (by kernel_rfl) rfl (fun W _ => by go_simp; exact HZ.out ()) hm ?_
        go_simp
        refine anyH_takeG 9 (v := .bool (!(b == 0))) rfl (by kernel_rfl) (by kernel_rfl) (by kernel_rfl) rfl (fun W _ => by go_simp; rw [← HZB.out]; first | rfl | simp) hm ?_
        go_simp
        refine anyH_takeG 10 (v := .int .i64 (i : Int)) rfl (by kernel_rfl) (by kernel_rfl) (by kernel_rfl) rfl (fun W _ => by go_simp) hm ?_
        go_simp
        refine anyH_takeG 11 (v := .int .i64 (j : Int)) rfl (by kernel_rfl) (by kernel_rfl) (by kernel_rfl) rfl (fun W _ => by go_simp) hm ?_
        go_simp
        refine anyH_takeG 12 (v := .bool true) rfl (by kernel_rfl) (by kernel_rfl) (by kernel_rfl) rfl (fun W _ => by go_simp; first | exact HIJ.out | (have h := HIJ.out; simpa using h)) hm ?_
        go_simp
        refine anyH_takeG 13 (v := .bool true) rfl (by kernel_rfl) (by kernel_rfl) (by kernel_rfl) rfl (fun W _ => by go_simp) hm ?_
        go_simp
        refine anyH_takeG 14 (v := .int .u8 b) rfl (by kernel_rfl) (by kernel_rfl) (by kernel_rfl) rfl (fun W _ => by go_simp) hm ?_
        go_simp
        refine anyH_takeG 15 (v := .bool (!(b == 0))) rfl (by kernel_rfl) (by kernel_rfl) (by kernel_rfl) rfl (fun W _ => by go_simp; first | rfl | simp) hm ?_
        go_simp
        refine anyH_takeG 16 (v := .bool (!(b == 0))) rfl (by kernel_rfl) (by kernel_rfl) (by kernel_rfl) rfl (fun W _ => by go_simp) hm ?_
        go_simp
        refine anyH_takeG 17 (v := .bool false) rfl (by kernel_rfl) (by kernel_rfl) (by kernel_rfl) rfl (fun W _ => by go_simp) hm ?_
        go_simp
        refine wpAnyH_done (by kernel_rfl) ?_ _
        simp only [endsIn]
        go_wp2_with fail
        go_roundw
        case rel => exact ⟨i + 1, by omega, by go_num, hm⟩
        case measure => simp [intOf]; omega
      · have hije : ((i : Int) == (j : Int)) = false := by simp; omega
        have hzb : (z == 0) = true := by
          have : z = 0 := hzz.2 (fun h => hij h.1)
          rw [this]
          rfl
        have HZB : Hid _ := hzb
        have HIJ : Hid _ := hije
        clear hxi hyi hz hzz hzb hije hij
        go_wp2_with fail
        refine wp_ends0 ?_
        refine anyH_start (T := fun W => Mem w [] W [(gb, u8s Bs ++ lb, 5), (ga, u8s X ++ la, 5), (gq, u8s Q ++ lq, 5), (g7, u8s ns, 30), (g6, u8s ks, 23)]) (by kernel_rfl) hm ?_
        clear hm
        intro w9 hm
        refine anyH_takeG 0 (v := .slice (some ⟨ga, 0, none⟩) (m + 16) cpa) rfl (by kernel_rfl) (by kernel_rfl) (by kernel_rfl) rfl (fun W _ => by go_simp) hm ?_
        go_simp
        refine anyH_takeG 1 (v := .int .i64 (i : Int)) rfl (by kernel_rfl) (by kernel_rfl) (by kernel_rfl) rfl (fun W _ => by go_simp) hm ?_
        go_simp
        refine anyH_takeG 2 (v := .pointer (some ⟨ga, i, none⟩)) rfl (by kernel_rfl) (by kernel_rfl) (by kernel_rfl) rfl (fun W _ => by go_simp; intro h; omega) hm ?_
        go_simp
        refine anyH_takeG 3 (v := .int .u8 xi) rfl (by kernel_rfl) (by kernel_rfl) (by kernel_rfl) rfl (fun W hW => exec_ldrG i (.int .u8 xi) (Mem.get hW 1 rfl) rfl ag_u8 HV1.out) hm ?_
        go_simp
        refine anyH_takeG 4 (v := .slice (some ⟨gb, 0, none⟩) (m + 16) cpb) rfl (by kernel_rfl) (by kernel_rfl) (by kernel_rfl) rfl (fun W _ => by go_simp) hm ?_
        go_simp
        refine anyH_takeG 5 (v := .int .i64 (i : Int)) rfl (by kernel_rfl) (by kernel_rfl) (by kernel_rfl) rfl (fun W _ => by go_simp) hm ?_
        go_simp
        refine anyH_takeG 6 (v := .pointer (some ⟨gb, i, none⟩)) rfl (by kernel_rfl) (by kernel_rfl) (by kernel_rfl) rfl (fun W _ => by go_simp; intro h; omega) hm ?_
        go_simp
        refine anyH_takeG 7 (v := .int .u8 yi) rfl (by kernel_rfl) (by kernel_rfl) (by kernel_rfl) rfl (fun W hW => exec_ldrG i (.int .u8 yi) (Mem.get hW 0 rfl) rfl ag_u8 HV2.out) hm ?_
        go_simp
        refine anyH_takeG 8 (v := .int .u8 z) rfl (by kernel_rfl) (by kernel_rfl) (by kernel_rfl) rfl (fun W _ => by go_simp; exact HZ.out ()) hm ?_
        go_simp
        refine anyH_takeG 9 (v := .bool false) rfl (by kernel_rfl) (by kernel_rfl) (by kernel_rfl) rfl (fun W _ => by go_simp; first | exact HZB.out | (have h := HZB.out; simpa using h)) hm ?_
        go_simp
        refine anyH_takeG 10 (v := .int .i64 (i : Int)) rfl (by kernel_rfl) (by kernel_rfl) (by kernel_rfl) rfl (fun W _ => by go_simp) hm ?_
        go_simp
        refine anyH_takeG 11 (v := .int .i64 (j : Int)) rfl (by kernel_rfl) (by kernel_rfl) (by kernel_rfl) rfl (fun W _ => by go_simp) hm ?_
        go_simp
        refine anyH_takeG 12 (v := .bool false) rfl (by kernel_rfl) (by kernel_rfl) (by kernel_rfl) rfl (fun W _ => by go_simp; first | exact HIJ.out | (have h := HIJ.out; simpa using h)) hm ?_
        go_simp
        refine anyH_takeG 13 (v := .bool false) rfl (by kernel_rfl) (by kernel_rfl) (by kernel_rfl) rfl (fun W _ => by go_simp) hm ?_
        go_simp
        refine anyH_skip 14 rfl (by kernel_rfl) (by kernel_rfl) (by kernel_rfl) rfl hm ?_
        go_simp
        refine anyH_skip 15 rfl (by kernel_rfl) (by kernel_rfl) (by kernel_rfl) rfl hm ?_
        go_simp
        refine anyH_takeG 16 (v := .bool false) rfl (by kernel_rfl) (by kernel_rfl) (by kernel_rfl) rfl (fun W _ => by go_simp) hm ?_
        go_simp
        refine anyH_takeG 17 (v := .bool false) rfl (by kernel_rfl) (by kernel_rfl) (by kernel_rfl) rfl (fun W _ => by go_simp) hm ?_
        go_simp
        refine wpAnyH_done (by kernel_rfl) ?_ _
        simp only [endsIn]
        go_wp2_with fail
        go_roundw
        case rel => exact ⟨i + 1, by omega, by go_num, hm⟩
        case measure => simp [intOf]; omega
    · have him : i = m := by omega
      subst him
      go_wp2_with fail
      go_ret
      exact ⟨rfl, hm.below⟩
end Go.Proofs.YtbfccepddfinoaaDoor
