/- Places of texts; how many segments they have, which, their text, what is above. -/
import Derived.Test.YtikmmheknfljkaaDoorPaPlace
namespace Go.Proofs.YtikmmheknfljkaaDoor
open Go Go.RowKit
set_option maxRecDepth 100000 in
theorem eqs_no {a b : ByteArray} (h : a ≠ b) : (a == b) = false := by
  cases hc : (a == b) with
  | false => rfl
  | true =>
    refine absurd ?_ h
    rw [beq_toListBytes, beq_iff_eq, ByteArray.toList_eq, ByteArray.toList_eq] at hc
    exact bs_inj hc
set_option maxRecDepth 100000 in
theorem eqs_yes (a : ByteArray) : (a == a) = true := beq_self_str a
set_option maxRecDepth 100000 in
theorem eqs_is (a b : ByteArray) : (a == b) = decide (a = b) := by
  by_cases h : a = b
  · subst h; rw [eqs_yes]; simp
  · rw [eqs_no h]; simp [h]
def segsB (s : ByteArray) : List ByteArray := (segsOf (bs s)).map mkS
set_option maxRecDepth 100000 in
theorem segsB_bs (s : ByteArray) : (segsB s).map bs = segsOf (bs s) := map_bs_mkS _
set_option maxRecDepth 100000 in
theorem segsB_ok (s : ByteArray) : PlOk (segsB s) := PlOk.of (by rw [segsB_bs]; exact segsOf_ok _)
set_option maxHeartbeats 1000000 in
set_option maxRecDepth 100000 in
theorem parts_any (c : UInt8) (s : ByteArray) (w : World) (hs : s.size ≤ 1000) (hM : MaxL w) :
    Calls Tryd.prog 33 #[.string s, .string ⟨#[c]⟩] w fun e w' => ∃ v, e = .returned v ∧ SlS w' v (Lib.splitB (mkS [c]) 0 (min 4 (s.size + 1) - 1) s) ∧ Below w.heap.size w w' := by
  go_enter Tryd.func33, Tryd.ntmps33
  go_wp2_with (first | (go_at_call 43; refine (splitn_any c s _ hs hM).mono ?_; rintro e w' ⟨v, he, hv, hb⟩; subst he; have HV : Hid (SlS w' v (Lib.splitB (mkS [c]) 0 (min 4 (s.size + 1) - 1) s)) := hv; clear hv))
  go_ret
  exact ⟨_, rfl, HV.out, hb⟩
set_option maxHeartbeats 1000000 in
set_option maxRecDepth 100000 in
theorem placeOf_any (s : ByteArray) (w : World) (hs : s.size ≤ 1000) (hM : MaxL w) :
    Calls Tryd.prog 27 #[.string s] w fun e w' => e = .returned (.tuple #[.agg (plv (segsB s)).toArray, .bool (isP (bs s))]) ∧ Below w.heap.size w w' := by
  have hm := Mem.start w
  have HM : Hid (MaxL w) := hM
  clear hM
  by_cases h0 : s = ⟨#[]⟩
  · subst h0
    go_enter Tryd.func27, Tryd.ntmps27
    go_wp2_with (first
      | ((with_reducible refine at_op (some 2) (.alloc 42) ?_); refine wpl_alloc _ zero_pl hm ?_; clear hm; intro w1 g1 hm)
      | ((with_reducible refine at_op (some 5) (.binOp .eql 9 (.tmp 4) (.const (.string { data := #[] })) 9) ?_); go_must (refine wpl_execG (.bool true) rfl (exec_eqsB ⟨#[]⟩ ⟨#[]⟩ true rfl rfl (eqs_yes _)) ?_))
      | (go_at_call 28; refine (root_any _).mono ?_; rintro e w' ⟨he, hb⟩; subst he; replace hm := hm.call hb; clear hb)
      | ((with_reducible refine at_op none (.store 42 (.tmp 2) (.tmp 6)) ?_); refine wpl_stw 0 (plv []) hm rfl rfl rfl 3 sz_pl rfl rfl (by intro v hv; simp [plv] at hv; rcases hv with rfl | rfl | rfl <;> rfl) ?_; clear hm; intro w2 hm))
    refine ret_ct 0 (.bool true) hm rfl Tryd.results27 rfl rfl _ un_pl rfl 3 sz_pl rfl rfl ?_
    exact ⟨rfl, hm.below⟩
  · have HE : Hid (∀ _ : Unit, ¬ s = ⟨#[]⟩) := fun _ => h0
    clear h0
    obtain ⟨X, hX⟩ : ∃ X, X = Lib.splitB (mkS [47]) 0 (min 4 (s.size + 1) - 1) s := ⟨_, rfl⟩
    have HP : Hid (∀ _ : Unit, (plOf X = segsB s ∧ okSegs (X.map bs) = isP (bs s))) := fun _ => by
      have hne : bs s ≠ [] := fun h => HE.out () (by rw [← mkS_bs s, h]; rfl)
      have hemp : (bs s).isEmpty = false := by
        cases h : bs s with
        | nil => exact absurd h hne
        | cons _ _ => rfl
      obtain ⟨p1, p2⟩ := parts_ok 47 s
      rw [← hX] at p1 p2
      have e2 : okSegs (X.map bs) = isP (bs s) := by rw [p1, isP, hemp, Bool.false_or]
      refine ⟨?_, e2⟩
      unfold plOf segsB
      cases hok : okSegs (X.map bs) with
      | false =>
        rw [hok] at e2
        rw [segsOf_no e2.symm]; rfl
      | true =>
        rw [hok] at e2 p1
        rw [segsOf_path e2.symm hne, ← p2 p1.symm, map_mkS_bs]; rfl
    have HX : Hid (∀ _ : Unit, X = Lib.splitB (mkS [47]) 0 (min 4 (s.size + 1) - 1) s) := fun _ => hX
    clear hX
    go_enter Tryd.func27, Tryd.ntmps27
    go_wp2_with (first
      | ((with_reducible refine at_op (some 2) (.alloc 42) ?_); refine wpl_alloc _ zero_pl hm ?_; clear hm; intro w1 g1 hm)
      | ((with_reducible refine at_op (some 5) (.binOp .eql 9 (.tmp 4) (.const (.string { data := #[] })) 9) ?_); go_must (refine wpl_execG (.bool false) rfl (exec_eqsB s ⟨#[]⟩ false rfl rfl (eqs_no (HE.out ()))) ?_))
      | (go_at_call 33; refine (parts_any 47 s _ hs (HM.out.below hm.below)).mono ?_; rintro e w' ⟨v, he, hv, hb⟩; subst he; rw [← HX.out ()] at hv; have HV : Hid (SlS w' v X) := hv; clear hv; replace hm := hm.call hb; clear hb)
      | (go_at_call 32; refine (placeAt_any X _ _ HV.out).mono ?_; rintro e w' ⟨he, hb⟩; rw [(HP.out ()).1, (HP.out ()).2] at he; subst he; replace hm := hm.call hb; clear hb)
      | ((with_reducible refine at_op none (.store 42 (.tmp 2) (.tmp 10)) ?_); refine wpl_stw 0 (plv (segsB s)) hm rfl rfl rfl 3 sz_pl rfl rfl (by intro v hv; simp [plv] at hv; rcases hv with rfl | rfl | rfl <;> rfl) ?_; clear hm; intro w2 hm))
    refine ret_ct 0 (.bool (isP (bs s))) hm rfl Tryd.results27 rfl rfl _ un_pl rfl 3 sz_pl rfl rfl ?_
    exact ⟨rfl, hm.below⟩
set_option maxHeartbeats 1000000 in
set_option maxRecDepth 100000 in
theorem depth_any {ks : List ByteArray} (h : PlOk ks) (w : World) :
    Calls Tryd.prog 39 #[.agg (plv ks).toArray] w fun e w' => e = .returned (.int .i64 (ks.length : Int)) ∧ Below w.heap.size w w' := by
  have hm := Mem.start w
  have HK : Hid (∀ _ : Unit, PlOk ks) := fun _ => h
  obtain ⟨n, hn⟩ : ∃ n, n = ks.length := ⟨_, rfl⟩
  have hn3 : n ≤ 3 := by rw [hn]; exact h.len
  rw [← hn]
  have HN : Hid (∀ _ : Unit, n = ks.length) := fun _ => hn
  clear h hn
  by_cases h3 : n = 3
  · have HI : Hid (∀ _ : Unit, (if ks.length = 3 then (-1 : Int) else (ks.length : Int)) = -1) := fun _ => by rw [← HN.out (), if_pos h3]
    subst h3
    go_enter Tryd.func39, Tryd.ntmps39
    go_wp2_with (first
      | ((with_reducible refine at_op (some 1) (.box 42 (.tmp 0)) ?_); refine wpl_box (plv ks) rfl hm ?_; clear hm; intro w1 g1 hm)
      | ((with_reducible refine at_op (some 4) (.slice 42 (.tmp 1) none none none) ?_); refine wpl_sla 3 un_pl sz_str 0 3 (by omega) (by omega) rfl (Or.inr ⟨rfl, rfl⟩) (Or.inr ⟨rfl, rfl⟩) ?_)
      | (go_at_call 45; refine (idx_any (HK.out ()) _ (hm.get 0 rfl)).mono ?_; rintro e w' ⟨he, hw⟩; rw [HI.out ()] at he; subst he; subst hw))
    go_ret
    exact ⟨rfl, hm.below⟩
  · have HI : Hid (∀ _ : Unit, (if ks.length = 3 then (-1 : Int) else (ks.length : Int)) = (n : Int)) := fun _ => by rw [← HN.out (), if_neg h3]
    have hneg : ¬ (n : Int) < 0 := by omega
    go_enter Tryd.func39, Tryd.ntmps39
    go_wp2_with (first
      | ((with_reducible refine at_op (some 1) (.box 42 (.tmp 0)) ?_); refine wpl_box (plv ks) rfl hm ?_; clear hm; intro w1 g1 hm)
      | ((with_reducible refine at_op (some 4) (.slice 42 (.tmp 1) none none none) ?_); refine wpl_sla 3 un_pl sz_str 0 3 (by omega) (by omega) rfl (Or.inr ⟨rfl, rfl⟩) (Or.inr ⟨rfl, rfl⟩) ?_)
      | (go_at_call 45; refine (idx_any (HK.out ()) _ (hm.get 0 rfl)).mono ?_; rintro e w' ⟨he, hw⟩; rw [HI.out ()] at he; subst he; subst hw))
    go_ret
    exact ⟨rfl, hm.below⟩
set_option maxRecDepth 100000 in
theorem own_base {w : World} {B B' : Nat} {e : TypeId} {K : Nat} {v : Value} {n : Nat} {cs : List Value} (hB : B' ≤ B) (h : w.ownsRow B e K v n cs) : w.ownsRow B' e K v n cs := by
  obtain ⟨hl, h2⟩ := h
  refine ⟨hl, ?_⟩
  rcases h2 with h3 | ⟨g, cap, cur, hv, hb, r⟩
  · exact Or.inl h3
  · exact Or.inr ⟨g, cap, cur, hv, Nat.le_trans hB hb, r⟩
set_option maxHeartbeats 1000000 in
set_option maxRecDepth 100000 in
theorem segments_any {ks : List ByteArray} (h : PlOk ks) (w : World) :
    Calls Tryd.prog 37 #[.agg (plv ks).toArray] w fun e w' => ∃ v, e = .returned v ∧ w'.ownsRow w.heap.size 9 1 v ks.length (strs ks) ∧ Below w.heap.size w w' := by
  have hm := Mem.start w
  have HK : Hid (∀ _ : Unit, PlOk ks) := fun _ => h
  obtain ⟨n, hn⟩ : ∃ n, n = ks.length := ⟨_, rfl⟩
  have hn3 : n ≤ 3 := by rw [hn]; exact h.len
  rw [← hn]
  have HN : Hid (∀ _ : Unit, n = ks.length) := fun _ => hn
  have HD : Hid (∀ W, Calls Tryd.prog 39 #[.agg (plv ks).toArray] W fun e w' => e = .returned (.int .i64 (n : Int)) ∧ Below W.heap.size W w') := fun W => by rw [hn]; exact depth_any h W
  clear h hn
  go_enter Tryd.func37, Tryd.ntmps37
  go_wp2_with (first
    | ((with_reducible refine at_op (some 1) (.box 42 (.tmp 0)) ?_); refine wpl_box (plv ks) rfl hm ?_; clear hm; intro w1 g1 hm)
    | ((with_reducible refine at_op (some 3) (.load 42 (.tmp 1)) ?_); refine wpl_ldw 0 hm rfl rfl _ un_pl rfl 3 sz_pl (by rfl) ?_)
    | (go_at_call 39; refine (HD.out _).mono ?_; rintro e w' ⟨he, hb⟩; subst he; replace hm := hm.call hb; clear hb)
    | ((with_reducible refine at_op (some 5) (.slice 42 (.tmp 1) none (some (.tmp 4)) none) ?_); refine wpl_sla 3 un_pl sz_str 0 n (by omega) (by omega) rfl (Or.inr ⟨rfl, rfl⟩) (Or.inl (int_at _ rfl (by simp))) ?_)
    | (go_at_call 44; refine (clone_any (HK.out ()) (HN.out ()) _ (hm.get 0 rfl)).mono ?_; rintro e w' ⟨v, he, ho, hb⟩; subst he; have HO : Hid (w'.ownsRow _ 9 1 v n (strs ks)) := ho; clear ho; have hm2 := hm.call hb; clear hb))
  go_ret
  exact ⟨_, rfl, own_base hm.size HO.out, hm2.below⟩
set_option maxHeartbeats 1000000 in
set_option maxRecDepth 100000 in
theorem text_any {ks : List ByteArray} (h : PlOk ks) (w : World) :
    Calls Tryd.prog 30 #[.agg (plv ks).toArray] w fun e w' => e = .returned (.string (mkS (jn 47 (ks.map bs)))) ∧ Below w.heap.size w w' := by
  have hm := Mem.start w
  have HK : Hid (∀ _ : Unit, PlOk ks) := fun _ => h
  clear h
  obtain ⟨r, hr⟩ : ∃ r, r = mkS (jn 47 (ks.map bs)) := ⟨_, rfl⟩
  rw [← hr]
  have HR : Hid (∀ _ : Unit, r = mkS (jn 47 (ks.map bs))) := fun _ => hr
  clear hr
  go_enter Tryd.func30, Tryd.ntmps30
  go_wp2_with (first
    | ((with_reducible refine at_op (some 1) (.box 42 (.tmp 0)) ?_); refine wpl_box (plv ks) rfl hm ?_; clear hm; intro w1 g1 hm)
    | ((with_reducible refine at_op (some 3) (.load 42 (.tmp 1)) ?_); refine wpl_ldw 0 hm rfl rfl _ un_pl rfl 3 sz_pl (by rfl) ?_)
    | (go_at_call 37; refine (segments_any (HK.out ()) _).mono ?_; rintro e w' ⟨v, he, ho, hb⟩; subst he; have HO : Hid (SlS w' v ks) := own_sl ho; clear ho; replace hm := hm.call hb; clear hb)
    | (go_at_call 40; refine (join_any ks _ _ HO.out (by have := (HK.out ()).len; omega) (fun x hx => ((HK.out ()).size hx).2)).mono ?_; rintro e w' ⟨he, hb⟩; rw [← HR.out ()] at he; subst he; replace hm := hm.call hb; clear hb))
  go_ret
  exact ⟨rfl, hm.below⟩
end Go.Proofs.YtikmmheknfljkaaDoor
