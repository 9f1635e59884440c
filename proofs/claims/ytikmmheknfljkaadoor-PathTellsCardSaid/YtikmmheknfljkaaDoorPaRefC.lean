/- The document's paths and their segments. -/
import Derived.Test.YtikmmheknfljkaaDoorPaRefB
namespace Go.Proofs.YtikmmheknfljkaaDoor
open Go Go.RowKit
set_option maxHeartbeats 4000000 in
set_option maxRecDepth 100000 in
theorem isR_any (s : ByteArray) (w : World) (hs : s.size ≤ 1000) :
    Calls Tryd.prog 16 #[.string s] w fun e w' => e = .returned (.bool (isP (bs s))) ∧ Below w.heap.size w w' := by
  have hm := Mem.start w
  by_cases h0 : s = ⟨#[]⟩
  · subst h0
    go_enter Tryd.func16, Tryd.ntmps16
    go_wp2_with (first
      | ((with_reducible refine at_op (some 6) (.binOp .eql 9 (.tmp 5) (.const (.string { data := #[] })) 9) ?_); go_must (refine wpl_execG (.bool true) rfl (exec_eqsB ⟨#[]⟩ ⟨#[]⟩ true rfl rfl (eqs_yes _)) ?_)))
    go_ret
    exact ⟨rfl, hm.below⟩
  · have HE : Hid (∀ _ : Unit, ¬ s = ⟨#[]⟩) := fun _ => h0
    have hne : (bs s).isEmpty = false := by
      cases h : bs s with
      | nil => exact absurd (show s = ⟨#[]⟩ by rw [← mkS_bs s, h]; rfl) h0
      | cons _ _ => rfl
    obtain ⟨xs, hxs⟩ : ∃ xs, xs = cutB 47 s := ⟨_, rfl⟩
    obtain ⟨n, hn⟩ : ∃ n, n = xs.length := ⟨_, rfl⟩
    have HI : Hid (∀ _ : Unit, isP (bs s) = okSegs (xs.map bs)) := fun _ => by rw [isP, hne, Bool.false_or, hxs, cutB_bs]
    have HN : Hid (∀ _ : Unit, xs.length = n) := fun _ => hn.symm
    have hn1 : n ≤ 2000 := by rw [hn, hxs]; have := cutB_len 47 s; omega
    have HZ : Hid (∀ x ∈ xs, x.size ≤ maxLen) := fun x hx => by rw [hxs] at hx; have := cutB_size 47 s x hx; unfold maxLen; omega
    have HPA : Hid (∀ W, Calls Tryd.prog 35 #[.string s, .int .u8 47] W fun e w' => ∃ v, e = .returned v ∧ SlS w' v xs ∧ Below W.heap.size W w') := fun W => by rw [hxs]; exact partsR_any 47 s 47 rfl W hs
    clear h0 hne hxs hn hs
    go_enter Tryd.func16, Tryd.ntmps16
    go_wp2_with (first
      | ((with_reducible refine at_op (some 6) (.binOp .eql 9 (.tmp 5) (.const (.string { data := #[] })) 9) ?_); go_must (refine wpl_execG (.bool false) rfl (exec_eqsB s ⟨#[]⟩ false rfl rfl (eqs_no (HE.out ()))) ?_))
      | (go_at_call 35; refine (HPA.out _).mono ?_; rintro e w9 ⟨v, he, ho, hb⟩; subst he; obtain ⟨p, cap, hv, hcap⟩ := SlV.len ho; subst hv; have HO : Hid (SlS w9 (.slice p n cap) xs) := by { have h9 := ho; rw [HN.out ()] at h9; exact h9 }; rw [HN.out ()]; clear ho hcap; replace hm := hm.call hb; clear hb))
    go_loopw [4] (fun vi wr => ∃ k : Nat, k ≤ n ∧ vi = .int .i64 (k : Int) ∧ Hid ((xs.take k).all (fun x => seg (bs x)) = true) ∧ Hid (Below w9.heap.size w9 wr)) (fun vi _ => n - (intOf vi).toNat)
    case atStart => exact ⟨0, by omega, rfl, rfl, Below.refl _ _⟩
    case round =>
      obtain ⟨k, hk, rfl, HA, HB⟩ := hrel
      by_cases hlt : k < n
      · have hki : (k : Int) < (n : Int) := by omega
        obtain ⟨b, off, hp⟩ := SlS.at HO.out (HN.out ()) (by omega)
        subst hp
        obtain ⟨x, hx⟩ : ∃ x, x = xs.getD k noStr := ⟨_, rfl⟩
        have HC : Hid (wr.cell? ⟨b, off + k, none⟩ = some (.string x)) := by
          rw [hx]
          exact SlS.cells (HN.out ()) (SlV.below HO.out HB.out) k hlt
        have hmem : x ∈ xs := by
          rw [hx, List.getD_eq_getElem?_getD, List.getElem?_eq_getElem (by rw [HN.out ()]; exact hlt)]
          exact List.getElem_mem _
        have HXZ : Hid (x.size ≤ maxLen) := HZ.out x hmem
        have HX : Hid (∀ _ : Unit, x = xs.getD k noStr ∧ x ∈ xs) := fun _ => ⟨hx, hmem⟩
        obtain ⟨r, hr⟩ : ∃ r, seg (bs x) = r := ⟨_, rfl⟩
        have HR : Hid (∀ _ : Unit, seg (bs x) = r) := fun _ => hr
        clear hx hmem hr
        cases r with
        | true =>
          go_wp2_with (first
            | ((with_reducible refine at_op (some 18) (.load 9 (.tmp 17)) ?_); go_must (refine wpl_execG (.string x) rfl (exec_ldx (.string x) (HC.out) rfl ag_str) ?_))
            | (go_at_call 14; refine (segR_any x _ HXZ.out).mono ?_; rintro e w' ⟨he, hw⟩; rw [HR.out ()] at he; subst he; subst hw))
          go_roundw
          case rel => exact ⟨k + 1, by omega, by go_num, all_next (by rw [HN.out ()]; exact hlt) HA.out (by rw [← (HX.out ()).1]; exact HR.out ()), HB.out⟩
          case measure => simp [intOf]; omega
        | false =>
          go_wp2_with (first
            | ((with_reducible refine at_op (some 18) (.load 9 (.tmp 17)) ?_); go_must (refine wpl_execG (.string x) rfl (exec_ldx (.string x) (HC.out) rfl ag_str) ?_))
            | (go_at_call 14; refine (segR_any x _ HXZ.out).mono ?_; rintro e w' ⟨he, hw⟩; rw [HR.out ()] at he; subst he; subst hw))
          go_ret
          refine ⟨?_, (hm.call HB.out).below⟩
          rw [HI.out (), okSegs_no (HX.out ()).2 (HR.out ())]
          rfl
      · have hkn : n = k := by omega
        subst hkn
        have hki : ¬ (n : Int) < (n : Int) := by omega
        by_cases h3 : n ≤ 3
        · have h3i : (n : Int) ≤ 3 := by omega
          go_wp2_with fail
          go_ret
          refine ⟨?_, (hm.call HB.out).below⟩
          rw [HI.out (), okSegs_yes (by rw [HN.out ()]; exact h3) (by rw [HN.out ()]; exact HA.out)]
          rfl
        · have h3i : ¬ (n : Int) ≤ 3 := by omega
          go_wp2_with fail
          go_ret
          refine ⟨?_, (hm.call HB.out).below⟩
          rw [HI.out (), okSegs_many (by rw [HN.out ()]; omega)]
          rfl
set_option maxRecDepth 100000 in
theorem segsB_cut {s : ByteArray} (h : isP (bs s) = true) (h0 : ¬ s = ⟨#[]⟩) : segsB s = cutB 47 s := by
  rw [segsB, segsOf_path h (fun h9 => h0 (by rw [← mkS_bs s, h9]; rfl)), cutB]
set_option maxRecDepth 100000 in
theorem segsB_none {s : ByteArray} (h : isP (bs s) = false) : segsB s = [] := by rw [segsB, segsOf_no h]; rfl
set_option maxHeartbeats 4000000 in
set_option maxRecDepth 100000 in
theorem splitR_any (s : ByteArray) (w : World) (hs : s.size ≤ 1000) :
    Calls Tryd.prog 19 #[.string s] w fun e w' => ∃ v, e = .returned v ∧ SlS w' v (segsB s) ∧ Below w.heap.size w w' := by
  have hm := Mem.start w
  by_cases h0 : s = ⟨#[]⟩
  · subst h0
    go_enter Tryd.func19, Tryd.ntmps19
    go_wp2_with (first
      | ((with_reducible refine at_op (some 4) (.binOp .eql 9 (.tmp 3) (.const (.string { data := #[] })) 9) ?_); go_must (refine wpl_execG (.bool true) rfl (exec_eqsB ⟨#[]⟩ ⟨#[]⟩ true rfl rfl (eqs_yes _)) ?_)))
    go_ret
    exact ⟨_, rfl, SlS.nil _, hm.below⟩
  · have HE : Hid (∀ _ : Unit, ¬ s = ⟨#[]⟩) := fun _ => h0
    obtain ⟨r, hr⟩ : ∃ r, isP (bs s) = r := ⟨_, rfl⟩
    have HR : Hid (∀ _ : Unit, isP (bs s) = r) := fun _ => hr
    clear h0 hr
    cases r with
    | false =>
      go_enter Tryd.func19, Tryd.ntmps19
      go_wp2_with (first
        | ((with_reducible refine at_op (some 4) (.binOp .eql 9 (.tmp 3) (.const (.string { data := #[] })) 9) ?_); go_must (refine wpl_execG (.bool false) rfl (exec_eqsB s ⟨#[]⟩ false rfl rfl (eqs_no (HE.out ()))) ?_))
        | (go_at_call 16; refine (isR_any s _ hs).mono ?_; rintro e w' ⟨he, hb⟩; rw [HR.out ()] at he; subst he; replace hm := hm.call hb; clear hb))
      go_ret
      exact ⟨_, rfl, by rw [segsB_none (HR.out ())]; exact SlS.nil _, hm.below⟩
    | true =>
      have HPA : Hid (∀ W, Calls Tryd.prog 35 #[.string s, .int .u8 47] W fun e w' => ∃ v, e = .returned v ∧ SlS w' v (segsB s) ∧ Below W.heap.size W w') := fun W => by rw [segsB_cut (HR.out ()) (HE.out ())]; exact partsR_any 47 s 47 rfl W hs
      go_enter Tryd.func19, Tryd.ntmps19
      go_wp2_with (first
        | ((with_reducible refine at_op (some 4) (.binOp .eql 9 (.tmp 3) (.const (.string { data := #[] })) 9) ?_); go_must (refine wpl_execG (.bool false) rfl (exec_eqsB s ⟨#[]⟩ false rfl rfl (eqs_no (HE.out ()))) ?_))
        | (go_at_call 16; refine (isR_any s _ hs).mono ?_; rintro e w' ⟨he, hb⟩; rw [HR.out ()] at he; subst he; replace hm := hm.call hb; clear hb)
        | (go_at_call 35; refine (HPA.out _).mono ?_; rintro e w9 ⟨v, he, ho, hb⟩; subst he; have HO : Hid (SlS w9 v (segsB s)) := ho; clear ho; replace hm := hm.call hb; clear hb))
      go_ret
      exact ⟨_, rfl, HO.out, hm.below⟩
end Go.Proofs.YtikmmheknfljkaaDoor
