/- The walk of the law NodeTells. -/
import Derived.Test.YtcfmpidibbbehaaNdRefB
import Derived.Test.YtcfmpidibbbehaaNdOpen
import Derived.Test.YtcfmpidibbbehaaNdBackA
namespace Go.Proofs.Ytcfmpidibbbehaa
open Go Go.RowKit
set_option maxHeartbeats 1000000 in
set_option maxRecDepth 100000 in
theorem tells_out_a (q1 q2 q3 : Option Addr) (n1 n2 n3 d1 d2 d3 : Nat) (h1 : 60 < n1) (w : World) :
    Calls Try.prog 3 #[.slice q1 n1 d1, .slice q2 n2 d2, .slice q3 n3 d3] w fun e w' => e = .returned (.bool true) ∧ Below w.heap.size w w' := by
  have hm := Mem.start w
  have i1 : (n1 : Int) > 60 := by omega
  go_enter Try.func3, Try.ntmps3
  go_wp2_with (first
    | (go_at_call 9; refine (known_any _).mono ?_; rintro e wk ⟨rfl, hb⟩; replace hm := hm.call hb; clear hb))
  go_ret
  exact ⟨rfl, hm.below⟩
set_option maxHeartbeats 1000000 in
set_option maxRecDepth 100000 in
theorem tells_out_b (q1 q2 q3 : Option Addr) (n1 n2 n3 d1 d2 d3 : Nat) (h1 : ¬ 60 < n1) (h2 : 60 < n2) (w : World) :
    Calls Try.prog 3 #[.slice q1 n1 d1, .slice q2 n2 d2, .slice q3 n3 d3] w fun e w' => e = .returned (.bool true) ∧ Below w.heap.size w w' := by
  have hm := Mem.start w
  have i1 : ¬ (n1 : Int) > 60 := by omega
  have i2 : (n2 : Int) > 60 := by omega
  go_enter Try.func3, Try.ntmps3
  go_wp2_with (first
    | (go_at_call 9; refine (known_any _).mono ?_; rintro e wk ⟨rfl, hb⟩; replace hm := hm.call hb; clear hb))
  go_ret
  exact ⟨rfl, hm.below⟩
set_option maxHeartbeats 1000000 in
set_option maxRecDepth 100000 in
theorem tells_out_c (q1 q2 q3 : Option Addr) (n1 n2 n3 d1 d2 d3 : Nat) (h1 : ¬ 60 < n1) (h2 : ¬ 60 < n2) (h3 : 60 < n3) (w : World) :
    Calls Try.prog 3 #[.slice q1 n1 d1, .slice q2 n2 d2, .slice q3 n3 d3] w fun e w' => e = .returned (.bool true) ∧ Below w.heap.size w w' := by
  have hm := Mem.start w
  have i1 : ¬ (n1 : Int) > 60 := by omega
  have i2 : ¬ (n2 : Int) > 60 := by omega
  have i3 : (n3 : Int) > 60 := by omega
  go_enter Try.func3, Try.ntmps3
  go_wp2_with (first
    | (go_at_call 9; refine (known_any _).mono ?_; rintro e wk ⟨rfl, hb⟩; replace hm := hm.call hb; clear hb))
  go_ret
  exact ⟨rfl, hm.below⟩
set_option maxHeartbeats 4000000 in
set_option maxRecDepth 100000 in
theorem tells_go (l : List (ByteArray × ByteArray)) (ks : List ByteArray) (kids : List Int) (q1 q2 q3 : Option Addr) (n1 n2 n3 d1 d2 d3 : Nat) (hl : l.length = n1) (hk : ks.length = n2) (hi : kids.length = n3) (h1 : ¬ 60 < n1) (h2 : ¬ 60 < n2) (h3 : ¬ 60 < n3) (sz1 : ∀ p ∈ l, p.1.size ≤ 1152921504606846976 ∧ p.2.size ≤ 1152921504606846976) (kb : ∀ x ∈ kids, 0 ≤ x ∧ x < 4294967296) (w : World) (vl : SlP w (.slice q1 n1 d1) l) (vk : SlS w (.slice q2 n2 d2) ks) (vi : SlU w (.slice q3 n3 d3) kids) :
    Calls Try.prog 3 #[.slice q1 n1 d1, .slice q2 n2 d2, .slice q3 n3 d3] w fun e w' => e = .returned (.bool true) ∧ Below w.heap.size w w' := by
  have hm := Mem.start w
  have i1 : ¬ (n1 : Int) > 60 := by omega
  have i2 : ¬ (n2 : Int) > 60 := by omega
  have i3 : ¬ (n3 : Int) > 60 := by omega
  have HN1 : Hid (l.length ≤ 1000) := by show _ ≤ _; omega
  have HNN : Hid (l.length = n1) := hl
  have HN2 : Hid (ks.length ≤ 1000) := by show _ ≤ _; omega
  have HN3 : Hid (kids.length ≤ 2000) := by show _ ≤ _; omega
  have HZ1 : Hid (∀ p ∈ l, p.1.size ≤ 1152921504606846976 ∧ p.2.size ≤ 1152921504606846976) := sz1
  have HKB : Hid (∀ x ∈ kids, 0 ≤ x ∧ x < 4294967296) := kb
  have HVL : Hid (SlP w (.slice q1 n1 d1) l) := vl
  have HVK : Hid (SlS w (.slice q2 n2 d2) ks) := vk
  have HVI : Hid (SlU w (.slice q3 n3 d3) kids) := vi
  obtain ⟨c0, hc0⟩ : ∃ c, leafCode l = c := ⟨_, rfl⟩
  obtain ⟨b0, hb0⟩ : ∃ c, branchCode ks kids.length = c := ⟨_, rfl⟩
  obtain ⟨LA, hLA⟩ : ∃ c, leafOut l = c := ⟨_, rfl⟩
  obtain ⟨LB, hLB⟩ : ∃ c, branchOut ks kids = c := ⟨_, rfl⟩
  obtain ⟨A, hA⟩ : ∃ c, LA.length = c := ⟨_, rfl⟩
  obtain ⟨B, hB⟩ : ∃ c, LB.length = c := ⟨_, rfl⟩
  obtain ⟨SA, hSA⟩ : ∃ c, strOf LA = c := ⟨_, rfl⟩
  obtain ⟨SB, hSB⟩ : ∃ c, strOf LB = c := ⟨_, rfl⟩
  obtain ⟨s, hs⟩ : ∃ c, min (szP l) 100000 = c := ⟨_, rfl⟩
  have HCO : Hid (∀ _ : Unit, leafCode l = c0) := fun _ => hc0
  have HCB : Hid (∀ _ : Unit, branchCode ks kids.length = b0) := fun _ => hb0
  have HAO : Hid (∀ _ : Unit, leafOut l = LA) := fun _ => hLA
  have HBO : Hid (∀ _ : Unit, branchOut ks kids = LB) := fun _ => hLB
  have HAL : Hid (LA.length = A) := hA
  have HBL : Hid (LB.length = B) := hB
  have HSA : Hid (∀ _ : Unit, strOf LA = SA) := fun _ => hSA
  have HSB : Hid (∀ _ : Unit, strOf LB = SB) := fun _ => hSB
  have HMS : Hid (∀ _ : Unit, min (szP l) 100000 = s) := fun _ => hs
  have HEA : Hid ((SA == SA) = true) := beq_self_str SA
  have HEB : Hid ((SB == SB) = true) := beq_self_str SB
  clear hl hk hi h2 h3 sz1 kb vl vk vi hc0 hb0 hLA hLB hA hB hSA hSB hs
  go_enter Try.func3, Try.ntmps3
  go_wp2_with (first
    | (go_at_call 9; refine (known_any _).mono ?_; rintro e wk ⟨rfl, hb⟩; replace hm := hm.call hb; clear hb)
    | (go_at_call 10; refine (leaf_any l _ HN1.out HZ1.out _ (SlV.below HVL.out hm.below)).mono ?_; rintro e w1 ⟨v1, he, hs, hb⟩; rw [HCO.out ()] at he; rw [HAO.out ()] at hs; obtain ⟨p1, c1, hv, _⟩ : ∃ p c, v1 = .slice p A c ∧ A ≤ c := HAL.out ▸ SlOld.len hs; subst hv; subst he; have HX1w1 : Hid (SlOld w1 (.slice p1 A c1) LA) := hs; replace hm := hm.call hb; clear hb hs)
    | (go_at_call 11; refine (leafR_any l n1 _ HNN.out (by omega) _ (SlV.below HVL.out hm.below)).mono ?_; rintro e w2 ⟨v2, he, hs, hb⟩; rw [HCO.out ()] at he; rw [HAO.out ()] at hs; obtain ⟨p2, c2, hv, _⟩ : ∃ p c, v2 = .slice p A c ∧ A ≤ c := HAL.out ▸ SlOld.len hs; subst hv; subst he; have HX2w2 : Hid (SlOld w2 (.slice p2 A c2) LA) := hs; have HX1w2 : Hid (SlOld w2 (.slice p1 A c1) LA) := SlOld.below HX1w1.out hb; replace hm := hm.call hb; clear hb hs)
    | (go_at_call 12; refine (branch_any ks kids _ _ HN2.out HKB.out _ (SlV.below HVK.out hm.below) (SlV.below HVI.out hm.below)).mono ?_; rintro e w3 ⟨v3, he, hs, hb⟩; rw [HCB.out ()] at he; rw [HBO.out ()] at hs; obtain ⟨p3, c3, hv, _⟩ : ∃ p c, v3 = .slice p B c ∧ B ≤ c := HBL.out ▸ SlOld.len hs; subst hv; subst he; have HX3w3 : Hid (SlOld w3 (.slice p3 B c3) LB) := hs; have HX1w3 : Hid (SlOld w3 (.slice p1 A c1) LA) := SlOld.below HX1w2.out hb; have HX2w3 : Hid (SlOld w3 (.slice p2 A c2) LA) := SlOld.below HX2w2.out hb; replace hm := hm.call hb; clear hb hs)
    | (go_at_call 13; refine (branchR_any ks kids _ _ HN2.out HN3.out HKB.out _ (SlV.below HVK.out hm.below) (SlV.below HVI.out hm.below)).mono ?_; rintro e w4 ⟨v4, he, hs, hb⟩; rw [HCB.out ()] at he; rw [HBO.out ()] at hs; obtain ⟨p4, c4, hv, _⟩ : ∃ p c, v4 = .slice p B c ∧ B ≤ c := HBL.out ▸ SlOld.len hs; subst hv; subst he; have HX4w4 : Hid (SlOld w4 (.slice p4 B c4) LB) := hs; have HX1w4 : Hid (SlOld w4 (.slice p1 A c1) LA) := SlOld.below HX1w3.out hb; have HX2w4 : Hid (SlOld w4 (.slice p2 A c2) LA) := SlOld.below HX2w3.out hb; have HX3w4 : Hid (SlOld w4 (.slice p3 B c3) LB) := SlOld.below HX3w3.out hb; replace hm := hm.call hb; clear hb hs)
    | (go_at_call 14; refine (size_any l n1 _ HNN.out (by omega) HZ1.out _ (SlV.below HVL.out hm.below)).mono ?_; rintro e w5 ⟨he, hb⟩; rw [HMS.out ()] at he; subst he; replace hm := hm.call hb; clear hb)
    | (go_at_call 15; refine (sizeR_any l n1 _ HNN.out (by omega) _ (SlV.below HVL.out hm.below)).mono ?_; rintro e w6 ⟨he, hb⟩; rw [HMS.out ()] at he; subst he; replace hm := hm.call hb; clear hb)
    | ((with_reducible refine at_op (some 53) (.convert 26 9 (.tmp 52)) ?_); go_must (refine wpl_execG (.string SA) rfl (HSA.out () ▸ exec_tostr un_bs un_u8 un_strT LA rfl HX1w4.out) ?_))
    | ((with_reducible refine at_op (some 55) (.convert 26 9 (.tmp 54)) ?_); go_must (refine wpl_execG (.string SA) rfl (HSA.out () ▸ exec_tostr un_bs un_u8 un_strT LA rfl HX2w4.out) ?_))
    | ((with_reducible refine at_opG (some 64) (.convert 26 9 (.tmp 63)) (some (10, true)) ?_); go_must (refine wpl_execG (.string SB) rfl (HSB.out () ▸ exec_tostr un_bs un_u8 un_strT LB rfl HX3w4.out) ?_))
    | ((with_reducible refine at_opG (some 66) (.convert 26 9 (.tmp 65)) (some (10, true)) ?_); go_must (refine wpl_execG (.string SB) rfl (HSB.out () ▸ exec_tostr un_bs un_u8 un_strT LB rfl HX4w4.out) ?_))
    | ((with_reducible refine at_op (some 56) (.binOp .eql 9 (.tmp 53) (.tmp 55) 9) ?_); go_must (refine wpl_execG (.bool true) rfl (exec_eqsB SA SA true rfl rfl HEA.out) ?_))
    | ((with_reducible refine at_opG (some 67) (.binOp .eql 9 (.tmp 64) (.tmp 66) 9) (some (10, true)) ?_); go_must (refine wpl_execG (.bool true) rfl (exec_eqsB SB SB true rfl rfl HEB.out) ?_)))
  go_ret
  exact ⟨rfl, hm.below⟩
set_option maxRecDepth 100000 in
theorem nodeTells_walk (l : List (ByteArray × ByteArray)) (ks : List ByteArray) (kids : List Int) (u1 u2 u3 : Value) (sz1 : ∀ p ∈ l, p.1.size ≤ 1152921504606846976 ∧ p.2.size ≤ 1152921504606846976) (kb : ∀ x ∈ kids, 0 ≤ x ∧ x < 4294967296) (w : World) (vl : SlP w u1 l) (vk : SlS w u2 ks) (vi : SlU w u3 kids) :
    Calls Try.prog 3 #[u1, u2, u3] w fun e w' => e = .returned (.bool true) ∧ Below w.heap.size w w' := by
  obtain ⟨q1, d1, rfl, _⟩ := SlV.len vl
  obtain ⟨q2, d2, rfl, _⟩ := SlV.len vk
  obtain ⟨q3, d3, rfl, _⟩ := SlV.len vi
  by_cases h1 : 60 < l.length
  · exact tells_out_a q1 q2 q3 _ _ _ d1 d2 d3 h1 w
  · by_cases h2 : 60 < ks.length
    · exact tells_out_b q1 q2 q3 _ _ _ d1 d2 d3 h1 h2 w
    · by_cases h3 : 60 < kids.length
      · exact tells_out_c q1 q2 q3 _ _ _ d1 d2 d3 h1 h2 h3 w
      · exact tells_go l ks kids q1 q2 q3 _ _ _ d1 d2 d3 rfl rfl rfl h1 h2 h3 sz1 kb w vl vk vi
end Go.Proofs.Ytcfmpidibbbehaa
