/- The walk of the law NodeReads. -/
import Derived.Test.YtnahflppggoplaaNdRefRB
import Derived.Test.YtnahflppggoplaaNdOpen
import Derived.Test.YtnahflppggoplaaNdBackA
import Derived.Test.YtnahflppggoplaaNdSame
namespace Go.Proofs.Ytnahflppggoplaa
open Go Go.RowKit
set_option maxRecDepth 100000 in
theorem rlOut_few (cs : List Int) : (rlOut cs).length ≤ 1000 := by
  cases h : rlOk cs with
  | false => rw [rlOut, h]; simp
  | true =>
    have h1 := (leafCode_ok (rlOk_ok h).1).2
    have h2 := szP_len (rlOut cs)
    omega
set_option maxRecDepth 100000 in
theorem rbOut_few (cs : List Int) : (rbOutK cs).length ≤ 1000 ∧ (rbOutI cs).length ≤ 1000 := by
  cases h : rbOk cs with
  | false => rw [rbOutK, rbOutI, h]; simp
  | true =>
    have h1 := (branchCode_ok (rbOk_ok h).1).2
    have h2 := ksz_len (rbKeys cs)
    unfold szB at h1
    have e1 : rbOutK cs = rbKeys cs := by rw [rbOutK, h]; rfl
    have e2 : rbOutI cs = rbKids cs := by rw [rbOutI, h]; rfl
    rw [e1, e2]
    omega
set_option maxRecDepth 100000 in
theorem rl_first {cs : List Int} (h : rlOk cs = true) : 0 < cs.length ∧ cs.getD 0 0 = 1 := by
  cases hh : headB cs 1 with
  | false => rw [rl_head hh] at h; cases h
  | true =>
    simp only [headB, decide_eq_true_eq] at hh
    exact ⟨by omega, hh.2.2⟩
set_option maxRecDepth 100000 in
theorem rb_first {cs : List Int} (h : rbOk cs = true) : 0 < cs.length ∧ cs.getD 0 0 = 2 := by
  cases hh : headB cs 2 with
  | false => rw [rb_head hh] at h; cases h
  | true =>
    simp only [headB, decide_eq_true_eq] at hh
    exact ⟨by omega, hh.2.2⟩
set_option maxHeartbeats 1000000 in
set_option maxRecDepth 100000 in
theorem reads_out (p : Option Addr) (N cap : Nat) (h : 600 < N) (w : World) :
    Calls Try.prog 3 #[.slice p N cap] w fun e w' => e = .returned (.bool true) ∧ Below w.heap.size w w' := by
  have hm := Mem.start w
  have i1 : (N : Int) > 600 := by omega
  go_enter Try.func3, Try.ntmps3
  go_wp2_with (first
    | (go_at_call 4; refine (known_any _).mono ?_; rintro e wk ⟨rfl, hb⟩; replace hm := hm.call hb; clear hb))
  go_ret
  exact ⟨rfl, hm.below⟩
set_option maxHeartbeats 4000000 in
set_option maxRecDepth 100000 in
theorem reads_leaf (cs : List Int) (b off : Nat) (N cap : Nat) (hN : cs.length = N) (h600 : ¬ 600 < N) (hcb : Bytes cs) (hrl : rlOk cs = true) (hrb : rbOk cs = false) (hkd : kindOf cs = 1) (h0 : 0 < N) (hc : cs.getD 0 0 = 1) (w : World) (hv : SlOld w (.slice (some ⟨b, off, none⟩) N cap) cs) :
    Calls Try.prog 3 #[.slice (some ⟨b, off, none⟩) N cap] w fun e w' => e = .returned (.bool true) ∧ Below w.heap.size w w' := by
  have hm := Mem.start w
  have i1 : ¬ (N : Int) > 600 := by omega
  have H600 : Hid (cs.length ≤ 600) := by show _ ≤ _; omega
  have HV : Hid (SlOld w (.slice (some ⟨b, off, none⟩) N cap) cs) := hv
  have HN : Hid (cs.length = N) := hN
  have HB : Hid (Bytes cs) := hcb
  have HRL : Hid (∀ _ : Unit, (if rlOk cs = true then (0 : Int) else 90) = 0) := fun _ => by rw [hrl]; rfl
  have HRO : Hid (∀ _ : Unit, rlOk cs = true) := fun _ => hrl
  have HBL : Hid (∀ _ : Unit, (if rbOk cs = true then (0 : Int) else 90) = 90) := fun _ => by rw [hrb]; rfl
  have HBO : Hid (∀ _ : Unit, rbOk cs = false) := fun _ => hrb
  have HKD : Hid (∀ _ : Unit, kindOf cs = 1) := fun _ => hkd
  obtain ⟨X, hX⟩ : ∃ x, rlOut cs = x := ⟨_, rfl⟩
  obtain ⟨KO, hKO⟩ : ∃ x, rbOutK cs = x := ⟨_, rfl⟩
  obtain ⟨IQ, hIQ⟩ : ∃ x, rbOutI cs = x := ⟨_, rfl⟩
  have HXO : Hid (∀ _ : Unit, rlOut cs = X) := fun _ => hX
  have HKO : Hid (∀ _ : Unit, rbOutK cs = KO) := fun _ => hKO
  have HIQ : Hid (∀ _ : Unit, rbOutI cs = IQ) := fun _ => hIQ
  have HXL : Hid (X.length ≤ 1000) := by rw [← hX]; exact rlOut_few cs
  have HKL : Hid (KO.length ≤ 1000) := by rw [← hKO]; exact (rbOut_few cs).1
  have HIL : Hid (IQ.length ≤ 1000) := by rw [← hIQ]; exact (rbOut_few cs).2
  have hni : (N : Int) > 0 := by omega
  have HCELL : Hid (∀ W, Below w.heap.size w W → W.cell? ⟨b, off, none⟩ = some (.int .u8 1)) := by
    intro W hW
    obtain ⟨_, _, hs⟩ := (SlOld.below hv hW).src0
    obtain ⟨b', off', hp, hseg⟩ := hs (by omega)
    simp only [Option.some.injEq, Addr.mk.injEq] at hp
    obtain ⟨rfl, rfl, _⟩ := hp
    have h9 := hseg 0 (by omega)
    rw [Nat.add_zero, hc] at h9
    exact h9
  clear hc
  clear hN hv hcb hrl hrb hkd hX hKO hIQ
  go_enter Try.func3, Try.ntmps3
  go_wp2_with (first
    | (go_at_call 4; refine (known_any _).mono ?_; rintro e wk ⟨rfl, hb⟩; replace hm := hm.call hb; clear hb)
    | ((with_reducible refine at_op (some 21) (.call { callee := .builtin .append, args := #[.const (.slice none 0 0), .tmp 20], argTypes := #[22, 22] }) ?_); have HBWwk : Hid (Below w.heap.size w wk) := hm.below; clear hm; have hm := Mem.start wk; go_must (refine wpl_app rfl un_bs made_u8 cs hm (OwnB.nil _ _ _) (fun r hr => by cases hr) rfl rfl HN.out.symm (SlOld.below HV.out HBWwk.out).src0.2.2 (by have h9 := HN.out; simp; omega) ?_); clear hm; intro v1 w1 hown hm; have HSw1 : Hid (SlOld w1 v1 cs) := hown.old; have hb := hm.below; replace hm : Mem w [] w1 [] := ((Mem.start w).call HBWwk.out).call hb; clear hown hb)
    | (go_at_call 5; refine (readLeaf_any cs _ HB.out _ HSw1.out).mono ?_; rintro e w2 ⟨v2, he, hs, hb⟩; rw [HRL.out ()] at he; rw [HXO.out ()] at hs; subst he; have HAw2 : Hid (SlP w2 v2 X) := hs; replace hm := hm.call hb; clear hb hs)
    | (go_at_call 6; refine (readLR_any cs _ H600.out HB.out _ (SlOld.below HV.out hm.below)).mono ?_; rintro e w3 ⟨v3, he, hs, hb⟩; rw [HRO.out ()] at he; rw [HXO.out ()] at hs; subst he; have HDw3 : Hid (SlP w3 v3 X) := hs; have HAw3 : Hid (SlP w3 v2 X) := SlV.below HAw2.out hb; replace hm := hm.call hb; clear hb hs)
    | ((with_reducible refine at_op (some 32) (.call { callee := .builtin .append, args := #[.const (.slice none 0 0), .tmp 31], argTypes := #[22, 22] }) ?_); have HBWw3 : Hid (Below w.heap.size w w3) := hm.below; clear hm; have hm := Mem.start w3; go_must (refine wpl_app rfl un_bs made_u8 cs hm (OwnB.nil _ _ _) (fun r hr => by cases hr) rfl rfl HN.out.symm (SlOld.below HV.out HBWw3.out).src0.2.2 (by have h9 := HN.out; simp; omega) ?_); clear hm; intro v4 w4 hown hm; have HSw4 : Hid (SlOld w4 v4 cs) := hown.old; have hb := hm.below; have HAw4 : Hid (SlP w4 v2 X) := SlV.below HAw3.out hb; have HDw4 : Hid (SlP w4 v3 X) := SlV.below HDw3.out hb; replace hm : Mem w [] w4 [] := ((Mem.start w).call HBWw3.out).call hb; clear hown hb)
    | (go_at_call 7; refine (readBranch_any cs _ HB.out _ HSw4.out).mono ?_; rintro e w5 ⟨v5, u5, he, hs, hs2, hb⟩; rw [HBL.out ()] at he; rw [HKO.out ()] at hs; rw [HIQ.out ()] at hs2; subst he; have HKw5 : Hid (SlS w5 v5 KO) := hs; have HIw5 : Hid (SlU w5 u5 IQ) := hs2; have HAw5 : Hid (SlP w5 v2 X) := SlV.below HAw4.out hb; have HDw5 : Hid (SlP w5 v3 X) := SlV.below HDw4.out hb; replace hm := hm.call hb; clear hb hs hs2)
    | (go_at_call 8; refine (readBR_any cs _ H600.out HB.out _ (SlOld.below HV.out hm.below)).mono ?_; rintro e w6 ⟨v6, u6, he, hs, hs2, hb⟩; rw [HBO.out ()] at he; rw [HKO.out ()] at hs; rw [HIQ.out ()] at hs2; subst he; have HLw6 : Hid (SlS w6 v6 KO) := hs; have HJw6 : Hid (SlU w6 u6 IQ) := hs2; have HAw6 : Hid (SlP w6 v2 X) := SlV.below HAw5.out hb; have HDw6 : Hid (SlP w6 v3 X) := SlV.below HDw5.out hb; have HKw6 : Hid (SlS w6 v5 KO) := SlV.below HKw5.out hb; have HIw6 : Hid (SlU w6 u5 IQ) := SlV.below HIw5.out hb; replace hm := hm.call hb; clear hb hs hs2; have hcell : w6.cell? ⟨b, off, none⟩ = some (.int .u8 1) := HCELL.out _ hm.below)
    | (go_at_call 9; refine (pairs_any X X _ _ HXL.out _ HAw6.out HDw6.out).mono ?_; rintro e w7 ⟨hans, hb⟩; have he := hans.is_true rfl; subst he; have HKw7 : Hid (SlS w7 v5 KO) := SlV.below HKw6.out hb; have HIw7 : Hid (SlU w7 u5 IQ) := SlV.below HIw6.out hb; have HLw7 : Hid (SlS w7 v6 KO) := SlV.below HLw6.out hb; have HJw7 : Hid (SlU w7 u6 IQ) := SlV.below HJw6.out hb; replace hm := hm.call hb; clear hb hans)
    | (go_at_call 10; refine (same_any KO KO IQ IQ _ _ _ _ HKL.out HIL.out _ HKw7.out HIw7.out HLw7.out HJw7.out).mono ?_; rintro e w8 ⟨hans, hb⟩; have he := hans.is_true ⟨rfl, rfl⟩; subst he; replace hm := hm.call hb; clear hb hans)
    | (go_at_call 11; refine (kind_any cs _ _ (SlOld.below HV.out hm.below)).mono ?_; rintro e w9 ⟨he, hw⟩; rw [HKD.out ()] at he; subst he; replace hw := hw.symm; subst hw))
  go_ret
  exact ⟨rfl, hm.below⟩
set_option maxHeartbeats 4000000 in
set_option maxRecDepth 100000 in
theorem reads_branch (cs : List Int) (b off : Nat) (N cap : Nat) (hN : cs.length = N) (h600 : ¬ 600 < N) (hcb : Bytes cs) (hrl : rlOk cs = false) (hrb : rbOk cs = true) (hkd : kindOf cs = 2) (h0 : 0 < N) (hc : cs.getD 0 0 = 2) (w : World) (hv : SlOld w (.slice (some ⟨b, off, none⟩) N cap) cs) :
    Calls Try.prog 3 #[.slice (some ⟨b, off, none⟩) N cap] w fun e w' => e = .returned (.bool true) ∧ Below w.heap.size w w' := by
  have hm := Mem.start w
  have i1 : ¬ (N : Int) > 600 := by omega
  have H600 : Hid (cs.length ≤ 600) := by show _ ≤ _; omega
  have HV : Hid (SlOld w (.slice (some ⟨b, off, none⟩) N cap) cs) := hv
  have HN : Hid (cs.length = N) := hN
  have HB : Hid (Bytes cs) := hcb
  have HRL : Hid (∀ _ : Unit, (if rlOk cs = true then (0 : Int) else 90) = 90) := fun _ => by rw [hrl]; rfl
  have HRO : Hid (∀ _ : Unit, rlOk cs = false) := fun _ => hrl
  have HBL : Hid (∀ _ : Unit, (if rbOk cs = true then (0 : Int) else 90) = 0) := fun _ => by rw [hrb]; rfl
  have HBO : Hid (∀ _ : Unit, rbOk cs = true) := fun _ => hrb
  have HKD : Hid (∀ _ : Unit, kindOf cs = 2) := fun _ => hkd
  obtain ⟨X, hX⟩ : ∃ x, rlOut cs = x := ⟨_, rfl⟩
  obtain ⟨KO, hKO⟩ : ∃ x, rbOutK cs = x := ⟨_, rfl⟩
  obtain ⟨IQ, hIQ⟩ : ∃ x, rbOutI cs = x := ⟨_, rfl⟩
  have HXO : Hid (∀ _ : Unit, rlOut cs = X) := fun _ => hX
  have HKO : Hid (∀ _ : Unit, rbOutK cs = KO) := fun _ => hKO
  have HIQ : Hid (∀ _ : Unit, rbOutI cs = IQ) := fun _ => hIQ
  have HXL : Hid (X.length ≤ 1000) := by rw [← hX]; exact rlOut_few cs
  have HKL : Hid (KO.length ≤ 1000) := by rw [← hKO]; exact (rbOut_few cs).1
  have HIL : Hid (IQ.length ≤ 1000) := by rw [← hIQ]; exact (rbOut_few cs).2
  have hni : (N : Int) > 0 := by omega
  have HCELL : Hid (∀ W, Below w.heap.size w W → W.cell? ⟨b, off, none⟩ = some (.int .u8 2)) := by
    intro W hW
    obtain ⟨_, _, hs⟩ := (SlOld.below hv hW).src0
    obtain ⟨b', off', hp, hseg⟩ := hs (by omega)
    simp only [Option.some.injEq, Addr.mk.injEq] at hp
    obtain ⟨rfl, rfl, _⟩ := hp
    have h9 := hseg 0 (by omega)
    rw [Nat.add_zero, hc] at h9
    exact h9
  clear hc
  clear hN hv hcb hrl hrb hkd hX hKO hIQ
  go_enter Try.func3, Try.ntmps3
  go_wp2_with (first
    | (go_at_call 4; refine (known_any _).mono ?_; rintro e wk ⟨rfl, hb⟩; replace hm := hm.call hb; clear hb)
    | ((with_reducible refine at_op (some 21) (.call { callee := .builtin .append, args := #[.const (.slice none 0 0), .tmp 20], argTypes := #[22, 22] }) ?_); have HBWwk : Hid (Below w.heap.size w wk) := hm.below; clear hm; have hm := Mem.start wk; go_must (refine wpl_app rfl un_bs made_u8 cs hm (OwnB.nil _ _ _) (fun r hr => by cases hr) rfl rfl HN.out.symm (SlOld.below HV.out HBWwk.out).src0.2.2 (by have h9 := HN.out; simp; omega) ?_); clear hm; intro v1 w1 hown hm; have HSw1 : Hid (SlOld w1 v1 cs) := hown.old; have hb := hm.below; replace hm : Mem w [] w1 [] := ((Mem.start w).call HBWwk.out).call hb; clear hown hb)
    | (go_at_call 5; refine (readLeaf_any cs _ HB.out _ HSw1.out).mono ?_; rintro e w2 ⟨v2, he, hs, hb⟩; rw [HRL.out ()] at he; rw [HXO.out ()] at hs; subst he; have HAw2 : Hid (SlP w2 v2 X) := hs; replace hm := hm.call hb; clear hb hs)
    | (go_at_call 6; refine (readLR_any cs _ H600.out HB.out _ (SlOld.below HV.out hm.below)).mono ?_; rintro e w3 ⟨v3, he, hs, hb⟩; rw [HRO.out ()] at he; rw [HXO.out ()] at hs; subst he; have HDw3 : Hid (SlP w3 v3 X) := hs; have HAw3 : Hid (SlP w3 v2 X) := SlV.below HAw2.out hb; replace hm := hm.call hb; clear hb hs)
    | ((with_reducible refine at_op (some 32) (.call { callee := .builtin .append, args := #[.const (.slice none 0 0), .tmp 31], argTypes := #[22, 22] }) ?_); have HBWw3 : Hid (Below w.heap.size w w3) := hm.below; clear hm; have hm := Mem.start w3; go_must (refine wpl_app rfl un_bs made_u8 cs hm (OwnB.nil _ _ _) (fun r hr => by cases hr) rfl rfl HN.out.symm (SlOld.below HV.out HBWw3.out).src0.2.2 (by have h9 := HN.out; simp; omega) ?_); clear hm; intro v4 w4 hown hm; have HSw4 : Hid (SlOld w4 v4 cs) := hown.old; have hb := hm.below; have HAw4 : Hid (SlP w4 v2 X) := SlV.below HAw3.out hb; have HDw4 : Hid (SlP w4 v3 X) := SlV.below HDw3.out hb; replace hm : Mem w [] w4 [] := ((Mem.start w).call HBWw3.out).call hb; clear hown hb)
    | (go_at_call 7; refine (readBranch_any cs _ HB.out _ HSw4.out).mono ?_; rintro e w5 ⟨v5, u5, he, hs, hs2, hb⟩; rw [HBL.out ()] at he; rw [HKO.out ()] at hs; rw [HIQ.out ()] at hs2; subst he; have HKw5 : Hid (SlS w5 v5 KO) := hs; have HIw5 : Hid (SlU w5 u5 IQ) := hs2; have HAw5 : Hid (SlP w5 v2 X) := SlV.below HAw4.out hb; have HDw5 : Hid (SlP w5 v3 X) := SlV.below HDw4.out hb; replace hm := hm.call hb; clear hb hs hs2)
    | (go_at_call 8; refine (readBR_any cs _ H600.out HB.out _ (SlOld.below HV.out hm.below)).mono ?_; rintro e w6 ⟨v6, u6, he, hs, hs2, hb⟩; rw [HBO.out ()] at he; rw [HKO.out ()] at hs; rw [HIQ.out ()] at hs2; subst he; have HLw6 : Hid (SlS w6 v6 KO) := hs; have HJw6 : Hid (SlU w6 u6 IQ) := hs2; have HAw6 : Hid (SlP w6 v2 X) := SlV.below HAw5.out hb; have HDw6 : Hid (SlP w6 v3 X) := SlV.below HDw5.out hb; have HKw6 : Hid (SlS w6 v5 KO) := SlV.below HKw5.out hb; have HIw6 : Hid (SlU w6 u5 IQ) := SlV.below HIw5.out hb; replace hm := hm.call hb; clear hb hs hs2; have hcell : w6.cell? ⟨b, off, none⟩ = some (.int .u8 2) := HCELL.out _ hm.below)
    | (go_at_call 9; refine (pairs_any X X _ _ HXL.out _ HAw6.out HDw6.out).mono ?_; rintro e w7 ⟨hans, hb⟩; have he := hans.is_true rfl; subst he; have HKw7 : Hid (SlS w7 v5 KO) := SlV.below HKw6.out hb; have HIw7 : Hid (SlU w7 u5 IQ) := SlV.below HIw6.out hb; have HLw7 : Hid (SlS w7 v6 KO) := SlV.below HLw6.out hb; have HJw7 : Hid (SlU w7 u6 IQ) := SlV.below HJw6.out hb; replace hm := hm.call hb; clear hb hans)
    | (go_at_call 10; refine (same_any KO KO IQ IQ _ _ _ _ HKL.out HIL.out _ HKw7.out HIw7.out HLw7.out HJw7.out).mono ?_; rintro e w8 ⟨hans, hb⟩; have he := hans.is_true ⟨rfl, rfl⟩; subst he; replace hm := hm.call hb; clear hb hans)
    | (go_at_call 11; refine (kind_any cs _ _ (SlOld.below HV.out hm.below)).mono ?_; rintro e w9 ⟨he, hw⟩; rw [HKD.out ()] at he; subst he; replace hw := hw.symm; subst hw))
  go_ret
  exact ⟨rfl, hm.below⟩
set_option maxHeartbeats 4000000 in
set_option maxRecDepth 100000 in
theorem reads_one (cs : List Int) (b off : Nat) (N cap : Nat) (hN : cs.length = N) (h600 : ¬ 600 < N) (hcb : Bytes cs) (hrl : rlOk cs = false) (hrb : rbOk cs = false) (hkd : kindOf cs = 1) (h0 : 0 < N) (hc : cs.getD 0 0 = 1) (w : World) (hv : SlOld w (.slice (some ⟨b, off, none⟩) N cap) cs) :
    Calls Try.prog 3 #[.slice (some ⟨b, off, none⟩) N cap] w fun e w' => e = .returned (.bool true) ∧ Below w.heap.size w w' := by
  have hm := Mem.start w
  have i1 : ¬ (N : Int) > 600 := by omega
  have H600 : Hid (cs.length ≤ 600) := by show _ ≤ _; omega
  have HV : Hid (SlOld w (.slice (some ⟨b, off, none⟩) N cap) cs) := hv
  have HN : Hid (cs.length = N) := hN
  have HB : Hid (Bytes cs) := hcb
  have HRL : Hid (∀ _ : Unit, (if rlOk cs = true then (0 : Int) else 90) = 90) := fun _ => by rw [hrl]; rfl
  have HRO : Hid (∀ _ : Unit, rlOk cs = false) := fun _ => hrl
  have HBL : Hid (∀ _ : Unit, (if rbOk cs = true then (0 : Int) else 90) = 90) := fun _ => by rw [hrb]; rfl
  have HBO : Hid (∀ _ : Unit, rbOk cs = false) := fun _ => hrb
  have HKD : Hid (∀ _ : Unit, kindOf cs = 1) := fun _ => hkd
  obtain ⟨X, hX⟩ : ∃ x, rlOut cs = x := ⟨_, rfl⟩
  obtain ⟨KO, hKO⟩ : ∃ x, rbOutK cs = x := ⟨_, rfl⟩
  obtain ⟨IQ, hIQ⟩ : ∃ x, rbOutI cs = x := ⟨_, rfl⟩
  have HXO : Hid (∀ _ : Unit, rlOut cs = X) := fun _ => hX
  have HKO : Hid (∀ _ : Unit, rbOutK cs = KO) := fun _ => hKO
  have HIQ : Hid (∀ _ : Unit, rbOutI cs = IQ) := fun _ => hIQ
  have HXL : Hid (X.length ≤ 1000) := by rw [← hX]; exact rlOut_few cs
  have HKL : Hid (KO.length ≤ 1000) := by rw [← hKO]; exact (rbOut_few cs).1
  have HIL : Hid (IQ.length ≤ 1000) := by rw [← hIQ]; exact (rbOut_few cs).2
  have hni : (N : Int) > 0 := by omega
  have HCELL : Hid (∀ W, Below w.heap.size w W → W.cell? ⟨b, off, none⟩ = some (.int .u8 1)) := by
    intro W hW
    obtain ⟨_, _, hs⟩ := (SlOld.below hv hW).src0
    obtain ⟨b', off', hp, hseg⟩ := hs (by omega)
    simp only [Option.some.injEq, Addr.mk.injEq] at hp
    obtain ⟨rfl, rfl, _⟩ := hp
    have h9 := hseg 0 (by omega)
    rw [Nat.add_zero, hc] at h9
    exact h9
  clear hc
  clear hN hv hcb hrl hrb hkd hX hKO hIQ
  go_enter Try.func3, Try.ntmps3
  go_wp2_with (first
    | (go_at_call 4; refine (known_any _).mono ?_; rintro e wk ⟨rfl, hb⟩; replace hm := hm.call hb; clear hb)
    | ((with_reducible refine at_op (some 21) (.call { callee := .builtin .append, args := #[.const (.slice none 0 0), .tmp 20], argTypes := #[22, 22] }) ?_); have HBWwk : Hid (Below w.heap.size w wk) := hm.below; clear hm; have hm := Mem.start wk; go_must (refine wpl_app rfl un_bs made_u8 cs hm (OwnB.nil _ _ _) (fun r hr => by cases hr) rfl rfl HN.out.symm (SlOld.below HV.out HBWwk.out).src0.2.2 (by have h9 := HN.out; simp; omega) ?_); clear hm; intro v1 w1 hown hm; have HSw1 : Hid (SlOld w1 v1 cs) := hown.old; have hb := hm.below; replace hm : Mem w [] w1 [] := ((Mem.start w).call HBWwk.out).call hb; clear hown hb)
    | (go_at_call 5; refine (readLeaf_any cs _ HB.out _ HSw1.out).mono ?_; rintro e w2 ⟨v2, he, hs, hb⟩; rw [HRL.out ()] at he; rw [HXO.out ()] at hs; subst he; have HAw2 : Hid (SlP w2 v2 X) := hs; replace hm := hm.call hb; clear hb hs)
    | (go_at_call 6; refine (readLR_any cs _ H600.out HB.out _ (SlOld.below HV.out hm.below)).mono ?_; rintro e w3 ⟨v3, he, hs, hb⟩; rw [HRO.out ()] at he; rw [HXO.out ()] at hs; subst he; have HDw3 : Hid (SlP w3 v3 X) := hs; have HAw3 : Hid (SlP w3 v2 X) := SlV.below HAw2.out hb; replace hm := hm.call hb; clear hb hs)
    | ((with_reducible refine at_op (some 32) (.call { callee := .builtin .append, args := #[.const (.slice none 0 0), .tmp 31], argTypes := #[22, 22] }) ?_); have HBWw3 : Hid (Below w.heap.size w w3) := hm.below; clear hm; have hm := Mem.start w3; go_must (refine wpl_app rfl un_bs made_u8 cs hm (OwnB.nil _ _ _) (fun r hr => by cases hr) rfl rfl HN.out.symm (SlOld.below HV.out HBWw3.out).src0.2.2 (by have h9 := HN.out; simp; omega) ?_); clear hm; intro v4 w4 hown hm; have HSw4 : Hid (SlOld w4 v4 cs) := hown.old; have hb := hm.below; have HAw4 : Hid (SlP w4 v2 X) := SlV.below HAw3.out hb; have HDw4 : Hid (SlP w4 v3 X) := SlV.below HDw3.out hb; replace hm : Mem w [] w4 [] := ((Mem.start w).call HBWw3.out).call hb; clear hown hb)
    | (go_at_call 7; refine (readBranch_any cs _ HB.out _ HSw4.out).mono ?_; rintro e w5 ⟨v5, u5, he, hs, hs2, hb⟩; rw [HBL.out ()] at he; rw [HKO.out ()] at hs; rw [HIQ.out ()] at hs2; subst he; have HKw5 : Hid (SlS w5 v5 KO) := hs; have HIw5 : Hid (SlU w5 u5 IQ) := hs2; have HAw5 : Hid (SlP w5 v2 X) := SlV.below HAw4.out hb; have HDw5 : Hid (SlP w5 v3 X) := SlV.below HDw4.out hb; replace hm := hm.call hb; clear hb hs hs2)
    | (go_at_call 8; refine (readBR_any cs _ H600.out HB.out _ (SlOld.below HV.out hm.below)).mono ?_; rintro e w6 ⟨v6, u6, he, hs, hs2, hb⟩; rw [HBO.out ()] at he; rw [HKO.out ()] at hs; rw [HIQ.out ()] at hs2; subst he; have HLw6 : Hid (SlS w6 v6 KO) := hs; have HJw6 : Hid (SlU w6 u6 IQ) := hs2; have HAw6 : Hid (SlP w6 v2 X) := SlV.below HAw5.out hb; have HDw6 : Hid (SlP w6 v3 X) := SlV.below HDw5.out hb; have HKw6 : Hid (SlS w6 v5 KO) := SlV.below HKw5.out hb; have HIw6 : Hid (SlU w6 u5 IQ) := SlV.below HIw5.out hb; replace hm := hm.call hb; clear hb hs hs2; have hcell : w6.cell? ⟨b, off, none⟩ = some (.int .u8 1) := HCELL.out _ hm.below)
    | (go_at_call 9; refine (pairs_any X X _ _ HXL.out _ HAw6.out HDw6.out).mono ?_; rintro e w7 ⟨hans, hb⟩; have he := hans.is_true rfl; subst he; have HKw7 : Hid (SlS w7 v5 KO) := SlV.below HKw6.out hb; have HIw7 : Hid (SlU w7 u5 IQ) := SlV.below HIw6.out hb; have HLw7 : Hid (SlS w7 v6 KO) := SlV.below HLw6.out hb; have HJw7 : Hid (SlU w7 u6 IQ) := SlV.below HJw6.out hb; replace hm := hm.call hb; clear hb hans)
    | (go_at_call 10; refine (same_any KO KO IQ IQ _ _ _ _ HKL.out HIL.out _ HKw7.out HIw7.out HLw7.out HJw7.out).mono ?_; rintro e w8 ⟨hans, hb⟩; have he := hans.is_true ⟨rfl, rfl⟩; subst he; replace hm := hm.call hb; clear hb hans)
    | (go_at_call 11; refine (kind_any cs _ _ (SlOld.below HV.out hm.below)).mono ?_; rintro e w9 ⟨he, hw⟩; rw [HKD.out ()] at he; subst he; replace hw := hw.symm; subst hw))
  go_ret
  exact ⟨rfl, hm.below⟩
set_option maxHeartbeats 4000000 in
set_option maxRecDepth 100000 in
theorem reads_two (cs : List Int) (b off : Nat) (N cap : Nat) (hN : cs.length = N) (h600 : ¬ 600 < N) (hcb : Bytes cs) (hrl : rlOk cs = false) (hrb : rbOk cs = false) (hkd : kindOf cs = 2) (h0 : 0 < N) (hc : cs.getD 0 0 = 2) (w : World) (hv : SlOld w (.slice (some ⟨b, off, none⟩) N cap) cs) :
    Calls Try.prog 3 #[.slice (some ⟨b, off, none⟩) N cap] w fun e w' => e = .returned (.bool true) ∧ Below w.heap.size w w' := by
  have hm := Mem.start w
  have i1 : ¬ (N : Int) > 600 := by omega
  have H600 : Hid (cs.length ≤ 600) := by show _ ≤ _; omega
  have HV : Hid (SlOld w (.slice (some ⟨b, off, none⟩) N cap) cs) := hv
  have HN : Hid (cs.length = N) := hN
  have HB : Hid (Bytes cs) := hcb
  have HRL : Hid (∀ _ : Unit, (if rlOk cs = true then (0 : Int) else 90) = 90) := fun _ => by rw [hrl]; rfl
  have HRO : Hid (∀ _ : Unit, rlOk cs = false) := fun _ => hrl
  have HBL : Hid (∀ _ : Unit, (if rbOk cs = true then (0 : Int) else 90) = 90) := fun _ => by rw [hrb]; rfl
  have HBO : Hid (∀ _ : Unit, rbOk cs = false) := fun _ => hrb
  have HKD : Hid (∀ _ : Unit, kindOf cs = 2) := fun _ => hkd
  obtain ⟨X, hX⟩ : ∃ x, rlOut cs = x := ⟨_, rfl⟩
  obtain ⟨KO, hKO⟩ : ∃ x, rbOutK cs = x := ⟨_, rfl⟩
  obtain ⟨IQ, hIQ⟩ : ∃ x, rbOutI cs = x := ⟨_, rfl⟩
  have HXO : Hid (∀ _ : Unit, rlOut cs = X) := fun _ => hX
  have HKO : Hid (∀ _ : Unit, rbOutK cs = KO) := fun _ => hKO
  have HIQ : Hid (∀ _ : Unit, rbOutI cs = IQ) := fun _ => hIQ
  have HXL : Hid (X.length ≤ 1000) := by rw [← hX]; exact rlOut_few cs
  have HKL : Hid (KO.length ≤ 1000) := by rw [← hKO]; exact (rbOut_few cs).1
  have HIL : Hid (IQ.length ≤ 1000) := by rw [← hIQ]; exact (rbOut_few cs).2
  have hni : (N : Int) > 0 := by omega
  have HCELL : Hid (∀ W, Below w.heap.size w W → W.cell? ⟨b, off, none⟩ = some (.int .u8 2)) := by
    intro W hW
    obtain ⟨_, _, hs⟩ := (SlOld.below hv hW).src0
    obtain ⟨b', off', hp, hseg⟩ := hs (by omega)
    simp only [Option.some.injEq, Addr.mk.injEq] at hp
    obtain ⟨rfl, rfl, _⟩ := hp
    have h9 := hseg 0 (by omega)
    rw [Nat.add_zero, hc] at h9
    exact h9
  clear hc
  clear hN hv hcb hrl hrb hkd hX hKO hIQ
  go_enter Try.func3, Try.ntmps3
  go_wp2_with (first
    | (go_at_call 4; refine (known_any _).mono ?_; rintro e wk ⟨rfl, hb⟩; replace hm := hm.call hb; clear hb)
    | ((with_reducible refine at_op (some 21) (.call { callee := .builtin .append, args := #[.const (.slice none 0 0), .tmp 20], argTypes := #[22, 22] }) ?_); have HBWwk : Hid (Below w.heap.size w wk) := hm.below; clear hm; have hm := Mem.start wk; go_must (refine wpl_app rfl un_bs made_u8 cs hm (OwnB.nil _ _ _) (fun r hr => by cases hr) rfl rfl HN.out.symm (SlOld.below HV.out HBWwk.out).src0.2.2 (by have h9 := HN.out; simp; omega) ?_); clear hm; intro v1 w1 hown hm; have HSw1 : Hid (SlOld w1 v1 cs) := hown.old; have hb := hm.below; replace hm : Mem w [] w1 [] := ((Mem.start w).call HBWwk.out).call hb; clear hown hb)
    | (go_at_call 5; refine (readLeaf_any cs _ HB.out _ HSw1.out).mono ?_; rintro e w2 ⟨v2, he, hs, hb⟩; rw [HRL.out ()] at he; rw [HXO.out ()] at hs; subst he; have HAw2 : Hid (SlP w2 v2 X) := hs; replace hm := hm.call hb; clear hb hs)
    | (go_at_call 6; refine (readLR_any cs _ H600.out HB.out _ (SlOld.below HV.out hm.below)).mono ?_; rintro e w3 ⟨v3, he, hs, hb⟩; rw [HRO.out ()] at he; rw [HXO.out ()] at hs; subst he; have HDw3 : Hid (SlP w3 v3 X) := hs; have HAw3 : Hid (SlP w3 v2 X) := SlV.below HAw2.out hb; replace hm := hm.call hb; clear hb hs)
    | ((with_reducible refine at_op (some 32) (.call { callee := .builtin .append, args := #[.const (.slice none 0 0), .tmp 31], argTypes := #[22, 22] }) ?_); have HBWw3 : Hid (Below w.heap.size w w3) := hm.below; clear hm; have hm := Mem.start w3; go_must (refine wpl_app rfl un_bs made_u8 cs hm (OwnB.nil _ _ _) (fun r hr => by cases hr) rfl rfl HN.out.symm (SlOld.below HV.out HBWw3.out).src0.2.2 (by have h9 := HN.out; simp; omega) ?_); clear hm; intro v4 w4 hown hm; have HSw4 : Hid (SlOld w4 v4 cs) := hown.old; have hb := hm.below; have HAw4 : Hid (SlP w4 v2 X) := SlV.below HAw3.out hb; have HDw4 : Hid (SlP w4 v3 X) := SlV.below HDw3.out hb; replace hm : Mem w [] w4 [] := ((Mem.start w).call HBWw3.out).call hb; clear hown hb)
    | (go_at_call 7; refine (readBranch_any cs _ HB.out _ HSw4.out).mono ?_; rintro e w5 ⟨v5, u5, he, hs, hs2, hb⟩; rw [HBL.out ()] at he; rw [HKO.out ()] at hs; rw [HIQ.out ()] at hs2; subst he; have HKw5 : Hid (SlS w5 v5 KO) := hs; have HIw5 : Hid (SlU w5 u5 IQ) := hs2; have HAw5 : Hid (SlP w5 v2 X) := SlV.below HAw4.out hb; have HDw5 : Hid (SlP w5 v3 X) := SlV.below HDw4.out hb; replace hm := hm.call hb; clear hb hs hs2)
    | (go_at_call 8; refine (readBR_any cs _ H600.out HB.out _ (SlOld.below HV.out hm.below)).mono ?_; rintro e w6 ⟨v6, u6, he, hs, hs2, hb⟩; rw [HBO.out ()] at he; rw [HKO.out ()] at hs; rw [HIQ.out ()] at hs2; subst he; have HLw6 : Hid (SlS w6 v6 KO) := hs; have HJw6 : Hid (SlU w6 u6 IQ) := hs2; have HAw6 : Hid (SlP w6 v2 X) := SlV.below HAw5.out hb; have HDw6 : Hid (SlP w6 v3 X) := SlV.below HDw5.out hb; have HKw6 : Hid (SlS w6 v5 KO) := SlV.below HKw5.out hb; have HIw6 : Hid (SlU w6 u5 IQ) := SlV.below HIw5.out hb; replace hm := hm.call hb; clear hb hs hs2; have hcell : w6.cell? ⟨b, off, none⟩ = some (.int .u8 2) := HCELL.out _ hm.below)
    | (go_at_call 9; refine (pairs_any X X _ _ HXL.out _ HAw6.out HDw6.out).mono ?_; rintro e w7 ⟨hans, hb⟩; have he := hans.is_true rfl; subst he; have HKw7 : Hid (SlS w7 v5 KO) := SlV.below HKw6.out hb; have HIw7 : Hid (SlU w7 u5 IQ) := SlV.below HIw6.out hb; have HLw7 : Hid (SlS w7 v6 KO) := SlV.below HLw6.out hb; have HJw7 : Hid (SlU w7 u6 IQ) := SlV.below HJw6.out hb; replace hm := hm.call hb; clear hb hans)
    | (go_at_call 10; refine (same_any KO KO IQ IQ _ _ _ _ HKL.out HIL.out _ HKw7.out HIw7.out HLw7.out HJw7.out).mono ?_; rintro e w8 ⟨hans, hb⟩; have he := hans.is_true ⟨rfl, rfl⟩; subst he; replace hm := hm.call hb; clear hb hans)
    | (go_at_call 11; refine (kind_any cs _ _ (SlOld.below HV.out hm.below)).mono ?_; rintro e w9 ⟨he, hw⟩; rw [HKD.out ()] at he; subst he; replace hw := hw.symm; subst hw))
  go_ret
  exact ⟨rfl, hm.below⟩
set_option maxHeartbeats 4000000 in
set_option maxRecDepth 100000 in
theorem reads_other (cs : List Int) (b off : Nat) (c : Int) (N cap : Nat) (hN : cs.length = N) (h600 : ¬ 600 < N) (hcb : Bytes cs) (hrl : rlOk cs = false) (hrb : rbOk cs = false) (hkd : kindOf cs = 0) (h0 : 0 < N) (hc : cs.getD 0 0 = c) (hb1 : (c == 1) = false) (hb2 : (c == 2) = false) (w : World) (hv : SlOld w (.slice (some ⟨b, off, none⟩) N cap) cs) :
    Calls Try.prog 3 #[.slice (some ⟨b, off, none⟩) N cap] w fun e w' => e = .returned (.bool true) ∧ Below w.heap.size w w' := by
  have hm := Mem.start w
  have i1 : ¬ (N : Int) > 600 := by omega
  have H600 : Hid (cs.length ≤ 600) := by show _ ≤ _; omega
  have HV : Hid (SlOld w (.slice (some ⟨b, off, none⟩) N cap) cs) := hv
  have HN : Hid (cs.length = N) := hN
  have HB : Hid (Bytes cs) := hcb
  have HRL : Hid (∀ _ : Unit, (if rlOk cs = true then (0 : Int) else 90) = 90) := fun _ => by rw [hrl]; rfl
  have HRO : Hid (∀ _ : Unit, rlOk cs = false) := fun _ => hrl
  have HBL : Hid (∀ _ : Unit, (if rbOk cs = true then (0 : Int) else 90) = 90) := fun _ => by rw [hrb]; rfl
  have HBO : Hid (∀ _ : Unit, rbOk cs = false) := fun _ => hrb
  have HKD : Hid (∀ _ : Unit, kindOf cs = 0) := fun _ => hkd
  obtain ⟨X, hX⟩ : ∃ x, rlOut cs = x := ⟨_, rfl⟩
  obtain ⟨KO, hKO⟩ : ∃ x, rbOutK cs = x := ⟨_, rfl⟩
  obtain ⟨IQ, hIQ⟩ : ∃ x, rbOutI cs = x := ⟨_, rfl⟩
  have HXO : Hid (∀ _ : Unit, rlOut cs = X) := fun _ => hX
  have HKO : Hid (∀ _ : Unit, rbOutK cs = KO) := fun _ => hKO
  have HIQ : Hid (∀ _ : Unit, rbOutI cs = IQ) := fun _ => hIQ
  have HXL : Hid (X.length ≤ 1000) := by rw [← hX]; exact rlOut_few cs
  have HKL : Hid (KO.length ≤ 1000) := by rw [← hKO]; exact (rbOut_few cs).1
  have HIL : Hid (IQ.length ≤ 1000) := by rw [← hIQ]; exact (rbOut_few cs).2
  have hni : (N : Int) > 0 := by omega
  have HCELL : Hid (∀ W, Below w.heap.size w W → W.cell? ⟨b, off, none⟩ = some (.int .u8 c)) := by
    intro W hW
    obtain ⟨_, _, hs⟩ := (SlOld.below hv hW).src0
    obtain ⟨b', off', hp, hseg⟩ := hs (by omega)
    simp only [Option.some.injEq, Addr.mk.injEq] at hp
    obtain ⟨rfl, rfl, _⟩ := hp
    have h9 := hseg 0 (by omega)
    rw [Nat.add_zero, hc] at h9
    exact h9
  clear hc
  clear hN hv hcb hrl hrb hkd hX hKO hIQ
  go_enter Try.func3, Try.ntmps3
  go_wp2_with (first
    | (go_at_call 4; refine (known_any _).mono ?_; rintro e wk ⟨rfl, hb⟩; replace hm := hm.call hb; clear hb)
    | ((with_reducible refine at_op (some 21) (.call { callee := .builtin .append, args := #[.const (.slice none 0 0), .tmp 20], argTypes := #[22, 22] }) ?_); have HBWwk : Hid (Below w.heap.size w wk) := hm.below; clear hm; have hm := Mem.start wk; go_must (refine wpl_app rfl un_bs made_u8 cs hm (OwnB.nil _ _ _) (fun r hr => by cases hr) rfl rfl HN.out.symm (SlOld.below HV.out HBWwk.out).src0.2.2 (by have h9 := HN.out; simp; omega) ?_); clear hm; intro v1 w1 hown hm; have HSw1 : Hid (SlOld w1 v1 cs) := hown.old; have hb := hm.below; replace hm : Mem w [] w1 [] := ((Mem.start w).call HBWwk.out).call hb; clear hown hb)
    | (go_at_call 5; refine (readLeaf_any cs _ HB.out _ HSw1.out).mono ?_; rintro e w2 ⟨v2, he, hs, hb⟩; rw [HRL.out ()] at he; rw [HXO.out ()] at hs; subst he; have HAw2 : Hid (SlP w2 v2 X) := hs; replace hm := hm.call hb; clear hb hs)
    | (go_at_call 6; refine (readLR_any cs _ H600.out HB.out _ (SlOld.below HV.out hm.below)).mono ?_; rintro e w3 ⟨v3, he, hs, hb⟩; rw [HRO.out ()] at he; rw [HXO.out ()] at hs; subst he; have HDw3 : Hid (SlP w3 v3 X) := hs; have HAw3 : Hid (SlP w3 v2 X) := SlV.below HAw2.out hb; replace hm := hm.call hb; clear hb hs)
    | ((with_reducible refine at_op (some 32) (.call { callee := .builtin .append, args := #[.const (.slice none 0 0), .tmp 31], argTypes := #[22, 22] }) ?_); have HBWw3 : Hid (Below w.heap.size w w3) := hm.below; clear hm; have hm := Mem.start w3; go_must (refine wpl_app rfl un_bs made_u8 cs hm (OwnB.nil _ _ _) (fun r hr => by cases hr) rfl rfl HN.out.symm (SlOld.below HV.out HBWw3.out).src0.2.2 (by have h9 := HN.out; simp; omega) ?_); clear hm; intro v4 w4 hown hm; have HSw4 : Hid (SlOld w4 v4 cs) := hown.old; have hb := hm.below; have HAw4 : Hid (SlP w4 v2 X) := SlV.below HAw3.out hb; have HDw4 : Hid (SlP w4 v3 X) := SlV.below HDw3.out hb; replace hm : Mem w [] w4 [] := ((Mem.start w).call HBWw3.out).call hb; clear hown hb)
    | (go_at_call 7; refine (readBranch_any cs _ HB.out _ HSw4.out).mono ?_; rintro e w5 ⟨v5, u5, he, hs, hs2, hb⟩; rw [HBL.out ()] at he; rw [HKO.out ()] at hs; rw [HIQ.out ()] at hs2; subst he; have HKw5 : Hid (SlS w5 v5 KO) := hs; have HIw5 : Hid (SlU w5 u5 IQ) := hs2; have HAw5 : Hid (SlP w5 v2 X) := SlV.below HAw4.out hb; have HDw5 : Hid (SlP w5 v3 X) := SlV.below HDw4.out hb; replace hm := hm.call hb; clear hb hs hs2)
    | (go_at_call 8; refine (readBR_any cs _ H600.out HB.out _ (SlOld.below HV.out hm.below)).mono ?_; rintro e w6 ⟨v6, u6, he, hs, hs2, hb⟩; rw [HBO.out ()] at he; rw [HKO.out ()] at hs; rw [HIQ.out ()] at hs2; subst he; have HLw6 : Hid (SlS w6 v6 KO) := hs; have HJw6 : Hid (SlU w6 u6 IQ) := hs2; have HAw6 : Hid (SlP w6 v2 X) := SlV.below HAw5.out hb; have HDw6 : Hid (SlP w6 v3 X) := SlV.below HDw5.out hb; have HKw6 : Hid (SlS w6 v5 KO) := SlV.below HKw5.out hb; have HIw6 : Hid (SlU w6 u5 IQ) := SlV.below HIw5.out hb; replace hm := hm.call hb; clear hb hs hs2; have hcell : w6.cell? ⟨b, off, none⟩ = some (.int .u8 c) := HCELL.out _ hm.below)
    | (go_at_call 9; refine (pairs_any X X _ _ HXL.out _ HAw6.out HDw6.out).mono ?_; rintro e w7 ⟨hans, hb⟩; have he := hans.is_true rfl; subst he; have HKw7 : Hid (SlS w7 v5 KO) := SlV.below HKw6.out hb; have HIw7 : Hid (SlU w7 u5 IQ) := SlV.below HIw6.out hb; have HLw7 : Hid (SlS w7 v6 KO) := SlV.below HLw6.out hb; have HJw7 : Hid (SlU w7 u6 IQ) := SlV.below HJw6.out hb; replace hm := hm.call hb; clear hb hans)
    | (go_at_call 10; refine (same_any KO KO IQ IQ _ _ _ _ HKL.out HIL.out _ HKw7.out HIw7.out HLw7.out HJw7.out).mono ?_; rintro e w8 ⟨hans, hb⟩; have he := hans.is_true ⟨rfl, rfl⟩; subst he; replace hm := hm.call hb; clear hb hans)
    | (go_at_call 11; refine (kind_any cs _ _ (SlOld.below HV.out hm.below)).mono ?_; rintro e w9 ⟨he, hw⟩; rw [HKD.out ()] at he; subst he; replace hw := hw.symm; subst hw))
  go_ret
  exact ⟨rfl, hm.below⟩
set_option maxHeartbeats 4000000 in
set_option maxRecDepth 100000 in
theorem reads_none (cs : List Int) (p : Option Addr) (N cap : Nat) (hN : cs.length = N) (h600 : ¬ 600 < N) (hcb : Bytes cs) (hrl : rlOk cs = false) (hrb : rbOk cs = false) (hkd : kindOf cs = 0) (h0 : N = 0) (w : World) (hv : SlOld w (.slice p N cap) cs) :
    Calls Try.prog 3 #[.slice p N cap] w fun e w' => e = .returned (.bool true) ∧ Below w.heap.size w w' := by
  have hm := Mem.start w
  have i1 : ¬ (N : Int) > 600 := by omega
  have H600 : Hid (cs.length ≤ 600) := by show _ ≤ _; omega
  have HV : Hid (SlOld w (.slice p N cap) cs) := hv
  have HN : Hid (cs.length = N) := hN
  have HB : Hid (Bytes cs) := hcb
  have HRL : Hid (∀ _ : Unit, (if rlOk cs = true then (0 : Int) else 90) = 90) := fun _ => by rw [hrl]; rfl
  have HRO : Hid (∀ _ : Unit, rlOk cs = false) := fun _ => hrl
  have HBL : Hid (∀ _ : Unit, (if rbOk cs = true then (0 : Int) else 90) = 90) := fun _ => by rw [hrb]; rfl
  have HBO : Hid (∀ _ : Unit, rbOk cs = false) := fun _ => hrb
  have HKD : Hid (∀ _ : Unit, kindOf cs = 0) := fun _ => hkd
  obtain ⟨X, hX⟩ : ∃ x, rlOut cs = x := ⟨_, rfl⟩
  obtain ⟨KO, hKO⟩ : ∃ x, rbOutK cs = x := ⟨_, rfl⟩
  obtain ⟨IQ, hIQ⟩ : ∃ x, rbOutI cs = x := ⟨_, rfl⟩
  have HXO : Hid (∀ _ : Unit, rlOut cs = X) := fun _ => hX
  have HKO : Hid (∀ _ : Unit, rbOutK cs = KO) := fun _ => hKO
  have HIQ : Hid (∀ _ : Unit, rbOutI cs = IQ) := fun _ => hIQ
  have HXL : Hid (X.length ≤ 1000) := by rw [← hX]; exact rlOut_few cs
  have HKL : Hid (KO.length ≤ 1000) := by rw [← hKO]; exact (rbOut_few cs).1
  have HIL : Hid (IQ.length ≤ 1000) := by rw [← hIQ]; exact (rbOut_few cs).2
  subst h0
  clear hN hv hcb hrl hrb hkd hX hKO hIQ
  go_enter Try.func3, Try.ntmps3
  go_wp2_with (first
    | (go_at_call 4; refine (known_any _).mono ?_; rintro e wk ⟨rfl, hb⟩; replace hm := hm.call hb; clear hb)
    | ((with_reducible refine at_op (some 21) (.call { callee := .builtin .append, args := #[.const (.slice none 0 0), .tmp 20], argTypes := #[22, 22] }) ?_); have HBWwk : Hid (Below w.heap.size w wk) := hm.below; clear hm; have hm := Mem.start wk; go_must (refine wpl_app rfl un_bs made_u8 cs hm (OwnB.nil _ _ _) (fun r hr => by cases hr) rfl rfl HN.out.symm (SlOld.below HV.out HBWwk.out).src0.2.2 (by have h9 := HN.out; simp; omega) ?_); clear hm; intro v1 w1 hown hm; have HSw1 : Hid (SlOld w1 v1 cs) := hown.old; have hb := hm.below; replace hm : Mem w [] w1 [] := ((Mem.start w).call HBWwk.out).call hb; clear hown hb)
    | (go_at_call 5; refine (readLeaf_any cs _ HB.out _ HSw1.out).mono ?_; rintro e w2 ⟨v2, he, hs, hb⟩; rw [HRL.out ()] at he; rw [HXO.out ()] at hs; subst he; have HAw2 : Hid (SlP w2 v2 X) := hs; replace hm := hm.call hb; clear hb hs)
    | (go_at_call 6; refine (readLR_any cs _ H600.out HB.out _ (SlOld.below HV.out hm.below)).mono ?_; rintro e w3 ⟨v3, he, hs, hb⟩; rw [HRO.out ()] at he; rw [HXO.out ()] at hs; subst he; have HDw3 : Hid (SlP w3 v3 X) := hs; have HAw3 : Hid (SlP w3 v2 X) := SlV.below HAw2.out hb; replace hm := hm.call hb; clear hb hs)
    | ((with_reducible refine at_op (some 32) (.call { callee := .builtin .append, args := #[.const (.slice none 0 0), .tmp 31], argTypes := #[22, 22] }) ?_); have HBWw3 : Hid (Below w.heap.size w w3) := hm.below; clear hm; have hm := Mem.start w3; go_must (refine wpl_app rfl un_bs made_u8 cs hm (OwnB.nil _ _ _) (fun r hr => by cases hr) rfl rfl HN.out.symm (SlOld.below HV.out HBWw3.out).src0.2.2 (by have h9 := HN.out; simp; omega) ?_); clear hm; intro v4 w4 hown hm; have HSw4 : Hid (SlOld w4 v4 cs) := hown.old; have hb := hm.below; have HAw4 : Hid (SlP w4 v2 X) := SlV.below HAw3.out hb; have HDw4 : Hid (SlP w4 v3 X) := SlV.below HDw3.out hb; replace hm : Mem w [] w4 [] := ((Mem.start w).call HBWw3.out).call hb; clear hown hb)
    | (go_at_call 7; refine (readBranch_any cs _ HB.out _ HSw4.out).mono ?_; rintro e w5 ⟨v5, u5, he, hs, hs2, hb⟩; rw [HBL.out ()] at he; rw [HKO.out ()] at hs; rw [HIQ.out ()] at hs2; subst he; have HKw5 : Hid (SlS w5 v5 KO) := hs; have HIw5 : Hid (SlU w5 u5 IQ) := hs2; have HAw5 : Hid (SlP w5 v2 X) := SlV.below HAw4.out hb; have HDw5 : Hid (SlP w5 v3 X) := SlV.below HDw4.out hb; replace hm := hm.call hb; clear hb hs hs2)
    | (go_at_call 8; refine (readBR_any cs _ H600.out HB.out _ (SlOld.below HV.out hm.below)).mono ?_; rintro e w6 ⟨v6, u6, he, hs, hs2, hb⟩; rw [HBO.out ()] at he; rw [HKO.out ()] at hs; rw [HIQ.out ()] at hs2; subst he; have HLw6 : Hid (SlS w6 v6 KO) := hs; have HJw6 : Hid (SlU w6 u6 IQ) := hs2; have HAw6 : Hid (SlP w6 v2 X) := SlV.below HAw5.out hb; have HDw6 : Hid (SlP w6 v3 X) := SlV.below HDw5.out hb; have HKw6 : Hid (SlS w6 v5 KO) := SlV.below HKw5.out hb; have HIw6 : Hid (SlU w6 u5 IQ) := SlV.below HIw5.out hb; replace hm := hm.call hb; clear hb hs hs2)
    | (go_at_call 9; refine (pairs_any X X _ _ HXL.out _ HAw6.out HDw6.out).mono ?_; rintro e w7 ⟨hans, hb⟩; have he := hans.is_true rfl; subst he; have HKw7 : Hid (SlS w7 v5 KO) := SlV.below HKw6.out hb; have HIw7 : Hid (SlU w7 u5 IQ) := SlV.below HIw6.out hb; have HLw7 : Hid (SlS w7 v6 KO) := SlV.below HLw6.out hb; have HJw7 : Hid (SlU w7 u6 IQ) := SlV.below HJw6.out hb; replace hm := hm.call hb; clear hb hans)
    | (go_at_call 10; refine (same_any KO KO IQ IQ _ _ _ _ HKL.out HIL.out _ HKw7.out HIw7.out HLw7.out HJw7.out).mono ?_; rintro e w8 ⟨hans, hb⟩; have he := hans.is_true ⟨rfl, rfl⟩; subst he; replace hm := hm.call hb; clear hb hans)
    | (go_at_call 11; refine (kind_any cs _ _ (SlOld.below HV.out hm.below)).mono ?_; rintro e w9 ⟨he, hw⟩; rw [HKD.out ()] at he; subst he; replace hw := hw.symm; subst hw))
  go_ret
  exact ⟨rfl, hm.below⟩
set_option maxRecDepth 100000 in
theorem nodeReads_walk (cs : List Int) (v : Value) (hcb : Bytes cs) (w : World) (hv : SlOld w v cs) :
    Calls Try.prog 3 #[v] w fun e w' => e = .returned (.bool true) ∧ Below w.heap.size w w' := by
  have hv2 := hv
  obtain ⟨p, cap, rfl, hcap, hs⟩ := hv
  by_cases h600 : 600 < cs.length
  · exact reads_out p _ cap h600 w
  · by_cases h0 : 0 < cs.length
    · obtain ⟨b, off, rfl, _⟩ := hs h0
      by_cases h1 : cs.getD 0 0 = 1
      · have hkd : kindOf cs = 1 := by rw [kindOf, if_pos ⟨h0, Or.inl h1⟩, h1]
        have hrb : rbOk cs = false := by
          cases h : rbOk cs with
          | false => rfl
          | true => have := (rb_first h).2; omega
        cases h : rlOk cs with
        | true => exact reads_leaf cs b off _ cap rfl h600 hcb h hrb hkd h0 h1 w hv2
        | false => exact reads_one cs b off _ cap rfl h600 hcb h hrb hkd h0 h1 w hv2
      · have hrl : rlOk cs = false := by
          cases h : rlOk cs with
          | false => rfl
          | true => exact absurd (rl_first h).2 h1
        by_cases h2 : cs.getD 0 0 = 2
        · have hkd : kindOf cs = 2 := by rw [kindOf, if_pos ⟨h0, Or.inr h2⟩, h2]
          cases h : rbOk cs with
          | true => exact reads_branch cs b off _ cap rfl h600 hcb hrl h hkd h0 h2 w hv2
          | false => exact reads_two cs b off _ cap rfl h600 hcb hrl h hkd h0 h2 w hv2
        · have hrb : rbOk cs = false := by
            cases h : rbOk cs with
            | false => rfl
            | true => exact absurd (rb_first h).2 h2
          have hkd : kindOf cs = 0 := by rw [kindOf, if_neg (by rintro ⟨_, h3 | h3⟩; exact h1 h3; exact h2 h3)]
          exact reads_other cs b off _ _ cap rfl h600 hcb hrl hrb hkd h0 rfl (by simpa using h1) (by simpa using h2) w hv2
    · have hrl : rlOk cs = false := by
        cases h : rlOk cs with
        | false => rfl
        | true => exact absurd (rl_first h).1 h0
      have hrb : rbOk cs = false := by
        cases h : rbOk cs with
        | false => rfl
        | true => exact absurd (rb_first h).1 h0
      have hkd : kindOf cs = 0 := by rw [kindOf, if_neg (fun h => h0 h.1)]
      exact reads_none cs p _ cap rfl h600 hcb hrl hrb hkd (by omega) w hv2
end Go.Proofs.Ytnahflppggoplaa
