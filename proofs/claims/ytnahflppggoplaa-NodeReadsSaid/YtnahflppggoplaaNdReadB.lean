/- Package node: ReadBranch. -/
import Derived.Test.YtnahflppggoplaaNdBranch
import Derived.Test.YtnahflppggoplaaNdKids
import Derived.Test.YtnahflppggoplaaNdReadL
namespace Go.Proofs.Ytnahflppggoplaa
open Go Go.RowKit
set_option maxHeartbeats 1000000 in
set_option maxRecDepth 100000 in
theorem readBranch_no (cs : List Int) (p : Option Addr) (n cap : Nat) (hn : cs.length = n) (hh : headB cs 2 = false) (w : World) (hv : SlOld w (.slice p n cap) cs) :
    Calls Try.prog 7 #[.slice p n cap] w fun e w' => e = .returned (.tuple #[.slice none 0 0, .slice none 0 0, .int .i64 90]) ∧ w' = w := by
  have HV : Hid (SlOld w (.slice p n cap) cs) := hv
  have HN : Hid (cs.length = n) := hn
  have HH : Hid (headB cs 2 = false) := hh
  clear hv hn hh
  go_enter Try.func7, Try.ntmps7
  go_wp2_with (first
    | (go_at_call 15; refine (headed_any cs p n cap 2 HN.out (Or.inr rfl) _ HV.out).mono ?_; rintro e w1 ⟨he, hw⟩; rw [HH.out] at he; subst he; replace hw := hw.symm; subst hw))
  go_ret3
  exact ⟨rfl, rfl⟩
set_option maxHeartbeats 4000000 in
set_option maxRecDepth 100000 in
theorem readBranch_go (cs r : List Int) (b off N cap C : Nat) (hN : cs.length = N) (h3 : 3 ≤ N) (h480 : N ≤ 480) (hh : headB cs 2 = true) (hC : cnt cs = C) (hrr : cs.drop 3 = r) (hcb : Bytes cs) (w : World) (hv : SlOld w (.slice (some ⟨b, off, none⟩) N cap) cs) :
    Calls Try.prog 7 #[.slice (some ⟨b, off, none⟩) N cap] w fun e w' => (rbOk cs = false ∧ e = .returned (.tuple #[.slice none 0 0, .slice none 0 0, .int .i64 90]) ∨ rbOk cs = true ∧ ∃ v' u', e = .returned (.tuple #[v', u', .int .i64 0]) ∧ SlS w' v' (rbKeys cs) ∧ SlU w' u' (rbKids cs)) ∧ Below w.heap.size w w' := by
  have HV : Hid (SlOld w (.slice (some ⟨b, off, none⟩) N cap) cs) := hv
  have HSG : Hid (Seg w b off cs) := by
    obtain ⟨_, _, hs⟩ := hv.src0
    obtain ⟨b', off', hp, hseg⟩ := hs (by omega)
    simp only [Option.some.injEq, Addr.mk.injEq] at hp
    obtain ⟨rfl, rfl, _⟩ := hp
    exact hseg
  have HN : Hid (cs.length = N) := hN
  have HH : Hid (headB cs 2 = true) := hh
  have HC : Hid (cnt cs = C) := hC
  have HRR : Hid (∀ _ : Unit, cs.drop 3 = r) := fun _ => hrr
  have HB : Hid (Bytes cs) := hcb
  have HRB : Hid (Bytes r) := by show Bytes _; rw [← hrr]; exact hcb.drop 3
  have HRL : Hid (r.length = N - 3) := by show _ = _; rw [← hrr, List.length_drop, hN]
  have hCl : C ≤ 65535 := by
    have h1 := Bytes.get hcb 1
    have h2 := Bytes.get hcb 2
    rw [← hC]; unfold cnt; omega
  have hm := Mem.start w
  have HR3 : Hid (SlR w.heap.size w (.slice (cutLo (some ⟨b, off, none⟩) cap 3) (N - 3) (cap - 3)) r) := by
    have h9 := sr_lo hv 3 h3
    rw [hrr] at h9
    exact h9
  obtain ⟨P3, hP3⟩ : ∃ x, x = cutLo (some ⟨b, off, none⟩) cap 3 := ⟨_, rfl⟩
  obtain ⟨M0, hM0⟩ : ∃ x, x = N - 3 := ⟨_, rfl⟩
  obtain ⟨c0, hc0⟩ : ∃ x, x = cap - 3 := ⟨_, rfl⟩
  have HSL : Hid (∀ W : World, ∀ a : Act, ∀ (dst : Option Tmp) (typ : TypeId) (pos : String) (aft : Array Edge), a.eval (.tmp 16) = .slice (some ⟨b, off, none⟩) N cap → (execOp a.eval { dst := dst, op := .slice 22 (.tmp 16) (some (.const (.int .i64 3))) none none, type := typ, pos := pos, after := aft, guard := none }).run Try.prog W = .ok (.value (.slice P3 M0 c0)) W) := by
    intro W a dst typ pos aft h
    rw [hP3, hM0, hc0]
    exact exec_sLo un_bs sz_u8 3 h3 h rfl rfl
  rw [← hP3, ← hM0, ← hc0] at HR3
  rw [← hM0] at HRL
  have hM0b : M0 ≤ 480 := by omega
  clear hv hN hh hC hrr hcb hP3 hM0 hc0
  go_enter Try.func7, Try.ntmps7
  go_wp2_with (first
    | (go_at_call 15; refine (headed_any cs _ N cap 2 HN.out (Or.inr rfl) _ HV.out).mono ?_; rintro e w1 ⟨he, hw⟩; rw [HH.out] at he; subst he; replace hw := hw.symm; subst hw)
    | ((with_reducible refine at_op (some 17) (.slice 22 (.tmp 16) (some (.const (.int .i64 3))) none none) ?_); go_must (refine wpl_execG (.slice P3 M0 c0) rfl (HSL.out _ _ _ _ _ _ rfl) ?_))
    | (go_at_call 16; refine (count_any cs b off N cap HN.out h3 HB.out _ HSG.out).mono ?_; rintro e w2 ⟨he, hb⟩; rw [HC.out] at he; subst he; replace hm := hm.call hb; clear hb))
  have HST : Hid (SlR w.heap.size w2 (.slice P3 M0 c0) (restK r 0)) := SlR.below HR3.out hm.below
  have HBL : Hid (Below w.heap.size w w2) := hm.below
  clear hm HR3
  go_loopw [5, 6, 20] (fun vl vr vi wr => ∃ k M c : Nat, ∃ pr : Option Addr, k ≤ C ∧ vi = .int .i64 (k : Int) ∧ vr = .slice pr M c ∧ Hid (okK r k = true) ∧ Hid (SlR w.heap.size wr (.slice pr M c) (restK r k)) ∧ Hid (wr.ownsRow w.heap.size 9 1 vl k (strs (listK r k))) ∧ Hid (Below w.heap.size w wr)) (fun _ _ vi _ => C - (intOf vi).toNat)
  case atStart => exact ⟨0, M0, c0, P3, by omega, rfl, rfl, rfl, HST.out, World.ownsRow_nil _ _ _ _, HBL.out⟩
  case round =>
    clear HST HBL
    obtain ⟨k, M, c, pr, hk, rfl, rfl, HOK, HSR, HO, HW⟩ := hrel
    by_cases hlt : k < C
    · have hki : (k : Int) < (C : Int) := by omega
      have hk3 : k ≤ 100000 := by omega
      obtain ⟨R0, hR0⟩ : ∃ x, x = restK r k := ⟨_, rfl⟩
      obtain ⟨R1, hR1⟩ : ∃ x, x = gtRest R0 60 := ⟨_, rfl⟩
      obtain ⟨s1, hs1⟩ : ∃ x, x = gtStr R0 60 := ⟨_, rfl⟩
      obtain ⟨M1, hM1⟩ : ∃ x, x = R1.length := ⟨_, rfl⟩
      have HR0L : Hid (R0.length ≤ 30000) := by show _ ≤ _; have h9 := restK_length r k; have h8 := HRL.out; rw [hR0]; omega
      have HR0B : Hid (Bytes R0) := by show Bytes _; rw [hR0]; exact restK_bytes HRB.out k
      have HRN : Hid (restK r (k + 1) = R1) := by show _ = _; rw [restK, ← hR0, ← hR1]
      have HPN : Hid (strs (listK r (k + 1)) = strs (listK r k) ++ [.string s1]) := by show _ = _; rw [listK, ← hR0, ← hs1]; simp [strs]
      have HGN : Hid (okK r (k + 1) = decide (gtCode R0 60 = 0)) := by show _ = _; rw [okK, HOK.out, ← hR0, Bool.true_and]
      have HS1 : Hid (∀ _ : Unit, gtStr R0 60 = s1) := fun _ => hs1.symm
      have HR1 : Hid (∀ _ : Unit, gtRest R0 60 = R1) := fun _ => hR1.symm
      have HM1 : Hid (R1.length = M1) := hM1.symm
      rw [← hR0] at HSR
      have hm := Mem.start wr
      clear hR0 hR1 hs1 hM1
      by_cases hc1 : gtCode R0 60 = 0
      · have HE1 : Hid (∀ _ : Unit, gtCode R0 60 = 0) := fun _ => hc1
        have HKN : Hid (okK r (k + 1) = true) := by show _ = _; rw [HGN.out, hc1]; rfl
        clear hc1
        go_wp2_with (first
          | (go_at_call 17; refine (getText_at 60 60 rfl R0 _ HR0L.out (by omega) HR0B.out _ (SlR.old (SlR.below HSR.out hm.below))).mono ?_; rintro e w4 ⟨g1, he, hge, hr, hb⟩; rw [HS1.out (), HR1.out (), HM1.out, HE1.out ()] at he; subst he; rw [HR1.out ()] at hr; replace hm := hm.callNew hb hr hge; clear hge hr hb)
          | ((with_reducible refine at_op (some 32) (.buildSlice 30 1 #[(0, .tmp 31)]) ?_); go_must (refine wpl_bsl1 rfl (.string ByteArray.empty) (.string s1) un_strs info_str rfl rfl rfl hm ?_); clear hm; intro w8 g8 hb8 hm; clear hb8)
          | ((with_reducible refine at_op (some 33) (.call { callee := .builtin .append, args := #[.tmp 30, .tmp 32], argTypes := #[30, 30] }) ?_); go_must (refine wpl_appV (.string ByteArray.empty) 1 16 rfl un_strs made_str rfl (by omega) (by omega) (own_below HO.out hm.below) (Nat.le_trans HW.out.size hm.size) rfl rfl (hm.get 0 rfl) rfl (by simp [Value.oneCell']) hk3 ?_); intro v9 w9 ho9 hg9 hl9; have HO9 : Hid (w9.ownsRow w.heap.size 9 1 v9 (k + 1) (strs (listK r k) ++ [.string s1])) := ho9; have HW9 : Hid (Below w.heap.size w w9) := below_grown (below_next HW.out HW.out.size hm.below) (Nat.le_trans HW.out.size hm.size) (own_below HO.out hm.below) hg9; have HR9 : Hid (SlR w.heap.size w9 (.slice (some ⟨g1, 0, none⟩) M1 M1) R1) := SlR.grown (SlR.of_row (hm.get 1 rfl) HM1.out) (own_below HO.out hm.below) (by decide) hg9; clear ho9 hg9 hl9 hm))
        go_roundw
        case rel => exact ⟨k + 1, M1, M1, some ⟨g1, 0, none⟩, by omega, by go_num, rfl, HKN.out, by show SlR _ _ _ _; rw [HRN.out]; exact HR9.out, by show World.ownsRow _ _ _ _ _ _ _; rw [HPN.out]; exact HO9.out, HW9.out⟩
        case measure => simp [intOf]; omega
      · obtain ⟨e1, he1⟩ : ∃ x, x = gtCode R0 60 := ⟨_, rfl⟩
        have HE1 : Hid (∀ _ : Unit, gtCode R0 60 = e1) := fun _ => he1.symm
        have hb1 : (e1 != 0) = true := by rw [he1]; simpa using hc1
        have HNO : Hid (rbOk cs = false) := rb_bad (show k + 1 ≤ cnt cs by rw [HC.out]; omega) (by rw [HRR.out (), HGN.out, decide_eq_false hc1])
        clear hc1 he1
        go_wp2_with (first
          | (go_at_call 17; refine (getText_at 60 60 rfl R0 _ HR0L.out (by omega) HR0B.out _ (SlR.old (SlR.below HSR.out hm.below))).mono ?_; rintro e w4 ⟨g1, he, hge, hr, hb⟩; rw [HS1.out (), HR1.out (), HM1.out, HE1.out ()] at he; subst he; rw [HR1.out ()] at hr; replace hm := hm.callNew hb hr hge; clear hge hr hb))
        go_ret3
        exact ⟨Or.inl ⟨HNO.out, rfl⟩, below_next HW.out HW.out.size hm.below⟩
    · have hkn : C = k := by omega
      subst hkn
      have hni : ¬ (C : Int) < (C : Int) := by omega
      have hss := ss_of (own_sl HO.out) (listK_length r C)
      have HSS : Hid _ := hss
      have hol := okK_len HOK.out
      obtain ⟨T, hT⟩ : ∃ T, restK r C = T := ⟨_, rfl⟩
      have HTL : Hid (T.length ≤ 30000) := by show _ ≤ _; have h9 := restK_length r C; have h8 := HRL.out; rw [← hT]; omega
      have HTB : Hid (Bytes T) := by show Bytes _; rw [← hT]; exact restK_bytes HRB.out C
      obtain ⟨I, hI⟩ : ∃ I, kidsL T (T.length / 4) = I := ⟨_, rfl⟩
      have HIB : Hid (∀ x ∈ I, 0 ≤ x ∧ x < 4294967296) := by rw [← hI]; exact kidsL_bounds HTB.out _
      have HKI : Hid (∀ _ : Unit, kidsL T (T.length / 4) = I) := fun _ => hI
      obtain ⟨L, hL⟩ : ∃ L, listK r C = L := ⟨_, rfl⟩
      have hkk : rbKeys cs = L := by rw [rbKeys, HRR.out (), HC.out, hL]
      have hti : rbKids cs = I := by rw [rbKids, rbTail, HRR.out (), HC.out, hT, hI]
      have HLL : Hid (L.length ≤ 1000) := by show _ ≤ _; rw [← hL, listK_length]; have h8 := HRL.out; omega
      have HYES : Hid (branchCode L I.length = 0 → branchB L I = cs → rbOk cs = true) := fun h1 h2 => rb_yes HH.out (by rw [HRR.out (), HC.out]; exact HOK.out) (by rw [hkk, hti]; exact h1) (by rw [hkk, hti]; exact h2)
      have HNC : Hid (¬ branchCode L I.length = 0 → rbOk cs = false) := fun h => rb_code (by rw [hkk, hti]; exact h)
      have HNE : Hid (¬ branchB L I = cs → rbOk cs = false) := fun h => rb_eq (by rw [hkk, hti]; exact h)
      have HLB : Hid (Bytes (branchB L I)) := branchB_bytes _ _
      have HLO : Hid (branchCode L I.length = 0 → branchOut L I = branchB L I) := fun h => by rw [branchOut, if_pos h]
      have HKK : Hid (∀ _ : Unit, rbKeys cs = L) := fun _ => hkk
      have HTI : Hid (∀ _ : Unit, rbKids cs = I) := fun _ => hti
      rw [hL] at HSS
      rw [hT] at HSR
      have hm := Mem.start wr
      clear hss hol hT hI hL hkk hti
      by_cases hc : branchCode L I.length = 0
      · have HLC : Hid (∀ _ : Unit, branchCode L I.length = 0) := fun _ => hc
        have HLO2 : Hid (∀ _ : Unit, branchOut L I = branchB L I) := fun _ => HLO.out hc
        by_cases he : branchB L I = cs
        · have HEQ : Hid (decide (branchB L I = cs) = true) := decide_eq_true he
          have HY : Hid (rbOk cs = true) := HYES.out hc he
          clear hc he
          go_wp2_with (first
            | (go_at_call 22; refine (kidsOf_any T _ HTL.out HTB.out _ (SlR.old HSR.out)).mono ?_; rintro e w2 ⟨v8, rfl, hsu, hb⟩; rw [HKI.out ()] at hsu; have HSU : Hid (SlU w2 v8 I) := hsu; replace hm := hm.call hb; clear hb hsu)
            | (go_at_call 13; refine (branch_any L I _ _ HLL.out HIB.out _ (SlV.below HSS.out hm.below) HSU.out).mono ?_; rintro e w3 ⟨v9, he, hso, hb⟩; rw [HLC.out ()] at he; subst he; rw [HLO2.out ()] at hso; have HSO : Hid (SlOld w3 v9 (branchB L I)) := hso; have HSU2 : Hid (SlU w3 v8 I) := SlV.below HSU.out hb; replace hm := hm.call hb; clear hb hso)
            | (go_at_call 18; refine (equal_any (branchB L I) cs _ _ HLB.out HB.out _ HSO.out (SlOld.below HV.out (below_next HW.out HW.out.size hm.below))).mono ?_; rintro e w5 ⟨he, hw⟩; rw [HEQ.out] at he; subst he; replace hw := hw.symm; subst hw))
          go_ret3
          exact ⟨Or.inr ⟨HY.out, _, _, rfl, by rw [HKK.out ()]; exact SlV.below HSS.out hm.below, by rw [HTI.out ()]; exact HSU2.out⟩, below_next HW.out HW.out.size hm.below⟩
        · have HEQ : Hid (decide (branchB L I = cs) = false) := decide_eq_false he
          have HNO : Hid (rbOk cs = false) := HNE.out he
          clear hc he
          go_wp2_with (first
            | (go_at_call 22; refine (kidsOf_any T _ HTL.out HTB.out _ (SlR.old HSR.out)).mono ?_; rintro e w2 ⟨v8, rfl, hsu, hb⟩; rw [HKI.out ()] at hsu; have HSU : Hid (SlU w2 v8 I) := hsu; replace hm := hm.call hb; clear hb hsu)
            | (go_at_call 13; refine (branch_any L I _ _ HLL.out HIB.out _ (SlV.below HSS.out hm.below) HSU.out).mono ?_; rintro e w3 ⟨v9, he, hso, hb⟩; rw [HLC.out ()] at he; subst he; rw [HLO2.out ()] at hso; have HSO : Hid (SlOld w3 v9 (branchB L I)) := hso; have HSU2 : Hid (SlU w3 v8 I) := SlV.below HSU.out hb; replace hm := hm.call hb; clear hb hso)
            | (go_at_call 18; refine (equal_any (branchB L I) cs _ _ HLB.out HB.out _ HSO.out (SlOld.below HV.out (below_next HW.out HW.out.size hm.below))).mono ?_; rintro e w5 ⟨he, hw⟩; rw [HEQ.out] at he; subst he; replace hw := hw.symm; subst hw))
          go_ret3
          exact ⟨Or.inl ⟨HNO.out, rfl⟩, below_next HW.out HW.out.size hm.below⟩
      · obtain ⟨x, hx⟩ : ∃ x, x = branchCode L I.length := ⟨_, rfl⟩
        have HLC : Hid (∀ _ : Unit, branchCode L I.length = x) := fun _ => hx.symm
        have hbx : (x != 0) = true := by rw [hx]; simpa using hc
        have HNO : Hid (rbOk cs = false) := HNC.out hc
        clear hc hx
        go_wp2_with (first
          | (go_at_call 22; refine (kidsOf_any T _ HTL.out HTB.out _ (SlR.old HSR.out)).mono ?_; rintro e w2 ⟨v8, rfl, hsu, hb⟩; rw [HKI.out ()] at hsu; have HSU : Hid (SlU w2 v8 I) := hsu; replace hm := hm.call hb; clear hb hsu)
          | (go_at_call 13; refine (branch_any L I _ _ HLL.out HIB.out _ (SlV.below HSS.out hm.below) HSU.out).mono ?_; rintro e w3 ⟨v9, he, hso, hb⟩; rw [HLC.out ()] at he; subst he; have HSU2 : Hid (SlU w3 v8 I) := SlV.below HSU.out hb; replace hm := hm.call hb; clear hb hso))
        go_ret3
        exact ⟨Or.inl ⟨HNO.out, rfl⟩, below_next HW.out HW.out.size hm.below⟩
set_option maxRecDepth 100000 in
theorem readBranch_any (cs : List Int) (v : Value) (hcb : Bytes cs) (w : World) (hv : SlOld w v cs) :
    Calls Try.prog 7 #[v] w fun e w' => ∃ v' u', e = .returned (.tuple #[v', u', .int .i64 (if rbOk cs then 0 else 90)]) ∧ SlS w' v' (rbOutK cs) ∧ SlU w' u' (rbOutI cs) ∧ Below w.heap.size w w' := by
  obtain ⟨p, cap, rfl, hcap, hs⟩ := hv
  cases hh : headB cs 2 with
  | false =>
    have hno := rb_head hh
    refine (readBranch_no cs p cs.length cap rfl hh w ⟨p, cap, rfl, hcap, hs⟩).mono fun e w' ⟨he, hw⟩ => ⟨.slice none 0 0, .slice none 0 0, ?_, ?_, ?_, by rw [hw]; exact Below.refl _ _⟩
    · rw [hno]; exact he
    · rw [rbOutK, hno]; exact SlS.nil _
    · rw [rbOutI, hno]; exact SlU.nil _
  | true =>
    have hh2 := hh
    simp only [headB, decide_eq_true_eq] at hh2
    obtain ⟨b, off, rfl, hseg⟩ := hs (by omega)
    refine (readBranch_go cs (cs.drop 3) b off cs.length cap (cnt cs) rfl hh2.1 hh2.2.1 hh rfl rfl hcb w ⟨_, cap, rfl, hcap, fun _ => ⟨b, off, rfl, hseg⟩⟩).mono fun e w' ⟨h, hb⟩ => ?_
    rcases h with ⟨hno, he⟩ | ⟨hy, v', u', he, hsp, hsu⟩
    · refine ⟨.slice none 0 0, .slice none 0 0, ?_, ?_, ?_, hb⟩
      · rw [hno]; exact he
      · rw [rbOutK, hno]; exact SlS.nil _
      · rw [rbOutI, hno]; exact SlU.nil _
    · refine ⟨v', u', ?_, ?_, ?_, hb⟩
      · rw [hy]; exact he
      · rw [rbOutK, hy]; exact hsp
      · rw [rbOutI, hy]; exact hsu
end Go.Proofs.Ytnahflppggoplaa
