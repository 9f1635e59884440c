/- The reference's ReadLeaf. -/
import Derived.Test.YtnahflppggoplaaNdRefL
import Derived.Test.YtnahflppggoplaaNdReadL
import Derived.Test.YtnahflppggoplaaNdRefT
import Derived.Test.YtnahflppggoplaaNdLawA
namespace Go.Proofs.Ytnahflppggoplaa
open Go Go.RowKit
set_option maxRecDepth 100000 in
theorem exec_nesB {a : Act} {w : World} {dst : Option Tmp} {typ : TypeId} {pos : String} {aft : Array Edge} {gd : Option (Nat × Bool)} {t : TypeId} {x y : Operand} {rt : TypeId} (s s' : ByteArray) (v : Bool) (hx : a.eval x = .string s) (hy : a.eval y = .string s') (hv : (s == s') = v) :
    (execOp a.eval { dst := dst, op := .binOp .neq t x y rt, type := typ, pos := pos, after := aft, guard := gd }).run Try.prog w = .ok (.value (.bool (!v))) w := by
  subst hv
  unfold execOp
  simp only [hx, hy]
  simp only [eqGuard, binOp, Op.stringOp, go_sem]
  rw [beq_toListBytes s s']
  rfl
set_option maxRecDepth 100000 in
theorem num_cnt {cs : List Int} (h : Bytes cs) (h3 : 3 ≤ cs.length) : numL ((cs.drop 1).take 2) = (cnt cs : Int) := by
  match cs, h3 with
  | a :: b :: c :: r, _ =>
    have h1 := Bytes.get h 1
    have h2 := Bytes.get h 2
    simp [numL, cnt] at h1 h2 ⊢
    omega
set_option maxHeartbeats 1000000 in
set_option maxRecDepth 100000 in
theorem readLR_short (p : Option Addr) (N cap : Nat) (h : N < 3) (w : World) :
    Calls Try.prog 6 #[.slice p N cap] w fun e w' => e = .returned (.tuple #[.slice none 0 0, .bool false]) ∧ Below w.heap.size w w' := by
  have hi : (N : Int) < 3 := by omega
  go_enter Try.func6, Try.ntmps6
  go_wp2_with fail
  go_ret2
  exact ⟨rfl, Below.refl _ _⟩
set_option maxHeartbeats 1000000 in
set_option maxRecDepth 100000 in
theorem readLR_kind (b off N cap : Nat) (c : Int) (h : ¬ N < 3) (hc : (c != 1) = true) (w : World) (hcell : w.cell? ⟨b, off, none⟩ = some (.int .u8 c)) :
    Calls Try.prog 6 #[.slice (some ⟨b, off, none⟩) N cap] w fun e w' => e = .returned (.tuple #[.slice none 0 0, .bool false]) ∧ Below w.heap.size w w' := by
  have hi : ¬ (N : Int) < 3 := by omega
  go_enter Try.func6, Try.ntmps6
  go_wp2_with fail
  go_ret2
  exact ⟨rfl, Below.refl _ _⟩
set_option maxHeartbeats 4000000 in
set_option maxRecDepth 100000 in
theorem readLR_go (cs r : List Int) (b off N cap C : Nat) (hN : cs.length = N) (h3 : 3 ≤ N) (h600 : N ≤ 600) (h1 : cs.getD 0 0 = 1) (hC : cnt cs = C) (hrr : cs.drop 3 = r) (hcb : Bytes cs) (w : World) (hv : SlOld w (.slice (some ⟨b, off, none⟩) N cap) cs) :
    Calls Try.prog 6 #[.slice (some ⟨b, off, none⟩) N cap] w fun e w' => (rlOk cs = false ∧ e = .returned (.tuple #[.slice none 0 0, .bool false]) ∨ rlOk cs = true ∧ ∃ v', e = .returned (.tuple #[v', .bool true]) ∧ SlP w' v' (rlOut cs)) ∧ Below w.heap.size w w' := by
  have HV : Hid (SlOld w (.slice (some ⟨b, off, none⟩) N cap) cs) := hv
  have hcell : w.cell? ⟨b, off, none⟩ = some (.int .u8 1) := by
    obtain ⟨_, _, hs⟩ := hv.src0
    obtain ⟨b', off', hp, hseg⟩ := hs (by omega)
    simp only [Option.some.injEq, Addr.mk.injEq] at hp
    obtain ⟨rfl, rfl, _⟩ := hp
    have h9 := hseg 0 (by omega)
    rw [Nat.add_zero, h1] at h9
    exact h9
  have HN : Hid (cs.length = N) := hN
  have HC : Hid (cnt cs = C) := hC
  have HRR : Hid (∀ _ : Unit, cs.drop 3 = r) := fun _ => hrr
  have HB : Hid (Bytes cs) := hcb
  have HRB : Hid (Bytes r) := by show Bytes _; rw [← hrr]; exact hcb.drop 3
  have HRL : Hid (r.length ≤ 597) := by show _ ≤ _; rw [← hrr, List.length_drop, hN]; omega
  have hCl : C ≤ 65535 := by
    have h1 := Bytes.get hcb 1
    have h2 := Bytes.get hcb 2
    rw [← hC]; unfold cnt; omega
  have hm := Mem.start w
  have hi3 : ¬ (N : Int) < 3 := by omega
  have h9 := SlR.of_old (old_lo hv 1 (by omega))
  obtain ⟨P1, hP1⟩ : ∃ x, x = cutLo (some ⟨b, off, none⟩) cap 1 := ⟨_, rfl⟩
  obtain ⟨M1, hM1⟩ : ∃ x, x = N - 1 := ⟨_, rfl⟩
  obtain ⟨c1, hc1⟩ : ∃ x, x = cap - 1 := ⟨_, rfl⟩
  have HSL : Hid (∀ W : World, ∀ a : Act, ∀ (dst : Option Tmp) (typ : TypeId) (pos : String) (aft : Array Edge), a.eval (.tmp 27) = .slice (some ⟨b, off, none⟩) N cap → (execOp a.eval { dst := dst, op := .slice 22 (.tmp 27) (some (.const (.int .i64 1))) none none, type := typ, pos := pos, after := aft, guard := none }).run Try.prog W = .ok (.value (.slice P1 M1 c1)) W) := by
    intro W a dst typ pos aft h
    rw [hP1, hM1, hc1]
    exact exec_sLo un_bs sz_u8 1 (by omega) h rfl rfl
  rw [← hP1, ← hM1, ← hc1] at h9
  have HV1 : Hid (SlOld w (.slice P1 M1 c1) (cs.drop 1)) := h9.old
  have h8 := SlR.lo h9 2 (by omega)
  rw [List.drop_drop, hrr] at h8
  obtain ⟨P3, hP3⟩ : ∃ x, x = cutLo P1 c1 2 := ⟨_, rfl⟩
  obtain ⟨M0, hM0⟩ : ∃ x, x = M1 - 2 := ⟨_, rfl⟩
  obtain ⟨c0, hc0⟩ : ∃ x, x = c1 - 2 := ⟨_, rfl⟩
  have HEQ : Hid (∀ _ : Unit, (cutLo P1 c1 2 = P3 ∧ M1 - 2 = M0) ∧ c1 - 2 = c0) := fun _ => ⟨⟨hP3.symm, hM0.symm⟩, hc0.symm⟩
  rw [← hP3, ← hM0, ← hc0] at h8
  have HR3 : Hid (SlR w.heap.size w (.slice P3 M0 c0) r) := h8
  have HL1 : Hid ((cs.drop 1).length = M1) := by show _ = _; rw [List.length_drop, hN, hM1]
  have HB1 : Hid (Bytes (cs.drop 1)) := hcb.drop 1
  have HM12 : Hid (2 ≤ M1) := by show _ ≤ _; omega
  have HNU : Hid (∀ _ : Unit, numL ((cs.drop 1).take 2) = (C : Int)) := fun _ => by rw [← hC]; exact num_cnt hcb (by omega)
  clear hv hN hC hrr hcb hP1 hM1 hc1 h9 h8 hP3 hM0 hc0 h1
  go_enter Try.func6, Try.ntmps6
  go_wp2_with (first
    | ((with_reducible refine at_op (some 28) (.slice 22 (.tmp 27) (some (.const (.int .i64 1))) none none) ?_); go_must (refine wpl_execG (.slice P1 M1 c1) rfl (HSL.out _ _ _ _ _ _ rfl) ?_))
    | (go_at_call 19; refine (getR2_good (cs.drop 1) P1 M1 c1 HL1.out HM12.out HB1.out _ HV1.out).mono ?_; rintro e w1 ⟨he, hb⟩; rw [HNU.out (), (HEQ.out ()).1.1, (HEQ.out ()).1.2, (HEQ.out ()).2] at he; subst he; replace hm := hm.call hb; clear hb))
  have HST : Hid (SlR w.heap.size w1 (.slice P3 M0 c0) (restL r 0)) := SlR.below HR3.out hm.below
  have HBL : Hid (Below w.heap.size w w1) := hm.below
  clear hm HR3
  go_loopw [5, 7, 8] (fun vr vl' vi wr => ∃ (k : Nat) (vl : Value), k ≤ C ∧ vi = .int .u64 (k : Int) ∧ vl = vl' ∧ Hid (okL r k = true) ∧ Hid (SlR w.heap.size wr vr (restL r k)) ∧ Hid (wr.ownsRow w.heap.size 45 2 vl k (prs (listL r k))) ∧ Hid (Below w.heap.size w wr)) (fun _ _ vi _ => C - (intOf vi).toNat)
  case atStart => exact ⟨0, _, by omega, rfl, rfl, rfl, HST.out, World.ownsRow_nil _ _ _ _, HBL.out⟩
  case round =>
    clear HST HBL
    obtain ⟨k, vl, hk, rfl, hvl, HOK, HSR, HO, HW⟩ := hrel
    subst hvl
    by_cases hlt : k < C
    · have hki : (k : Int) < (C : Int) := by omega
      have hk3 : k ≤ 100000 := by omega
      have HWK : IntKind.u64.wrap ((k : Int) + 1) = (k : Int) + 1 := by have h9 := wrapU_of (k + 1) (by omega); simpa using h9
      obtain ⟨R0, hR0⟩ : ∃ x, x = restL r k := ⟨_, rfl⟩
      obtain ⟨R1, hR1⟩ : ∃ x, x = gtRest R0 60 := ⟨_, rfl⟩
      obtain ⟨R2, hR2⟩ : ∃ x, x = gtRest R1 150 := ⟨_, rfl⟩
      obtain ⟨s1, hs1⟩ : ∃ x, x = gtStr R0 60 := ⟨_, rfl⟩
      obtain ⟨s2, hs2⟩ : ∃ x, x = gtStr R1 150 := ⟨_, rfl⟩
      have HR0L : Hid (R0.length ≤ 30000) := by show _ ≤ _; have h9 := restL_length r k; have h8 := HRL.out; rw [hR0]; omega
      have HR1L : Hid (R1.length ≤ 30000) := by show _ ≤ _; have h9 := gtRest_length R0 60; have h8 := HR0L.out; rw [hR1]; omega
      have HR0B : Hid (Bytes R0) := by show Bytes _; rw [hR0]; exact restL_bytes HRB.out k
      have HR1B : Hid (Bytes R1) := by show Bytes _; rw [hR1]; exact gtRest_bytes HR0B.out _
      have HRN : Hid (restL r (k + 1) = R2) := by show _ = _; rw [restL, ← hR0, ← hR1, ← hR2]
      have HPN : Hid (prs (listL r (k + 1)) = prs (listL r k) ++ [.string s1, .string s2]) := by show _ = _; rw [listL, prs_append, pairL, ← hR0, ← hs1, ← hR1, ← hs2]; rfl
      have HGN : Hid (okL r (k + 1) = (decide (gtCode R0 60 = 0) && decide (gtCode R1 150 = 0))) := by show _ = _; rw [okL, HOK.out, goodL, ← hR0, ← hR1, Bool.true_and]
      have HS1 : Hid (∀ _ : Unit, gtStr R0 60 = s1) := fun _ => hs1.symm
      have HS2 : Hid (∀ _ : Unit, gtStr R1 150 = s2) := fun _ => hs2.symm
      have HR1 : Hid (∀ _ : Unit, gtRest R0 60 = R1) := fun _ => hR1.symm
      have HR2 : Hid (∀ _ : Unit, gtRest R1 150 = R2) := fun _ => hR2.symm
      rw [← hR0] at HSR
      have hm := Mem.start wr
      have tk1 : Nat := 0
      clear hR0 hR1 hR2 hs1 hs2
      by_cases hc1 : gtCode R0 60 = 0
      · have HE1 : Hid (∀ _ : Unit, gtCode R0 60 = 0) := fun _ => hc1
        by_cases hc2 : gtCode R1 150 = 0
        · have HE2 : Hid (∀ _ : Unit, gtCode R1 150 = 0) := fun _ => hc2
          have HKN : Hid (okL r (k + 1) = true) := by show _ = _; rw [HGN.out, hc1, hc2]; rfl
          clear hc1 hc2
          go_wp2_with (first
            | (go_at_call 20; clear tk1; refine (gtR_any w.heap.size R0 _ 60 60 rfl HR0L.out (by omega) HR0B.out _ HSR.out).mono ?_; rintro e w4 ⟨v4, he, hs, hb⟩; rw [HS1.out (), HE1.out ()] at he; rw [HR1.out ()] at hs; subst he; have HSR1 : Hid (SlR w.heap.size w4 v4 R1) := hs; replace hm := hm.call hb; clear hb hs)
            | (go_at_call 20; refine (gtR_any w.heap.size R1 _ 150 150 rfl HR1L.out (by omega) HR1B.out _ HSR1.out).mono ?_; rintro e w6 ⟨v6, he, hs, hb⟩; rw [HS2.out (), HE2.out ()] at he; rw [HR2.out ()] at hs; subst he; have HSR2 : Hid (SlR w.heap.size w6 v6 R2) := hs; replace hm := hm.call hb; clear hb hs)
            | ((with_reducible refine at_op (some 59) (.build 45 #[(0, .tmp 57), (1, .tmp 58)]) ?_); go_must (refine wpl_execG (.agg [.string s1, .string s2].toArray) rfl (exec_pairKV s1 s2 rfl rfl) ?_); have HO6 : Hid (w6.ownsRow w.heap.size 45 2 vl k (prs (listL r k))) := own_below HO.out hm.below; have HW6 : Hid (Below w.heap.size w w6) := below_next HW.out HW.out.size hm.below; clear hm; have hm := Mem.start w6)
            | ((with_reducible refine at_op (some 60) (.buildSlice 24 1 #[(0, .tmp 59)]) ?_); go_must (refine wpl_bslP s1 s2 rfl rfl hm ?_); clear hm; intro w8 g8 hm)
            | ((with_reducible refine at_op (some 61) (.call { callee := .builtin .append, args := #[.tmp 56, .tmp 60], argTypes := #[24, 24] }) ?_); go_must (refine wpl_appV (.agg [.string ByteArray.empty, .string ByteArray.empty].toArray) 2 32 rfl un_pairs made_pair rfl (by omega) (by omega) (own_below HO6.out hm.below) (Nat.le_trans HW6.out.size hm.size) rfl rfl (hm.get 0 rfl) rfl (by simp [Value.oneCell']) hk3 ?_); intro v9 w9 ho9 hg9 hl9; have HO9 : Hid (w9.ownsRow w.heap.size 45 2 v9 (k + 1) (prs (listL r k) ++ [.string s1, .string s2])) := ho9; have HW9 : Hid (Below w.heap.size w w9) := below_grown (below_next HW6.out HW6.out.size hm.below) (Nat.le_trans HW6.out.size hm.size) (own_below HO6.out hm.below) hg9; have HR9 : Hid (SlR w.heap.size w9 v6 R2) := SlR.grown (SlR.below HSR2.out hm.below) (own_below HO6.out hm.below) (by decide) hg9; clear ho9 hg9 hl9 hm))
          go_roundw
          case rel => exact ⟨k + 1, _, by omega, by go_num, rfl, HKN.out, by show SlR _ _ _ _; rw [HRN.out]; exact HR9.out, by show World.ownsRow _ _ _ _ _ _ _; rw [HPN.out]; exact HO9.out, HW9.out⟩
          case measure => simp [intOf]; omega
        · obtain ⟨e2, he2⟩ : ∃ x, x = gtCode R1 150 := ⟨_, rfl⟩
          have HE2 : Hid (∀ _ : Unit, gtCode R1 150 = e2) := fun _ => he2.symm
          have hb2 : (e2 != 0) = true := by rw [he2]; simpa using hc2
          have HNO : Hid (rlOk cs = false) := rl_bad (show k + 1 ≤ cnt cs by rw [HC.out]; omega) (by rw [HRR.out (), HGN.out, decide_eq_false hc2]; simp)
          clear hc1 hc2 he2
          go_wp2_with (first
            | (go_at_call 20; clear tk1; refine (gtR_any w.heap.size R0 _ 60 60 rfl HR0L.out (by omega) HR0B.out _ HSR.out).mono ?_; rintro e w4 ⟨v4, he, hs, hb⟩; rw [HS1.out (), HE1.out ()] at he; rw [HR1.out ()] at hs; subst he; have HSR1 : Hid (SlR w.heap.size w4 v4 R1) := hs; replace hm := hm.call hb; clear hb hs)
            | (go_at_call 20; refine (gtR_any w.heap.size R1 _ 150 150 rfl HR1L.out (by omega) HR1B.out _ HSR1.out).mono ?_; rintro e w6 ⟨v6, he, hs, hb⟩; rw [HS2.out (), HE2.out ()] at he; rw [HR2.out ()] at hs; subst he; have HSR2 : Hid (SlR w.heap.size w6 v6 R2) := hs; replace hm := hm.call hb; clear hb hs))
          go_ret2
          exact ⟨Or.inl ⟨HNO.out, rfl⟩, below_next HW.out HW.out.size hm.below⟩
      · obtain ⟨e1, he1⟩ : ∃ x, x = gtCode R0 60 := ⟨_, rfl⟩
        obtain ⟨e2, he2⟩ : ∃ x, x = gtCode R1 150 := ⟨_, rfl⟩
        have HE1 : Hid (∀ _ : Unit, gtCode R0 60 = e1) := fun _ => he1.symm
        have HE2 : Hid (∀ _ : Unit, gtCode R1 150 = e2) := fun _ => he2.symm
        have hb1 : (e1 != 0) = true := by rw [he1]; simpa using hc1
        have HNO : Hid (rlOk cs = false) := rl_bad (show k + 1 ≤ cnt cs by rw [HC.out]; omega) (by rw [HRR.out (), HGN.out, decide_eq_false hc1]; rfl)
        clear hc1 he1 he2
        go_wp2_with (first
          | (go_at_call 20; clear tk1; refine (gtR_any w.heap.size R0 _ 60 60 rfl HR0L.out (by omega) HR0B.out _ HSR.out).mono ?_; rintro e w4 ⟨v4, he, hs, hb⟩; rw [HS1.out (), HE1.out ()] at he; rw [HR1.out ()] at hs; subst he; have HSR1 : Hid (SlR w.heap.size w4 v4 R1) := hs; replace hm := hm.call hb; clear hb hs)
          | (go_at_call 20; refine (gtR_any w.heap.size R1 _ 150 150 rfl HR1L.out (by omega) HR1B.out _ HSR1.out).mono ?_; rintro e w6 ⟨v6, he, hs, hb⟩; rw [HS2.out (), HE2.out ()] at he; rw [HR2.out ()] at hs; subst he; have HSR2 : Hid (SlR w.heap.size w6 v6 R2) := hs; replace hm := hm.call hb; clear hb hs))
        go_ret2
        exact ⟨Or.inl ⟨HNO.out, rfl⟩, below_next HW.out HW.out.size hm.below⟩
    · have hkn : C = k := by omega
      subst hkn
      have hni : ¬ (C : Int) < (C : Int) := by omega
      have HSP : Hid _ := sp_of (own_sl HO.out) (listL_length r C)
      have HC1 : Hid (C ≤ 1000) := by show _ ≤ _; have h9 := okL_len HOK.out; have h8 := HRL.out; omega
      have HLN : Hid ((listL r C).length = C) := listL_length r C
      have HYES : Hid (leafCode (listL r C) = 0 → leafB (listL r C) = cs → rlOk cs = true ∧ rlOut cs = listL r C) := fun h1 h2 => by
        have h9 := rl_back h1
        rw [h2] at h9
        exact h9
      have HNC : Hid (¬ leafCode (listL r C) = 0 → rlOk cs = false) := fun h => rl_code (by rw [HRR.out (), HC.out]; exact h)
      have HNE : Hid (¬ leafB (listL r C) = cs → rlOk cs = false) := fun h => rl_eq (by rw [HRR.out (), HC.out]; exact h)
      have HLB : Hid (Bytes (leafB (listL r C))) := leafB_bytes _
      have HLO : Hid (leafCode (listL r C) = 0 → leafOut (listL r C) = leafB (listL r C)) := fun h => by rw [leafOut, if_pos h]
      obtain ⟨L, hL⟩ : ∃ L, listL r C = L := ⟨_, rfl⟩
      rw [hL] at HSP HLN HYES HNC HNE HLB HLO
      clear hL
      have hm := Mem.start wr
      obtain ⟨NL, hNL⟩ : ∃ x, (leafB L).length = x := ⟨_, rfl⟩
      have HNL : Hid ((leafB L).length = NL) := hNL
      obtain ⟨SA, hSA⟩ : ∃ x, strOf (leafB L) = x := ⟨_, rfl⟩
      obtain ⟨SC, hSC⟩ : ∃ x, strOf cs = x := ⟨_, rfl⟩
      have HSA : Hid (∀ _ : Unit, strOf (leafB L) = SA) := fun _ => hSA
      have HSC : Hid (∀ _ : Unit, strOf cs = SC) := fun _ => hSC
      have HSE : Hid ((SA == SC) = decide (leafB L = cs)) := by show _ = _; rw [← hSA, ← hSC]; exact strOf_eq HLB.out HB.out
      clear hNL hSA hSC
      by_cases hc : leafCode L = 0
      · have HLC : Hid (∀ _ : Unit, leafCode L = 0) := fun _ => hc
        have HLO2 : Hid (∀ _ : Unit, leafOut L = leafB L) := fun _ => HLO.out hc
        by_cases he : leafB L = cs
        · have HES : Hid ((SA == SC) = true) := by show _ = _; rw [HSE.out]; exact decide_eq_true he
          have HY : Hid (rlOk cs = true ∧ rlOut cs = L) := HYES.out hc he
          clear hc he
          go_wp2_with (first
            | (go_at_call 21; refine (leafR_any L C _ HLN.out HC1.out _ HSP.out).mono ?_; rintro e w2 ⟨v9, he, hso, hb⟩; rw [HLC.out ()] at he; rw [HLO2.out ()] at hso; obtain ⟨p9, c9, hv9, _⟩ : ∃ p c, v9 = .slice p NL c ∧ NL ≤ c := HNL.out ▸ SlOld.len hso; subst hv9; have HSO : Hid (SlOld w2 (.slice p9 NL c9) (leafB L)) := hso; subst he; replace hm := hm.call hb; clear hb hso)
            | ((with_reducible refine at_opG (some 72) (.convert 22 9 (.tmp 71)) (some (2, false)) ?_); go_must (refine wpl_execG (.string SA) rfl (HSA.out () ▸ exec_tostr un_bs un_u8 un_strT (leafB L) rfl HSO.out) ?_))
            | ((with_reducible refine at_opG (some 74) (.convert 22 9 (.tmp 73)) (some (2, false)) ?_); go_must (refine wpl_execG (.string SC) rfl (HSC.out () ▸ exec_tostr un_bs un_u8 un_strT cs rfl (SlOld.below HV.out (below_next HW.out HW.out.size hm.below))) ?_))
            | ((with_reducible refine at_opG (some 75) (.binOp .neq 9 (.tmp 72) (.tmp 74) 9) (some (2, false)) ?_); go_must (refine wpl_execG (.bool false) rfl (exec_nesB SA SC true rfl rfl HES.out) ?_)))
          go_ret2
          exact ⟨Or.inr ⟨HY.out.1, _, rfl, by rw [HY.out.2]; exact SlV.below HSP.out hm.below⟩, below_next HW.out HW.out.size hm.below⟩
        · have HES : Hid ((SA == SC) = false) := by show _ = _; rw [HSE.out]; exact decide_eq_false he
          have HNO : Hid (rlOk cs = false) := HNE.out he
          clear hc he
          go_wp2_with (first
            | (go_at_call 21; refine (leafR_any L C _ HLN.out HC1.out _ HSP.out).mono ?_; rintro e w2 ⟨v9, he, hso, hb⟩; rw [HLC.out ()] at he; rw [HLO2.out ()] at hso; obtain ⟨p9, c9, hv9, _⟩ : ∃ p c, v9 = .slice p NL c ∧ NL ≤ c := HNL.out ▸ SlOld.len hso; subst hv9; have HSO : Hid (SlOld w2 (.slice p9 NL c9) (leafB L)) := hso; subst he; replace hm := hm.call hb; clear hb hso)
            | ((with_reducible refine at_opG (some 72) (.convert 22 9 (.tmp 71)) (some (2, false)) ?_); go_must (refine wpl_execG (.string SA) rfl (HSA.out () ▸ exec_tostr un_bs un_u8 un_strT (leafB L) rfl HSO.out) ?_))
            | ((with_reducible refine at_opG (some 74) (.convert 22 9 (.tmp 73)) (some (2, false)) ?_); go_must (refine wpl_execG (.string SC) rfl (HSC.out () ▸ exec_tostr un_bs un_u8 un_strT cs rfl (SlOld.below HV.out (below_next HW.out HW.out.size hm.below))) ?_))
            | ((with_reducible refine at_opG (some 75) (.binOp .neq 9 (.tmp 72) (.tmp 74) 9) (some (2, false)) ?_); go_must (refine wpl_execG (.bool true) rfl (exec_nesB SA SC false rfl rfl HES.out) ?_)))
          go_ret2
          exact ⟨Or.inl ⟨HNO.out, rfl⟩, below_next HW.out HW.out.size hm.below⟩
      · obtain ⟨x, hx⟩ : ∃ x, x = leafCode L := ⟨_, rfl⟩
        have HLC : Hid (∀ _ : Unit, leafCode L = x) := fun _ => hx.symm
        have hbx : (x != 0) = true := by rw [hx]; simpa using hc
        have HNO : Hid (rlOk cs = false) := HNC.out hc
        clear hc hx
        go_wp2_with (first
          | (go_at_call 21; refine (leafR_any L C _ HLN.out HC1.out _ HSP.out).mono ?_; rintro e w2 ⟨v9, he, hso, hb⟩; rw [HLC.out ()] at he; subst he; replace hm := hm.call hb; clear hb hso))
        go_ret2
        exact ⟨Or.inl ⟨HNO.out, rfl⟩, below_next HW.out HW.out.size hm.below⟩
set_option maxRecDepth 100000 in
theorem readLR_any (cs : List Int) (v : Value) (h600 : cs.length ≤ 600) (hcb : Bytes cs) (w : World) (hv : SlOld w v cs) :
    Calls Try.prog 6 #[v] w fun e w' => ∃ v', e = .returned (.tuple #[v', .bool (rlOk cs)]) ∧ SlP w' v' (rlOut cs) ∧ Below w.heap.size w w' := by
  obtain ⟨p, cap, rfl, hcap, hs⟩ := hv
  have bad : headB cs 1 = false → ∀ (e : Ending) (w' : World), (e = .returned (.tuple #[.slice none 0 0, .bool false]) ∧ Below w.heap.size w w') → ∃ v', e = .returned (.tuple #[v', .bool (rlOk cs)]) ∧ SlP w' v' (rlOut cs) ∧ Below w.heap.size w w' := by
    intro hh e w' ⟨he, hb⟩
    have hno := rl_head hh
    refine ⟨.slice none 0 0, ?_, ?_, hb⟩
    · rw [hno]; exact he
    · rw [rlOut, hno]; exact SlP.nil _
  by_cases h3 : cs.length < 3
  · exact (readLR_short p cs.length cap h3 w).mono (bad (by unfold headB; exact decide_eq_false (fun h => by omega)))
  · obtain ⟨b, off, rfl, hseg⟩ := hs (by omega)
    by_cases h1 : cs.getD 0 0 = 1
    · refine (readLR_go cs (cs.drop 3) b off cs.length cap (cnt cs) rfl (by omega) h600 h1 rfl rfl hcb w ⟨_, cap, rfl, hcap, fun _ => ⟨b, off, rfl, hseg⟩⟩).mono fun e w' ⟨h, hb⟩ => ?_
      rcases h with ⟨hno, he⟩ | ⟨hy, v', he, hsp⟩
      · refine ⟨.slice none 0 0, ?_, ?_, hb⟩
        · rw [hno]; exact he
        · rw [rlOut, hno]; exact SlP.nil _
      · exact ⟨v', by rw [hy]; exact he, hsp, hb⟩
    · have hc := hseg 0 (by omega)
      rw [Nat.add_zero] at hc
      exact (readLR_kind b off cs.length cap (cs.getD 0 0) h3 (by simpa using h1) w hc).mono (bad (by unfold headB; exact decide_eq_false (fun h => h1 h.2.2)))
end Go.Proofs.Ytnahflppggoplaa
