/- The reference's ReadBranch. -/
import Derived.Test.YtnahflppggoplaaNdRefRL
import Derived.Test.YtnahflppggoplaaNdRefB
import Derived.Test.YtnahflppggoplaaNdReadB
namespace Go.Proofs.Ytnahflppggoplaa
open Go Go.RowKit
set_option maxRecDepth 100000 in
theorem su_of {w : World} {v : Value} {n : Nat} {l : List Int} (h : SlV 1 w v n (u32s l)) (hn : l.length = n) : SlU w v l := by subst hn; exact h
set_option maxRecDepth 100000 in
theorem rb_kids_is {cs : List Int} (h : rbOk cs = true) : rbKids cs = kidsL (rbTail cs) (cnt cs + 1) ∧ 4 * (cnt cs + 1) ≤ (rbTail cs).length := by
  obtain ⟨h1, _⟩ := rbOk_ok h
  obtain ⟨⟨_, h2, _⟩, _⟩ := branchCode_ok h1
  have h3 : (rbTail cs).length / 4 = cnt cs + 1 := by
    have h4 : (rbKids cs).length = (rbTail cs).length / 4 := kidsL_length _ _
    have h5 : (rbKeys cs).length = cnt cs := listK_length _ _
    omega
  refine ⟨?_, by omega⟩
  unfold rbKids
  rw [h3]
set_option maxRecDepth 100000 in
theorem rb_short {cs T : List Int} {C j : Nat} (hC : cnt cs = C) (hT : restK (cs.drop 3) C = T) (hj : j ≤ C) (h : T.length < 4 * (j + 1)) : rbOk cs = false := by
  cases h0 : rbOk cs with
  | false => rfl
  | true =>
    have h1 := (rb_kids_is h0).2
    unfold rbTail at h1
    rw [hC, hT] at h1
    omega
set_option maxRecDepth 100000 in
theorem rb_other {cs T : List Int} {C : Nat} {L : List ByteArray} {I : List Int} (hC : cnt cs = C) (hT : restK (cs.drop 3) C = T) (hL : listK (cs.drop 3) C = L) (hI : kidsL T (C + 1) = I) (h : ¬ (branchCode L I.length = 0 ∧ branchB L I = cs)) : rbOk cs = false := by
  cases h0 : rbOk cs with
  | false => rfl
  | true =>
    obtain ⟨h1, h2⟩ := rbOk_ok h0
    have h3 := (rb_kids_is h0).1
    unfold rbTail at h3
    rw [hC, hT, hI] at h3
    have h4 : rbKeys cs = L := by unfold rbKeys; rw [hC, hL]
    rw [h3, h4] at h1 h2
    exact absurd ⟨h1, h2⟩ h
set_option maxHeartbeats 1000000 in
set_option maxRecDepth 100000 in
theorem readBR_short (p : Option Addr) (N cap : Nat) (h : N < 3) (w : World) :
    Calls Try.prog 8 #[.slice p N cap] w fun e w' => e = .returned (.tuple #[.slice none 0 0, .slice none 0 0, .bool false]) ∧ Below w.heap.size w w' := by
  have hi : (N : Int) < 3 := by omega
  go_enter Try.func8, Try.ntmps8
  go_wp2_with fail
  go_ret3
  exact ⟨rfl, Below.refl _ _⟩
set_option maxHeartbeats 1000000 in
set_option maxRecDepth 100000 in
theorem readBR_kind (b off N cap : Nat) (c : Int) (h : ¬ N < 3) (hc : (c != 2) = true) (w : World) (hcell : w.cell? ⟨b, off, none⟩ = some (.int .u8 c)) :
    Calls Try.prog 8 #[.slice (some ⟨b, off, none⟩) N cap] w fun e w' => e = .returned (.tuple #[.slice none 0 0, .slice none 0 0, .bool false]) ∧ Below w.heap.size w w' := by
  have hi : ¬ (N : Int) < 3 := by omega
  go_enter Try.func8, Try.ntmps8
  go_wp2_with fail
  go_ret3
  exact ⟨rfl, Below.refl _ _⟩
set_option maxHeartbeats 4000000 in
set_option maxRecDepth 100000 in
theorem readBR_go (cs r : List Int) (b off N cap C : Nat) (hN : cs.length = N) (h3 : 3 ≤ N) (h600 : N ≤ 600) (h1 : cs.getD 0 0 = 2) (hC : cnt cs = C) (hrr : cs.drop 3 = r) (hcb : Bytes cs) (w : World) (hv : SlOld w (.slice (some ⟨b, off, none⟩) N cap) cs) :
    Calls Try.prog 8 #[.slice (some ⟨b, off, none⟩) N cap] w fun e w' => (rbOk cs = false ∧ e = .returned (.tuple #[.slice none 0 0, .slice none 0 0, .bool false]) ∨ rbOk cs = true ∧ ∃ v' u', e = .returned (.tuple #[v', u', .bool true]) ∧ SlS w' v' (rbOutK cs) ∧ SlU w' u' (rbOutI cs)) ∧ Below w.heap.size w w' := by
  have HV : Hid (SlOld w (.slice (some ⟨b, off, none⟩) N cap) cs) := hv
  have hcell : w.cell? ⟨b, off, none⟩ = some (.int .u8 2) := by
    obtain ⟨_, _, hs⟩ := hv.src0
    obtain ⟨b', off', hp, hseg⟩ := hs (by omega)
    simp only [Option.some.injEq, Addr.mk.injEq] at hp
    obtain ⟨rfl, rfl, _⟩ := hp
    have h9 := hseg 0 (by omega)
    rw [Nat.add_zero, h1] at h9
    exact h9
  have HN : Hid (cs.length = N) := hN
  have HC : Hid (cnt cs = C) := hC
  have HRR : Hid (∀ _ : Unit, cs.drop 3 = r) := fun _ => hrr
  have HB : Hid (Bytes cs) := hcb
  have HRB : Hid (Bytes r) := by show Bytes _; rw [← hrr]; exact hcb.drop 3
  have HRL : Hid (r.length ≤ 597) := by show _ ≤ _; rw [← hrr, List.length_drop, hN]; omega
  have hCl : C ≤ 65535 := by
    have h1 := Bytes.get hcb 1
    have h2 := Bytes.get hcb 2
    rw [← hC]; unfold cnt; omega
  have hm := Mem.start w
  have hi3 : ¬ (N : Int) < 3 := by omega
  have h9 := SlR.of_old (old_lo hv 1 (by omega))
  obtain ⟨P1, hP1⟩ : ∃ x, x = cutLo (some ⟨b, off, none⟩) cap 1 := ⟨_, rfl⟩
  obtain ⟨M1, hM1⟩ : ∃ x, x = N - 1 := ⟨_, rfl⟩
  obtain ⟨c1, hc1⟩ : ∃ x, x = cap - 1 := ⟨_, rfl⟩
  have HSL : Hid (∀ W : World, ∀ a : Act, ∀ (dst : Option Tmp) (typ : TypeId) (pos : String) (aft : Array Edge), a.eval (.tmp 30) = .slice (some ⟨b, off, none⟩) N cap → (execOp a.eval { dst := dst, op := .slice 22 (.tmp 30) (some (.const (.int .i64 1))) none none, type := typ, pos := pos, after := aft, guard := none }).run Try.prog W = .ok (.value (.slice P1 M1 c1)) W) := by
    intro W a dst typ pos aft h
    rw [hP1, hM1, hc1]
    exact exec_sLo un_bs sz_u8 1 (by omega) h rfl rfl
  rw [← hP1, ← hM1, ← hc1] at h9
  have HV1 : Hid (SlOld w (.slice P1 M1 c1) (cs.drop 1)) := h9.old
  have h8 := SlR.lo h9 2 (by omega)
  rw [List.drop_drop, hrr] at h8
  obtain ⟨P3, hP3⟩ : ∃ x, x = cutLo P1 c1 2 := ⟨_, rfl⟩
  obtain ⟨M0, hM0⟩ : ∃ x, x = M1 - 2 := ⟨_, rfl⟩
  obtain ⟨c0, hc0⟩ : ∃ x, x = c1 - 2 := ⟨_, rfl⟩
  have HEQ : Hid (∀ _ : Unit, (cutLo P1 c1 2 = P3 ∧ M1 - 2 = M0) ∧ c1 - 2 = c0) := fun _ => ⟨⟨hP3.symm, hM0.symm⟩, hc0.symm⟩
  rw [← hP3, ← hM0, ← hc0] at h8
  have HR3 : Hid (SlR w.heap.size w (.slice P3 M0 c0) r) := h8
  have HL1 : Hid ((cs.drop 1).length = M1) := by show _ = _; rw [List.length_drop, hN, hM1]
  have HB1 : Hid (Bytes (cs.drop 1)) := hcb.drop 1
  have HM12 : Hid (2 ≤ M1) := by show _ ≤ _; omega
  have HNU : Hid (∀ _ : Unit, numL ((cs.drop 1).take 2) = (C : Int)) := fun _ => by rw [← hC]; exact num_cnt hcb (by omega)
  clear hv hN hC hrr hcb hP1 hM1 hc1 h9 h8 hP3 hM0 hc0 h1
  go_enter Try.func8, Try.ntmps8
  go_wp2_with (first
    | ((with_reducible refine at_op (some 31) (.slice 22 (.tmp 30) (some (.const (.int .i64 1))) none none) ?_); go_must (refine wpl_execG (.slice P1 M1 c1) rfl (HSL.out _ _ _ _ _ _ rfl) ?_))
    | (go_at_call 19; refine (getR2_good (cs.drop 1) P1 M1 c1 HL1.out HM12.out HB1.out _ HV1.out).mono ?_; rintro e w1 ⟨he, hb⟩; rw [HNU.out (), (HEQ.out ()).1.1, (HEQ.out ()).1.2, (HEQ.out ()).2] at he; subst he; replace hm := hm.call hb; clear hb))
  have HST : Hid (SlR w.heap.size w1 (.slice P3 M0 c0) (restK r 0)) := SlR.below HR3.out hm.below
  have HBL : Hid (Below w.heap.size w w1) := hm.below
  clear hm HR3
  go_loopw [6, 8, 10] (fun vr vl' vi wr => ∃ (k : Nat) (vl : Value), k ≤ C ∧ vi = .int .u64 (k : Int) ∧ vl = vl' ∧ Hid (okK r k = true) ∧ Hid (SlR w.heap.size wr vr (restK r k)) ∧ Hid (wr.ownsRow w.heap.size 9 1 vl k (strs (listK r k))) ∧ Hid (Below w.heap.size w wr)) (fun _ _ vi _ => C - (intOf vi).toNat)
  case atStart => exact ⟨0, _, by omega, rfl, rfl, rfl, HST.out, World.ownsRow_nil _ _ _ _, HBL.out⟩
  case round =>
    clear HST HBL
    obtain ⟨k, vl, hk, rfl, hvl, HOK, HSR, HO, HW⟩ := hrel
    subst hvl
    by_cases hlt : k < C
    · have hki : (k : Int) < (C : Int) := by omega
      have hk3 : k ≤ 100000 := by omega
      have HWK : IntKind.u64.wrap ((k : Int) + 1) = (k : Int) + 1 := by have h9 := wrapU_of (k + 1) (by omega); simpa using h9
      obtain ⟨R0, hR0⟩ : ∃ x, x = restK r k := ⟨_, rfl⟩
      obtain ⟨R1, hR1⟩ : ∃ x, x = gtRest R0 60 := ⟨_, rfl⟩
      obtain ⟨s1, hs1⟩ : ∃ x, x = gtStr R0 60 := ⟨_, rfl⟩
      have HR0L : Hid (R0.length ≤ 30000) := by show _ ≤ _; have h9 := restK_length r k; have h8 := HRL.out; rw [hR0]; omega
      have HR0B : Hid (Bytes R0) := by show Bytes _; rw [hR0]; exact restK_bytes HRB.out k
      have HRN : Hid (restK r (k + 1) = R1) := by show _ = _; rw [restK, ← hR0, ← hR1]
      have HPN : Hid (strs (listK r (k + 1)) = strs (listK r k) ++ [.string s1]) := by show _ = _; rw [listK, ← hR0, ← hs1]; simp [strs]
      have HGN : Hid (okK r (k + 1) = decide (gtCode R0 60 = 0)) := by show _ = _; rw [okK, HOK.out, ← hR0, Bool.true_and]
      have HS1 : Hid (∀ _ : Unit, gtStr R0 60 = s1) := fun _ => hs1.symm
      have HR1 : Hid (∀ _ : Unit, gtRest R0 60 = R1) := fun _ => hR1.symm
      rw [← hR0] at HSR
      have hm := Mem.start wr
      clear hR0 hR1 hs1
      by_cases hc1 : gtCode R0 60 = 0
      · have HE1 : Hid (∀ _ : Unit, gtCode R0 60 = 0) := fun _ => hc1
        have HKN : Hid (okK r (k + 1) = true) := by show _ = _; rw [HGN.out, hc1]; rfl
        clear hc1
        go_wp2_with (first
          | (go_at_call 20; refine (gtR_any w.heap.size R0 _ 60 60 rfl HR0L.out (by omega) HR0B.out _ HSR.out).mono ?_; rintro e w4 ⟨v4, he, hs, hb⟩; rw [HS1.out (), HE1.out ()] at he; rw [HR1.out ()] at hs; subst he; have HSR1 : Hid (SlR w.heap.size w4 v4 R1) := hs; replace hm := hm.call hb; clear hb hs)
          | ((with_reducible refine at_op (some 51) (.buildSlice 30 1 #[(0, .tmp 50)]) ?_); have HO6 : Hid (w4.ownsRow w.heap.size 9 1 vl k (strs (listK r k))) := own_below HO.out hm.below; have HW6 : Hid (Below w.heap.size w w4) := below_next HW.out HW.out.size hm.below; clear hm; have hm := Mem.start w4; go_must (refine wpl_bsl1 rfl (.string ByteArray.empty) (.string s1) un_strs info_str rfl rfl rfl hm ?_); clear hm; intro w8 g8 hb8 hm; clear hb8)
          | ((with_reducible refine at_op (some 52) (.call { callee := .builtin .append, args := #[.tmp 49, .tmp 51], argTypes := #[30, 30] }) ?_); go_must (refine wpl_appV (.string ByteArray.empty) 1 16 rfl un_strs made_str rfl (by omega) (by omega) (own_below HO6.out hm.below) (Nat.le_trans HW6.out.size hm.size) rfl rfl (hm.get 0 rfl) rfl (by simp [Value.oneCell']) hk3 ?_); intro v9 w9 ho9 hg9 hl9; have HO9 : Hid (w9.ownsRow w.heap.size 9 1 v9 (k + 1) (strs (listK r k) ++ [.string s1])) := ho9; have HW9 : Hid (Below w.heap.size w w9) := below_grown (below_next HW6.out HW6.out.size hm.below) (Nat.le_trans HW6.out.size hm.size) (own_below HO6.out hm.below) hg9; have HR9 : Hid (SlR w.heap.size w9 v4 R1) := SlR.grown (SlR.below HSR1.out hm.below) (own_below HO6.out hm.below) (by decide) hg9; clear ho9 hg9 hl9 hm))
        go_roundw
        case rel => exact ⟨k + 1, _, by omega, by go_num, rfl, HKN.out, by show SlR _ _ _ _; rw [HRN.out]; exact HR9.out, by show World.ownsRow _ _ _ _ _ _ _; rw [HPN.out]; exact HO9.out, HW9.out⟩
        case measure => simp [intOf]; omega
      · obtain ⟨e1, he1⟩ : ∃ x, x = gtCode R0 60 := ⟨_, rfl⟩
        have HE1 : Hid (∀ _ : Unit, gtCode R0 60 = e1) := fun _ => he1.symm
        have hb1 : (e1 != 0) = true := by rw [he1]; simpa using hc1
        have HNO : Hid (rbOk cs = false) := rb_bad (show k + 1 ≤ cnt cs by rw [HC.out]; omega) (by rw [HRR.out (), HGN.out, decide_eq_false hc1])
        clear hc1 he1
        go_wp2_with (first
          | (go_at_call 20; refine (gtR_any w.heap.size R0 _ 60 60 rfl HR0L.out (by omega) HR0B.out _ HSR.out).mono ?_; rintro e w4 ⟨v4, he, hs, hb⟩; rw [HS1.out (), HE1.out ()] at he; rw [HR1.out ()] at hs; subst he; have HSR1 : Hid (SlR w.heap.size w4 v4 R1) := hs; replace hm := hm.call hb; clear hb hs))
        go_ret3
        exact ⟨Or.inl ⟨HNO.out, rfl⟩, below_next HW.out HW.out.size hm.below⟩
    · have hkn : C = k := by omega
      subst hkn
      have hni : ¬ (C : Int) < (C : Int) := by omega
      have HSS : Hid _ := ss_of (own_sl HO.out) (listK_length r C)
      obtain ⟨wA, hwA⟩ : ∃ x : World, x = wr := ⟨_, rfl⟩
      subst hwA
      obtain ⟨T, hT⟩ : ∃ T, restK r C = T := ⟨_, rfl⟩
      obtain ⟨L, hL⟩ : ∃ L, listK r C = L := ⟨_, rfl⟩
      have hok2 := okK_len HOK.out
      have hrl2 := HRL.out
      have HTB : Hid (Bytes T) := by show Bytes _; rw [← hT]; exact restK_bytes HRB.out C
      have HLL : Hid (L.length ≤ 1000) := by show _ ≤ _; rw [← hL, listK_length]; omega
      have HCS : Hid (C ≤ 1000) := by show _ ≤ _; omega
      have HTL : Hid (T.length ≤ 600) := by show _ ≤ _; rw [← hT]; omega
      have HTT : Hid (∀ _ : Unit, restK (cs.drop 3) C = T ∧ listK (cs.drop 3) C = L) := fun _ => by rw [HRR.out ()]; exact ⟨hT, hL⟩
      rw [hL] at HSS
      have hsr := HSR.out
      rw [hT] at hsr
      obtain ⟨p0, cp0, hvr, _⟩ := SlR.len hsr
      subst hvr
      have HSR0 : Hid (SlR wA.heap.size wA (.slice p0 T.length cp0) (T.drop (4 * 0))) := SlR.of_old hsr.old
      obtain ⟨MT, hMT⟩ : ∃ x, x = T.length := ⟨_, rfl⟩
      have HMT : Hid (T.length = MT) := hMT.symm
      rw [← hMT] at HSR0 ⊢
      clear hT hL hok2 hrl2 hsr hMT HSR HO HOK
      go_wp2_with fail
      go_loopw [6, 9, 14] (fun vr vu' vi wx => ∃ (j M c : Nat) (pr : Option Addr) (vu : Value), j ≤ C + 1 ∧ vi = .int .u64 (j : Int) ∧ vu = vu' ∧ vr = .slice pr M c ∧ Hid (M + 4 * j = MT) ∧ Hid (SlR wA.heap.size wx (.slice pr M c) (T.drop (4 * j))) ∧ Hid (wx.ownsRow wA.heap.size 43 1 vu j (u32s (kidsL T j))) ∧ Hid (Below wA.heap.size wA wx)) (fun _ _ vi _ => C + 1 - (intOf vi).toNat)
      case atStart => exact ⟨0, MT, cp0, p0, _, by omega, rfl, rfl, rfl, rfl, HSR0.out, World.ownsRow_nil _ _ _ _, Below.refl _ _⟩
      case round =>
        clear HSR0
        obtain ⟨j, M, c, pr, vu, hj, rfl, hvu, rfl, HMJ, HSR, HO, HA⟩ := hrel
        subst hvu
        have hm := Mem.start wr
        by_cases hlt : j ≤ C
        · have hji : (j : Int) ≤ (C : Int) := by omega
          have hj3 : j ≤ 100000 := by omega
          have HWJ : IntKind.u64.wrap ((j : Int) + 1) = (j : Int) + 1 := by have h9 := wrapU_of (j + 1) (by omega); simpa using h9
          by_cases h4 : M < 4
          · have HM4 : Hid (M < 4) := h4
            have HNO : Hid (rbOk cs = false) := rb_short HC.out (HTT.out ()).1 hlt (by have h9 := HMJ.out; have h8 := HMT.out; omega)
            clear h4
            go_wp2_with (first
              | (go_at_call 19; refine (getR4_short pr M c HM4.out _).mono ?_; rintro e w4 ⟨he, hw⟩; subst he; replace hw := hw.symm; subst hw))
            go_ret3
            exact ⟨Or.inl ⟨HNO.out, rfl⟩, below_next HW.out HW.out.size (below_next HA.out HA.out.size hm.below)⟩
          · obtain ⟨U, hU⟩ : ∃ x, x = T.drop (4 * j) := ⟨_, rfl⟩
            have HUL : Hid (U.length = M) := by show _ = _; rw [hU, List.length_drop, HMT.out]; have h9 := HMJ.out; omega
            have HUB : Hid (Bytes U) := by show Bytes _; rw [hU]; exact HTB.out.drop _
            have HUN : Hid (∀ _ : Unit, U.drop 4 = T.drop (4 * (j + 1))) := fun _ => by rw [hU, List.drop_drop]; congr 1
            obtain ⟨x, hx⟩ : ∃ x, x = numL (U.take 4) := ⟨_, rfl⟩
            have hxb := kidsL_bounds HTB.out (j + 1) x (by rw [kidsL, List.mem_append, ← hU, ← hx]; right; simp)
            have HKN : Hid (∀ _ : Unit, u32s (kidsL T (j + 1)) = u32s (kidsL T j) ++ [.int .u32 x]) := fun _ => by rw [kidsL, ← hU, ← hx]; simp [u32s]
            rw [← hU] at HSR
            have HM4 : Hid (4 ≤ M) := by show _ ≤ _; omega
            have hsr := SlR.lo HSR.out 4 (by omega)
            obtain ⟨P4, hP4⟩ : ∃ x, x = cutLo pr c 4 := ⟨_, rfl⟩
            obtain ⟨M4, hM4⟩ : ∃ x, x = M - 4 := ⟨_, rfl⟩
            obtain ⟨c4, hc4⟩ : ∃ x, x = c - 4 := ⟨_, rfl⟩
            have HEQ2 : Hid (∀ _ : Unit, (cutLo pr c 4 = P4 ∧ M - 4 = M4) ∧ c - 4 = c4) := fun _ => ⟨⟨hP4.symm, hM4.symm⟩, hc4.symm⟩
            rw [← hP4, ← hM4, ← hc4] at hsr
            have HSR4 : Hid (SlR wA.heap.size wr (.slice P4 M4 c4) (U.drop 4)) := hsr
            have HMN : Hid (M4 + 4 * (j + 1) = MT) := by show _ = _; have h9 := HMJ.out; omega
            have HX : Hid (∀ _ : Unit, numL (U.take 4) = x) := fun _ => hx.symm
            have hx0 := hxb.1
            have hx1 := hxb.2
            have HWX : IntKind.u32.wrap x = x := by simp [IntKind.wrap, IntKind.signed, IntKind.bits]; omega
            clear h4 hU hx hsr hP4 hM4 hc4 hxb
            go_wp2_with (first
              | (go_at_call 19; refine (getR4_good U pr M c HUL.out HM4.out HUB.out _ (SlR.old HSR.out)).mono ?_; rintro e w4 ⟨he, hb⟩; rw [HX.out (), (HEQ2.out ()).1.1, (HEQ2.out ()).1.2, (HEQ2.out ()).2] at he; subst he; have HSR1 : Hid (SlR wA.heap.size w4 (.slice P4 M4 c4) (U.drop 4)) := SlR.below HSR4.out hb; replace hm := hm.call hb; clear hb)
              | ((with_reducible refine at_op (some 70) (.buildSlice 31 1 #[(0, .tmp 69)]) ?_); have HO6 : Hid (w4.ownsRow wA.heap.size 43 1 vu j (u32s (kidsL T j))) := own_below HO.out hm.below; have HA6 : Hid (Below wA.heap.size wA w4) := below_next HA.out HA.out.size hm.below; clear hm; have hm := Mem.start w4; go_must (refine wpl_bsl1 rfl (.int .u32 0) (.int .u32 x) un_u32s info_u32 rfl rfl rfl hm ?_); clear hm; intro w8 g8 hb8 hm; clear hb8)
              | ((with_reducible refine at_op (some 71) (.call { callee := .builtin .append, args := #[.tmp 67, .tmp 70], argTypes := #[31, 31] }) ?_); go_must (refine wpl_appV (.int .u32 0) 1 4 rfl un_u32s made_u32 rfl (by omega) (by omega) (own_below HO6.out hm.below) (Nat.le_trans HA6.out.size hm.size) rfl rfl (hm.get 0 rfl) rfl (by simp [Value.oneCell']) hj3 ?_); intro v9 w9 ho9 hg9 hl9; have HO9 : Hid (w9.ownsRow wA.heap.size 43 1 v9 (j + 1) (u32s (kidsL T j) ++ [.int .u32 x])) := ho9; have HA9 : Hid (Below wA.heap.size wA w9) := below_grown (below_next HA6.out HA6.out.size hm.below) (Nat.le_trans HA6.out.size hm.size) (own_below HO6.out hm.below) hg9; have HR9 : Hid (SlR wA.heap.size w9 (.slice P4 M4 c4) (U.drop 4)) := SlR.grown (SlR.below HSR1.out hm.below) (own_below HO6.out hm.below) (by decide) hg9; clear ho9 hg9 hl9 hm))
            go_roundw
            case rel => exact ⟨j + 1, M4, c4, P4, _, by omega, by go_num, rfl, rfl, HMN.out, by show SlR _ _ _ _; rw [← HUN.out ()]; exact HR9.out, by show World.ownsRow _ _ _ _ _ _ _; rw [HKN.out ()]; exact HO9.out, HA9.out⟩
            case measure => simp [intOf]; omega
        · have hjc : j = C + 1 := by omega
          have hnj : ¬ (j : Int) ≤ (C : Int) := by omega
          obtain ⟨I, hI⟩ : ∃ I, kidsL T j = I := ⟨_, rfl⟩
          have HSU : Hid _ := su_of (own_sl HO.out) (kidsL_length T j)
          rw [hI] at HSU
          have HIB : Hid (∀ x ∈ I, 0 ≤ x ∧ x < 4294967296) := by rw [← hI]; exact kidsL_bounds HTB.out _
          have HIL : Hid (I.length ≤ 2000) := by show _ ≤ _; rw [← hI, kidsL_length]; have h9 := HCS.out; omega
          have HOTH : Hid (¬ (branchCode L I.length = 0 ∧ branchB L I = cs) → rbOk cs = false) := fun h => rb_other HC.out (HTT.out ()).1 (HTT.out ()).2 (by rw [← hjc]; exact hI) h
          have HYES : Hid (branchCode L I.length = 0 → branchB L I = cs → rbOk cs = true ∧ rbOutK cs = L ∧ rbOutI cs = I) := fun h1 h2 => by
            have h9 := rb_back h1 HIB.out
            rw [h2] at h9
            exact h9
          have HLB : Hid (Bytes (branchB L I)) := branchB_bytes _ _
          have HLO : Hid (branchCode L I.length = 0 → branchOut L I = branchB L I) := fun h => by rw [branchOut, if_pos h]
          obtain ⟨NL, hNL⟩ : ∃ x, (branchB L I).length = x := ⟨_, rfl⟩
          have HNL : Hid ((branchB L I).length = NL) := hNL
          obtain ⟨SA, hSA⟩ : ∃ x, strOf (branchB L I) = x := ⟨_, rfl⟩
          obtain ⟨SC, hSC⟩ : ∃ x, strOf cs = x := ⟨_, rfl⟩
          have HSA : Hid (∀ _ : Unit, strOf (branchB L I) = SA) := fun _ => hSA
          have HSC : Hid (∀ _ : Unit, strOf cs = SC) := fun _ => hSC
          have HSE : Hid ((SA == SC) = decide (branchB L I = cs)) := by show _ = _; rw [← hSA, ← hSC]; exact strOf_eq HLB.out HB.out
          clear hNL hSA hSC hI hjc HO HSR HMJ
          by_cases hc : branchCode L I.length = 0
          · have HLC : Hid (∀ _ : Unit, branchCode L I.length = 0) := fun _ => hc
            have HLO2 : Hid (∀ _ : Unit, branchOut L I = branchB L I) := fun _ => HLO.out hc
            by_cases he : branchB L I = cs
            · have HES : Hid ((SA == SC) = true) := by show _ = _; rw [HSE.out]; exact decide_eq_true he
              have HY : Hid (rbOk cs = true ∧ rbOutK cs = L ∧ rbOutI cs = I) := HYES.out hc he
              clear hc he
              go_wp2_with (first
                | (go_at_call 23; refine (branchR_any L I _ _ HLL.out HIL.out HIB.out _ (SlV.below HSS.out HA.out) HSU.out).mono ?_; rintro e w2 ⟨v9, he, hso, hb⟩; rw [HLC.out ()] at he; rw [HLO2.out ()] at hso; obtain ⟨p9, c9, hv9, _⟩ : ∃ p c, v9 = .slice p NL c ∧ NL ≤ c := HNL.out ▸ SlOld.len hso; subst hv9; have HSO : Hid (SlOld w2 (.slice p9 NL c9) (branchB L I)) := hso; subst he; replace hm := hm.call hb; clear hb hso)
                | ((with_reducible refine at_opG (some 83) (.convert 22 9 (.tmp 82)) (some (2, false)) ?_); go_must (refine wpl_execG (.string SA) rfl (HSA.out () ▸ exec_tostr un_bs un_u8 un_strT (branchB L I) rfl HSO.out) ?_))
                | ((with_reducible refine at_opG (some 85) (.convert 22 9 (.tmp 84)) (some (2, false)) ?_); go_must (refine wpl_execG (.string SC) rfl (HSC.out () ▸ exec_tostr un_bs un_u8 un_strT cs rfl (SlOld.below HV.out (below_next HW.out HW.out.size (below_next HA.out HA.out.size hm.below)))) ?_))
                | ((with_reducible refine at_opG (some 86) (.binOp .neq 9 (.tmp 83) (.tmp 85) 9) (some (2, false)) ?_); go_must (refine wpl_execG (.bool false) rfl (exec_nesB SA SC true rfl rfl HES.out) ?_)))
              go_ret3
              exact ⟨Or.inr ⟨HY.out.1, _, _, rfl, by rw [HY.out.2.1]; exact SlV.below HSS.out (below_next HA.out HA.out.size hm.below), by rw [HY.out.2.2]; exact SlV.below HSU.out hm.below⟩, below_next HW.out HW.out.size (below_next HA.out HA.out.size hm.below)⟩
            · have HES : Hid ((SA == SC) = false) := by show _ = _; rw [HSE.out]; exact decide_eq_false he
              have HNO : Hid (rbOk cs = false) := HOTH.out (fun h => he h.2)
              clear hc he
              go_wp2_with (first
                | (go_at_call 23; refine (branchR_any L I _ _ HLL.out HIL.out HIB.out _ (SlV.below HSS.out HA.out) HSU.out).mono ?_; rintro e w2 ⟨v9, he, hso, hb⟩; rw [HLC.out ()] at he; rw [HLO2.out ()] at hso; obtain ⟨p9, c9, hv9, _⟩ : ∃ p c, v9 = .slice p NL c ∧ NL ≤ c := HNL.out ▸ SlOld.len hso; subst hv9; have HSO : Hid (SlOld w2 (.slice p9 NL c9) (branchB L I)) := hso; subst he; replace hm := hm.call hb; clear hb hso)
                | ((with_reducible refine at_opG (some 83) (.convert 22 9 (.tmp 82)) (some (2, false)) ?_); go_must (refine wpl_execG (.string SA) rfl (HSA.out () ▸ exec_tostr un_bs un_u8 un_strT (branchB L I) rfl HSO.out) ?_))
                | ((with_reducible refine at_opG (some 85) (.convert 22 9 (.tmp 84)) (some (2, false)) ?_); go_must (refine wpl_execG (.string SC) rfl (HSC.out () ▸ exec_tostr un_bs un_u8 un_strT cs rfl (SlOld.below HV.out (below_next HW.out HW.out.size (below_next HA.out HA.out.size hm.below)))) ?_))
                | ((with_reducible refine at_opG (some 86) (.binOp .neq 9 (.tmp 83) (.tmp 85) 9) (some (2, false)) ?_); go_must (refine wpl_execG (.bool true) rfl (exec_nesB SA SC false rfl rfl HES.out) ?_)))
              go_ret3
              exact ⟨Or.inl ⟨HNO.out, rfl⟩, below_next HW.out HW.out.size (below_next HA.out HA.out.size hm.below)⟩
          · obtain ⟨x, hx⟩ : ∃ x, x = branchCode L I.length := ⟨_, rfl⟩
            have HLC : Hid (∀ _ : Unit, branchCode L I.length = x) := fun _ => hx.symm
            have hbx : (x != 0) = true := by rw [hx]; simpa using hc
            have HNO : Hid (rbOk cs = false) := HOTH.out (fun h => hc h.1)
            clear hc hx
            go_wp2_with (first
              | (go_at_call 23; refine (branchR_any L I _ _ HLL.out HIL.out HIB.out _ (SlV.below HSS.out HA.out) HSU.out).mono ?_; rintro e w2 ⟨v9, he, hso, hb⟩; rw [HLC.out ()] at he; subst he; replace hm := hm.call hb; clear hb hso))
            go_ret3
            exact ⟨Or.inl ⟨HNO.out, rfl⟩, below_next HW.out HW.out.size (below_next HA.out HA.out.size hm.below)⟩
set_option maxRecDepth 100000 in
theorem readBR_any (cs : List Int) (v : Value) (h600 : cs.length ≤ 600) (hcb : Bytes cs) (w : World) (hv : SlOld w v cs) :
    Calls Try.prog 8 #[v] w fun e w' => ∃ v' u', e = .returned (.tuple #[v', u', .bool (rbOk cs)]) ∧ SlS w' v' (rbOutK cs) ∧ SlU w' u' (rbOutI cs) ∧ Below w.heap.size w w' := by
  obtain ⟨p, cap, rfl, hcap, hs⟩ := hv
  have bad : headB cs 2 = false → ∀ (e : Ending) (w' : World), (e = .returned (.tuple #[.slice none 0 0, .slice none 0 0, .bool false]) ∧ Below w.heap.size w w') → ∃ v' u', e = .returned (.tuple #[v', u', .bool (rbOk cs)]) ∧ SlS w' v' (rbOutK cs) ∧ SlU w' u' (rbOutI cs) ∧ Below w.heap.size w w' := by
    intro hh e w' ⟨he, hb⟩
    have hno := rb_head hh
    refine ⟨.slice none 0 0, .slice none 0 0, ?_, ?_, ?_, hb⟩
    · rw [hno]; exact he
    · rw [rbOutK, hno]; exact SlS.nil _
    · rw [rbOutI, hno]; exact SlU.nil _
  by_cases h3 : cs.length < 3
  · exact (readBR_short p cs.length cap h3 w).mono (bad (by unfold headB; exact decide_eq_false (fun h => by omega)))
  · obtain ⟨b, off, rfl, hseg⟩ := hs (by omega)
    by_cases h1 : cs.getD 0 0 = 2
    · refine (readBR_go cs (cs.drop 3) b off cs.length cap (cnt cs) rfl (by omega) h600 h1 rfl rfl hcb w ⟨_, cap, rfl, hcap, fun _ => ⟨b, off, rfl, hseg⟩⟩).mono fun e w' ⟨h, hb⟩ => ?_
      rcases h with ⟨hno, he⟩ | ⟨hy, v', u', he, hsp, hsu⟩
      · refine ⟨.slice none 0 0, .slice none 0 0, ?_, ?_, ?_, hb⟩
        · rw [hno]; exact he
        · rw [rbOutK, hno]; exact SlS.nil _
        · rw [rbOutI, hno]; exact SlU.nil _
      · exact ⟨v', u', by rw [hy]; exact he, hsp, hsu, hb⟩
    · have hc := hseg 0 (by omega)
      rw [Nat.add_zero] at hc
      exact (readBR_kind b off cs.length cap (cs.getD 0 0) h3 (by simpa using h1) w hc).mono (bad (by unfold headB; exact decide_eq_false (fun h => h1 h.2.2)))
end Go.Proofs.Ytnahflppggoplaa
