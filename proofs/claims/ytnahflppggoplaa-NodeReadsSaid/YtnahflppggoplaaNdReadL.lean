/- Package node: ReadLeaf. -/
import Derived.Test.YtnahflppggoplaaNdLeaf
import Derived.Test.YtnahflppggoplaaNdHead
import Derived.Test.YtnahflppggoplaaNdGetText
namespace Go.Proofs.Ytnahflppggoplaa
open Go Go.RowKit
set_option maxRecDepth 100000 in
theorem getText_at (m : Nat) (mi : Int) (hmi : mi = (m : Int)) (cs : List Int) (v : Value) (hNl : cs.length ≤ 30000) (hml : m ≤ 1000) (hcb : Bytes cs) (w : World) (hv : SlOld w v cs) :
    Calls Try.prog 17 #[v, .int .i64 mi] w fun e w' => ∃ g, e = .returned (.tuple #[.string (gtStr cs m), .slice (some ⟨g, 0, none⟩) (gtRest cs m).length (gtRest cs m).length, .int .i64 (gtCode cs m)]) ∧ w.heap.size ≤ g ∧ Row w' g (u8s (gtRest cs m)) 5 ∧ Below w.heap.size w w' := by
  subst hmi
  exact getText_any cs v m hNl hml hcb w hv
set_option maxRecDepth 100000 in
theorem sp_of {w : World} {v : Value} {n : Nat} {l : List (ByteArray × ByteArray)} (h : SlV 2 w v n (prs l)) (hn : l.length = n) : SlP w v l := by subst hn; exact h
set_option maxRecDepth 100000 in
theorem ss_of {w : World} {v : Value} {n : Nat} {l : List ByteArray} (h : SlV 1 w v n (strs l)) (hn : l.length = n) : SlS w v l := by subst hn; exact h
set_option maxRecDepth 100000 in
theorem sr_lo {w : World} {p : Option Addr} {n cap : Nat} {cs : List Int} (h : SlOld w (.slice p n cap) cs) (l : Nat) (hl : l ≤ n) : SlR w.heap.size w (.slice (cutLo p cap l) (n - l) (cap - l)) (cs.drop l) := SlR.of_old (old_lo h l hl)
set_option maxHeartbeats 1000000 in
set_option maxRecDepth 100000 in
theorem readLeaf_no (cs : List Int) (p : Option Addr) (n cap : Nat) (hn : cs.length = n) (hh : headB cs 1 = false) (w : World) (hv : SlOld w (.slice p n cap) cs) :
    Calls Try.prog 5 #[.slice p n cap] w fun e w' => e = .returned (.tuple #[.slice none 0 0, .int .i64 90]) ∧ w' = w := by
  have HV : Hid (SlOld w (.slice p n cap) cs) := hv
  have HN : Hid (cs.length = n) := hn
  have HH : Hid (headB cs 1 = false) := hh
  clear hv hn hh
  go_enter Try.func5, Try.ntmps5
  go_wp2_with (first
    | (go_at_call 15; refine (headed_any cs p n cap 1 HN.out (Or.inl rfl) _ HV.out).mono ?_; rintro e w1 ⟨he, hw⟩; rw [HH.out] at he; subst he; replace hw := hw.symm; subst hw))
  go_ret2
  exact ⟨rfl, rfl⟩
set_option maxHeartbeats 4000000 in
set_option maxRecDepth 100000 in
theorem readLeaf_go (cs r : List Int) (b off N cap C : Nat) (hN : cs.length = N) (h3 : 3 ≤ N) (h480 : N ≤ 480) (hh : headB cs 1 = true) (hC : cnt cs = C) (hrr : cs.drop 3 = r) (hcb : Bytes cs) (w : World) (hv : SlOld w (.slice (some ⟨b, off, none⟩) N cap) cs) :
    Calls Try.prog 5 #[.slice (some ⟨b, off, none⟩) N cap] w fun e w' => (rlOk cs = false ∧ e = .returned (.tuple #[.slice none 0 0, .int .i64 90]) ∨ rlOk cs = true ∧ ∃ v', e = .returned (.tuple #[v', .int .i64 0]) ∧ SlP w' v' (listL r C)) ∧ Below w.heap.size w w' := by
  have HV : Hid (SlOld w (.slice (some ⟨b, off, none⟩) N cap) cs) := hv
  have HSG : Hid (Seg w b off cs) := by
    obtain ⟨_, _, hs⟩ := hv.src0
    obtain ⟨b', off', hp, hseg⟩ := hs (by omega)
    simp only [Option.some.injEq, Addr.mk.injEq] at hp
    obtain ⟨rfl, rfl, _⟩ := hp
    exact hseg
  have HN : Hid (cs.length = N) := hN
  have HH : Hid (headB cs 1 = true) := hh
  have HC : Hid (cnt cs = C) := hC
  have HRR : Hid (∀ _ : Unit, cs.drop 3 = r) := fun _ => hrr
  have HB : Hid (Bytes cs) := hcb
  have HRB : Hid (Bytes r) := by show Bytes _; rw [← hrr]; exact hcb.drop 3
  have HRL : Hid (r.length = N - 3) := by show _ = _; rw [← hrr, List.length_drop, hN]
  have hCl : C ≤ 65535 := by
    have h1 := Bytes.get hcb 1
    have h2 := Bytes.get hcb 2
    rw [← hC]; unfold cnt; omega
  have hm := Mem.start w
  have HR3 : Hid (SlR w.heap.size w (.slice (cutLo (some ⟨b, off, none⟩) cap 3) (N - 3) (cap - 3)) r) := by
    have h9 := sr_lo hv 3 h3
    rw [hrr] at h9
    exact h9
  obtain ⟨P3, hP3⟩ : ∃ x, x = cutLo (some ⟨b, off, none⟩) cap 3 := ⟨_, rfl⟩
  obtain ⟨M0, hM0⟩ : ∃ x, x = N - 3 := ⟨_, rfl⟩
  obtain ⟨c0, hc0⟩ : ∃ x, x = cap - 3 := ⟨_, rfl⟩
  have HSL : Hid (∀ W : World, ∀ a : Act, ∀ (dst : Option Tmp) (typ : TypeId) (pos : String) (aft : Array Edge), a.eval (.tmp 14) = .slice (some ⟨b, off, none⟩) N cap → (execOp a.eval { dst := dst, op := .slice 22 (.tmp 14) (some (.const (.int .i64 3))) none none, type := typ, pos := pos, after := aft, guard := none }).run Try.prog W = .ok (.value (.slice P3 M0 c0)) W) := by
    intro W a dst typ pos aft h
    rw [hP3, hM0, hc0]
    exact exec_sLo un_bs sz_u8 3 h3 h rfl rfl
  rw [← hP3, ← hM0, ← hc0] at HR3
  rw [← hM0] at HRL
  have hM0b : M0 ≤ 480 := by omega
  clear hv hN hh hC hrr hcb hP3 hM0 hc0
  go_enter Try.func5, Try.ntmps5
  go_wp2_with (first
    | (go_at_call 15; refine (headed_any cs _ N cap 1 HN.out (Or.inl rfl) _ HV.out).mono ?_; rintro e w1 ⟨he, hw⟩; rw [HH.out] at he; subst he; replace hw := hw.symm; subst hw)
    | ((with_reducible refine at_op (some 15) (.slice 22 (.tmp 14) (some (.const (.int .i64 3))) none none) ?_); go_must (refine wpl_execG (.slice P3 M0 c0) rfl (HSL.out _ _ _ _ _ _ rfl) ?_))
    | (go_at_call 16; refine (count_any cs b off N cap HN.out h3 HB.out _ HSG.out).mono ?_; rintro e w2 ⟨he, hb⟩; rw [HC.out] at he; subst he; replace hm := hm.call hb; clear hb))
  have HST : Hid (SlR w.heap.size w2 (.slice P3 M0 c0) (restL r 0)) := SlR.below HR3.out hm.below
  have HBL : Hid (Below w.heap.size w w2) := hm.below
  clear hm HR3
  go_loopw [4, 5, 18] (fun vl vr vi wr => ∃ k M c : Nat, ∃ pr : Option Addr, k ≤ C ∧ vi = .int .i64 (k : Int) ∧ vr = .slice pr M c ∧ Hid (okL r k = true) ∧ Hid (SlR w.heap.size wr (.slice pr M c) (restL r k)) ∧ Hid (wr.ownsRow w.heap.size 45 2 vl k (prs (listL r k))) ∧ Hid (Below w.heap.size w wr)) (fun _ _ vi _ => C - (intOf vi).toNat)
  case atStart => exact ⟨0, M0, c0, P3, by omega, rfl, rfl, rfl, HST.out, World.ownsRow_nil _ _ _ _, HBL.out⟩
  case round =>
    clear HST HBL
    obtain ⟨k, M, c, pr, hk, rfl, rfl, HOK, HSR, HO, HW⟩ := hrel
    by_cases hlt : k < C
    · have hki : (k : Int) < (C : Int) := by omega
      have hk3 : k ≤ 100000 := by omega
      obtain ⟨R0, hR0⟩ : ∃ x, x = restL r k := ⟨_, rfl⟩
      obtain ⟨R1, hR1⟩ : ∃ x, x = gtRest R0 60 := ⟨_, rfl⟩
      obtain ⟨R2, hR2⟩ : ∃ x, x = gtRest R1 150 := ⟨_, rfl⟩
      obtain ⟨s1, hs1⟩ : ∃ x, x = gtStr R0 60 := ⟨_, rfl⟩
      obtain ⟨s2, hs2⟩ : ∃ x, x = gtStr R1 150 := ⟨_, rfl⟩
      obtain ⟨M1, hM1⟩ : ∃ x, x = R1.length := ⟨_, rfl⟩
      obtain ⟨M2, hM2⟩ : ∃ x, x = R2.length := ⟨_, rfl⟩
      have HR0L : Hid (R0.length ≤ 30000) := by show _ ≤ _; have h9 := restL_length r k; have h8 := HRL.out; rw [hR0]; have h7 := okL_len HOK.out; have h6 := HN.out; omega
      have HR1L : Hid (R1.length ≤ 30000) := by show _ ≤ _; have h9 := gtRest_length R0 60; have h8 := HR0L.out; rw [hR1]; omega
      have HR0B : Hid (Bytes R0) := by show Bytes _; rw [hR0]; exact restL_bytes HRB.out k
      have HR1B : Hid (Bytes R1) := by show Bytes _; rw [hR1]; exact gtRest_bytes HR0B.out _
      have HRN : Hid (restL r (k + 1) = R2) := by show _ = _; rw [restL, ← hR0, ← hR1, ← hR2]
      have HPN : Hid (prs (listL r (k + 1)) = prs (listL r k) ++ [.string s1, .string s2]) := by show _ = _; rw [listL, prs_append, pairL, ← hR0, ← hs1, ← hR1, ← hs2]; rfl
      have HGN : Hid (okL r (k + 1) = (decide (gtCode R0 60 = 0) && decide (gtCode R1 150 = 0))) := by show _ = _; rw [okL, HOK.out, goodL, ← hR0, ← hR1, Bool.true_and]
      have HS1 : Hid (∀ _ : Unit, gtStr R0 60 = s1) := fun _ => hs1.symm
      have HS2 : Hid (∀ _ : Unit, gtStr R1 150 = s2) := fun _ => hs2.symm
      have HR1 : Hid (∀ _ : Unit, gtRest R0 60 = R1) := fun _ => hR1.symm
      have HR2 : Hid (∀ _ : Unit, gtRest R1 150 = R2) := fun _ => hR2.symm
      have HM1 : Hid (R1.length = M1) := hM1.symm
      have HM2 : Hid (R2.length = M2) := hM2.symm
      rw [← hR0] at HSR
      have hm := Mem.start wr
      have tk1 : Nat := 0
      obtain ⟨fs, hfs⟩ := un_pair
      have HFS : Hid (∀ _ : Unit, Try.prog.underlying 45 = some (.struct fs)) := fun _ => hfs
      clear hR0 hR1 hR2 hs1 hs2 hM1 hM2 hfs
      by_cases hc1 : gtCode R0 60 = 0
      · have HE1 : Hid (∀ _ : Unit, gtCode R0 60 = 0) := fun _ => hc1
        by_cases hc2 : gtCode R1 150 = 0
        · have HE2 : Hid (∀ _ : Unit, gtCode R1 150 = 0) := fun _ => hc2
          have HKN : Hid (okL r (k + 1) = true) := by show _ = _; rw [HGN.out, hc1, hc2]; rfl
          clear hc1 hc2
          go_wp2_with (first
            | ((with_reducible refine at_op (some 6) (.alloc 45) ?_); refine wpl_alloc _ zero_pair hm ?_; clear hm; intro w3 g6 hm)
            | (go_at_call 17; clear tk1; refine (getText_at 60 60 rfl R0 _ HR0L.out (by omega) HR0B.out _ (SlR.old (SlR.below HSR.out hm.below))).mono ?_; rintro e w4 ⟨g1, he, hge, hr, hb⟩; rw [HS1.out (), HR1.out (), HM1.out, HE1.out ()] at he; subst he; rw [HR1.out ()] at hr; replace hm := hm.callNew hb hr hge; clear hge hr hb)
            | ((with_reducible refine at_op none (.store 9 (.tmp 26) (.tmp 23)) ?_); refine wpl_stc 1 0 (.string s1) hm rfl rfl rfl sz_str (by simp) rfl rfl ?_; clear hm; intro w5 hm)
            | (go_at_call 17; refine (getText_at 150 150 rfl R1 _ HR1L.out (by omega) HR1B.out _ (old_all (hm.get 0 rfl) HM1.out (Nat.le_refl _))).mono ?_; rintro e w6 ⟨g2, he, hge, hr, hb⟩; rw [HS2.out (), HR2.out (), HM2.out, HE2.out ()] at he; subst he; rw [HR2.out ()] at hr; replace hm := hm.callNew hb hr hge; clear hge hr hb)
            | ((with_reducible refine at_op none (.store 9 (.tmp 33) (.tmp 30)) ?_); refine wpl_stc 2 1 (.string s2) hm rfl rfl rfl sz_str (by simp) rfl rfl ?_; clear hm; intro w7 hm)
            | ((with_reducible refine at_op (some 41) (.load 45 (.tmp 6)) ?_); refine wpl_ldw 2 hm rfl rfl (.struct fs) (HFS.out ()) rfl 2 sz_pair rfl ?_)
            | ((with_reducible refine at_op (some 42) (.buildSlice 24 1 #[(0, .tmp 41)]) ?_); go_must (refine wpl_bslP s1 s2 rfl rfl hm ?_); clear hm; intro w8 g8 hm)
            | ((with_reducible refine at_op (some 43) (.call { callee := .builtin .append, args := #[.tmp 40, .tmp 42], argTypes := #[24, 24] }) ?_); go_must (refine wpl_appV (.agg [.string ByteArray.empty, .string ByteArray.empty].toArray) 2 32 rfl un_pairs made_pair rfl (by omega) (by omega) (own_below HO.out hm.below) (Nat.le_trans HW.out.size hm.size) rfl rfl (hm.get 0 rfl) rfl (by simp [Value.oneCell']) hk3 ?_); intro v9 w9 ho9 hg9 hl9; have HO9 : Hid (w9.ownsRow w.heap.size 45 2 v9 (k + 1) (prs (listL r k) ++ [.string s1, .string s2])) := ho9; have HW9 : Hid (Below w.heap.size w w9) := below_grown (below_next HW.out HW.out.size hm.below) (Nat.le_trans HW.out.size hm.size) (own_below HO.out hm.below) hg9; have HR9 : Hid (SlR w.heap.size w9 (.slice (some ⟨g2, 0, none⟩) M2 M2) R2) := SlR.grown (SlR.of_row (hm.get 1 rfl) HM2.out) (own_below HO.out hm.below) (by decide) hg9; clear ho9 hg9 hl9 hm))
          go_roundw
          case rel => exact ⟨k + 1, M2, M2, some ⟨g2, 0, none⟩, by omega, by go_num, rfl, HKN.out, by show SlR _ _ _ _; rw [HRN.out]; exact HR9.out, by show World.ownsRow _ _ _ _ _ _ _; rw [HPN.out]; exact HO9.out, HW9.out⟩
          case measure => simp [intOf]; omega
        · obtain ⟨e2, he2⟩ : ∃ x, x = gtCode R1 150 := ⟨_, rfl⟩
          have HE2 : Hid (∀ _ : Unit, gtCode R1 150 = e2) := fun _ => he2.symm
          have hb2 : (e2 != 0) = true := by rw [he2]; simpa using hc2
          have HNO : Hid (rlOk cs = false) := rl_bad (show k + 1 ≤ cnt cs by rw [HC.out]; omega) (by rw [HRR.out (), HGN.out, decide_eq_false hc2]; simp)
          clear hc1 hc2 he2
          go_wp2_with (first
            | ((with_reducible refine at_op (some 6) (.alloc 45) ?_); refine wpl_alloc _ zero_pair hm ?_; clear hm; intro w3 g6 hm)
            | (go_at_call 17; clear tk1; refine (getText_at 60 60 rfl R0 _ HR0L.out (by omega) HR0B.out _ (SlR.old (SlR.below HSR.out hm.below))).mono ?_; rintro e w4 ⟨g1, he, hge, hr, hb⟩; rw [HS1.out (), HR1.out (), HM1.out, HE1.out ()] at he; subst he; rw [HR1.out ()] at hr; replace hm := hm.callNew hb hr hge; clear hge hr hb)
            | ((with_reducible refine at_op none (.store 9 (.tmp 26) (.tmp 23)) ?_); refine wpl_stc 1 0 (.string s1) hm rfl rfl rfl sz_str (by simp) rfl rfl ?_; clear hm; intro w5 hm)
            | (go_at_call 17; refine (getText_at 150 150 rfl R1 _ HR1L.out (by omega) HR1B.out _ (old_all (hm.get 0 rfl) HM1.out (Nat.le_refl _))).mono ?_; rintro e w6 ⟨g2, he, hge, hr, hb⟩; rw [HS2.out (), HR2.out (), HM2.out, HE2.out ()] at he; subst he; rw [HR2.out ()] at hr; replace hm := hm.callNew hb hr hge; clear hge hr hb)
            | ((with_reducible refine at_op none (.store 9 (.tmp 33) (.tmp 30)) ?_); refine wpl_stc 2 1 (.string s2) hm rfl rfl rfl sz_str (by simp) rfl rfl ?_; clear hm; intro w7 hm))
          go_ret2
          exact ⟨Or.inl ⟨HNO.out, rfl⟩, below_next HW.out HW.out.size hm.below⟩
      · obtain ⟨e1, he1⟩ : ∃ x, x = gtCode R0 60 := ⟨_, rfl⟩
        obtain ⟨e2, he2⟩ : ∃ x, x = gtCode R1 150 := ⟨_, rfl⟩
        have HE1 : Hid (∀ _ : Unit, gtCode R0 60 = e1) := fun _ => he1.symm
        have HE2 : Hid (∀ _ : Unit, gtCode R1 150 = e2) := fun _ => he2.symm
        have hb1 : (e1 != 0) = true := by rw [he1]; simpa using hc1
        have HNO : Hid (rlOk cs = false) := rl_bad (show k + 1 ≤ cnt cs by rw [HC.out]; omega) (by rw [HRR.out (), HGN.out, decide_eq_false hc1]; rfl)
        clear hc1 he1 he2
        go_wp2_with (first
          | ((with_reducible refine at_op (some 6) (.alloc 45) ?_); refine wpl_alloc _ zero_pair hm ?_; clear hm; intro w3 g6 hm)
          | (go_at_call 17; clear tk1; refine (getText_at 60 60 rfl R0 _ HR0L.out (by omega) HR0B.out _ (SlR.old (SlR.below HSR.out hm.below))).mono ?_; rintro e w4 ⟨g1, he, hge, hr, hb⟩; rw [HS1.out (), HR1.out (), HM1.out, HE1.out ()] at he; subst he; rw [HR1.out ()] at hr; replace hm := hm.callNew hb hr hge; clear hge hr hb)
          | ((with_reducible refine at_op none (.store 9 (.tmp 26) (.tmp 23)) ?_); refine wpl_stc 1 0 (.string s1) hm rfl rfl rfl sz_str (by simp) rfl rfl ?_; clear hm; intro w5 hm)
          | (go_at_call 17; refine (getText_at 150 150 rfl R1 _ HR1L.out (by omega) HR1B.out _ (old_all (hm.get 0 rfl) HM1.out (Nat.le_refl _))).mono ?_; rintro e w6 ⟨g2, he, hge, hr, hb⟩; rw [HS2.out (), HR2.out (), HM2.out, HE2.out ()] at he; subst he; rw [HR2.out ()] at hr; replace hm := hm.callNew hb hr hge; clear hge hr hb)
          | ((with_reducible refine at_op none (.store 9 (.tmp 33) (.tmp 30)) ?_); refine wpl_stc 2 1 (.string s2) hm rfl rfl rfl sz_str (by simp) rfl rfl ?_; clear hm; intro w7 hm))
        go_ret2
        exact ⟨Or.inl ⟨HNO.out, rfl⟩, below_next HW.out HW.out.size hm.below⟩
    · have hkn : C = k := by omega
      subst hkn
      have hni : ¬ (C : Int) < (C : Int) := by omega
      have hsp := sp_of (own_sl HO.out) (listL_length r C)
      have HSP : Hid _ := hsp
      have hol := okL_len HOK.out
      have HLL : Hid ((listL r C).length ≤ 1000) := by show _ ≤ _; rw [listL_length]; have h8 := HRL.out; have h6 := HN.out; omega
      have HLS : Hid (∀ p ∈ listL r C, p.1.size ≤ 1152921504606846976 ∧ p.2.size ≤ 1152921504606846976) := by
        intro p hp
        have h9 := listL_sizes r C p hp
        omega
      have HYES : Hid (leafCode (listL r C) = 0 → leafB (listL r C) = cs → rlOk cs = true) := fun h1 h2 => rl_yes HH.out (by rw [HRR.out (), HC.out]; exact HOK.out) (by rw [HRR.out (), HC.out]; exact h1) (by rw [HRR.out (), HC.out]; exact h2)
      have HNC : Hid (¬ leafCode (listL r C) = 0 → rlOk cs = false) := fun h => rl_code (by rw [HRR.out (), HC.out]; exact h)
      have HNE : Hid (¬ leafB (listL r C) = cs → rlOk cs = false) := fun h => rl_eq (by rw [HRR.out (), HC.out]; exact h)
      have HLB : Hid (Bytes (leafB (listL r C))) := leafB_bytes _
      have HLO : Hid (leafCode (listL r C) = 0 → leafOut (listL r C) = leafB (listL r C)) := fun h => by rw [leafOut, if_pos h]
      obtain ⟨L, hL⟩ : ∃ L, listL r C = L := ⟨_, rfl⟩
      rw [hL] at HSP HLL HLS HYES HNC HNE HLB HLO
      have HLE : Hid (∀ _ : Unit, listL r C = L) := fun _ => hL
      clear hL
      have hm := Mem.start wr
      clear hsp hol
      by_cases hc : leafCode L = 0
      · have HLC : Hid (∀ _ : Unit, leafCode L = 0) := fun _ => hc
        have HLO2 : Hid (∀ _ : Unit, leafOut L = leafB L) := fun _ => HLO.out hc
        by_cases he : leafB L = cs
        · have HEQ : Hid (decide (leafB L = cs) = true) := decide_eq_true he
          have HY : Hid (rlOk cs = true) := HYES.out hc he
          clear hc he
          go_wp2_with (first
            | (go_at_call 12; refine (leaf_any L _ HLL.out HLS.out _ HSP.out).mono ?_; rintro e w2 ⟨v9, he, hso, hb⟩; rw [HLC.out ()] at he; subst he; rw [HLO2.out ()] at hso; have HSO : Hid (SlOld w2 v9 (leafB L)) := hso; replace hm := hm.call hb; clear hb hso)
            | (go_at_call 18; refine (equal_any (leafB L) cs _ _ HLB.out HB.out _ HSO.out (SlOld.below HV.out (below_next HW.out HW.out.size hm.below))).mono ?_; rintro e w3 ⟨he, hw⟩; rw [HEQ.out] at he; subst he; replace hw := hw.symm; subst hw))
          go_ret2
          exact ⟨Or.inr ⟨HY.out, _, rfl, by rw [HLE.out ()]; exact SlV.below HSP.out hm.below⟩, below_next HW.out HW.out.size hm.below⟩
        · have HEQ : Hid (decide (leafB L = cs) = false) := decide_eq_false he
          have HNO : Hid (rlOk cs = false) := HNE.out he
          clear hc he
          go_wp2_with (first
            | (go_at_call 12; refine (leaf_any L _ HLL.out HLS.out _ HSP.out).mono ?_; rintro e w2 ⟨v9, he, hso, hb⟩; rw [HLC.out ()] at he; subst he; rw [HLO2.out ()] at hso; have HSO : Hid (SlOld w2 v9 (leafB L)) := hso; replace hm := hm.call hb; clear hb hso)
            | (go_at_call 18; refine (equal_any (leafB L) cs _ _ HLB.out HB.out _ HSO.out (SlOld.below HV.out (below_next HW.out HW.out.size hm.below))).mono ?_; rintro e w3 ⟨he, hw⟩; rw [HEQ.out] at he; subst he; replace hw := hw.symm; subst hw))
          go_ret2
          exact ⟨Or.inl ⟨HNO.out, rfl⟩, below_next HW.out HW.out.size hm.below⟩
      · obtain ⟨x, hx⟩ : ∃ x, x = leafCode L := ⟨_, rfl⟩
        have HLC : Hid (∀ _ : Unit, leafCode L = x) := fun _ => hx.symm
        have hbx : (x != 0) = true := by rw [hx]; simpa using hc
        have HNO : Hid (rlOk cs = false) := HNC.out hc
        clear hc hx
        go_wp2_with (first
          | (go_at_call 12; refine (leaf_any L _ HLL.out HLS.out _ HSP.out).mono ?_; rintro e w2 ⟨v9, he, hso, hb⟩; rw [HLC.out ()] at he; subst he; replace hm := hm.call hb; clear hb hso))
        go_ret2
        exact ⟨Or.inl ⟨HNO.out, rfl⟩, below_next HW.out HW.out.size hm.below⟩
set_option maxRecDepth 100000 in
theorem readLeaf_any (cs : List Int) (v : Value) (hcb : Bytes cs) (w : World) (hv : SlOld w v cs) :
    Calls Try.prog 5 #[v] w fun e w' => ∃ v', e = .returned (.tuple #[v', .int .i64 (if rlOk cs then 0 else 90)]) ∧ SlP w' v' (rlOut cs) ∧ Below w.heap.size w w' := by
  obtain ⟨p, cap, rfl, hcap, hs⟩ := hv
  cases hh : headB cs 1 with
  | false =>
    have hno := rl_head hh
    refine (readLeaf_no cs p cs.length cap rfl hh w ⟨p, cap, rfl, hcap, hs⟩).mono fun e w' ⟨he, hw⟩ => ⟨.slice none 0 0, ?_, ?_, by rw [hw]; exact Below.refl _ _⟩
    · rw [hno]; exact he
    · rw [rlOut, hno]; exact SlP.nil _
  | true =>
    have hh2 := hh
    simp only [headB, decide_eq_true_eq] at hh2
    obtain ⟨b, off, rfl, hseg⟩ := hs (by omega)
    refine (readLeaf_go cs (cs.drop 3) b off cs.length cap (cnt cs) rfl hh2.1 hh2.2.1 hh rfl rfl hcb w ⟨_, cap, rfl, hcap, fun _ => ⟨b, off, rfl, hseg⟩⟩).mono fun e w' ⟨h, hb⟩ => ?_
    rcases h with ⟨hno, he⟩ | ⟨hy, v', he, hsp⟩
    · refine ⟨.slice none 0 0, ?_, ?_, hb⟩
      · rw [hno]; exact he
      · rw [rlOut, hno]; exact SlP.nil _
    · refine ⟨v', ?_, ?_, hb⟩
      · rw [hy]; exact he
      · rw [rlOut, hy]; exact hsp
end Go.Proofs.Ytnahflppggoplaa
