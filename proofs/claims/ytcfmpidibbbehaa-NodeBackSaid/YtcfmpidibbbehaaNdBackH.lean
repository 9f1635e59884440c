/- The walk of the law NodeBack: a part. -/
import Derived.Test.YtcfmpidibbbehaaNdBackA
namespace Go.Proofs.Ytcfmpidibbbehaa
open Go Go.RowKit
set_option maxHeartbeats 3000000 in
set_option maxRecDepth 100000 in
theorem back_fgd (l m : List (ByteArray × ByteArray)) (ks : List ByteArray) (kids : List Int) (mo : Int) (q1 q2 q3 q4 : Option Addr) (n1 n2 n3 n4 d1 d2 d3 d4 : Nat) (hl : l.length = n1) (hm2 : m.length = n2) (hk : ks.length = n3) (hi : kids.length = n4) (h1 : n1 ≤ 40) (h2 : n2 ≤ 40) (h3 : n3 ≤ 40) (h4 : n4 ≤ 41) (hmo : 0 ≤ mo ∧ mo < 256) (sz1 : ∀ p ∈ l, p.1.size ≤ 1152921504606846976 ∧ p.2.size ≤ 1152921504606846976) (sz2 : ∀ p ∈ m, p.1.size ≤ 1152921504606846976 ∧ p.2.size ≤ 1152921504606846976) (kb : ∀ x ∈ kids, 0 ≤ x ∧ x < 4294967296) (hE : leafCode l = 0) (hG : branchCode ks kids.length = 0) (hF : leafCode m = 0) (hLM : ¬ l = m) (w : World) (vl : SlP w (.slice q1 n1 d1) l) (vm : SlP w (.slice q2 n2 d2) m) (vk : SlS w (.slice q3 n3 d3) ks) (vi : SlU w (.slice q4 n4 d4) kids) :
    Calls Try.prog 5 #[.slice q1 n1 d1, .slice q2 n2 d2, .slice q3 n3 d3, .slice q4 n4 d4, .int .u8 mo] w fun e w' => e = .returned (.bool true) ∧ Below w.heap.size w w' := by
  have hm := Mem.start w
  have i1 : ¬ (n1 : Int) > 40 := by omega
  have i2 : ¬ (n2 : Int) > 40 := by omega
  have i3 : ¬ (n3 : Int) > 40 := by omega
  have i4 : ¬ (n4 : Int) > 41 := by omega
  have HN1 : Hid (l.length ≤ 1000) := by show _ ≤ _; omega
  have HNN : Hid (l.length = n1) := hl
  have HN2 : Hid (m.length ≤ 1000) := by show _ ≤ _; omega
  have HN3 : Hid (ks.length ≤ 1000) := by show _ ≤ _; omega
  have HN4 : Hid (kids.length ≤ 1000) := by show _ ≤ _; omega
  have HZ1 : Hid (∀ p ∈ l, p.1.size ≤ 1152921504606846976 ∧ p.2.size ≤ 1152921504606846976) := sz1
  have HZ2 : Hid (∀ p ∈ m, p.1.size ≤ 1152921504606846976 ∧ p.2.size ≤ 1152921504606846976) := sz2
  have HKB : Hid (∀ x ∈ kids, 0 ≤ x ∧ x < 4294967296) := kb
  have HVL : Hid (SlP w (.slice q1 n1 d1) l) := vl
  have HVM : Hid (SlP w (.slice q2 n2 d2) m) := vm
  have HVK : Hid (SlS w (.slice q3 n3 d3) ks) := vk
  have HVI : Hid (SlU w (.slice q4 n4 d4) kids) := vi
  have HB1 : Hid (Bytes (leafB l)) := leafB_bytes l
  have HB2 : Hid (Bytes (leafB m)) := leafB_bytes m
  have HB3 : Hid (Bytes (branchB ks kids)) := branchB_bytes ks kids
  have HBM : Hid (Bytes [mo]) := by intro x hx; simp at hx; rw [hx]; exact hmo
  obtain ⟨rl1, rl2⟩ := rl_back hE
  have HR1 : Hid (∀ _ : Unit, (if rlOk (leafB l) = true then (0 : Int) else 90) = 0) := fun _ => by rw [rl1]; rfl
  have HR1o : Hid (∀ _ : Unit, rlOut (leafB l) = l) := fun _ => rl2
  have HR2 : Hid (∀ _ : Unit, (if rlOk (leafB l ++ [mo]) = true then (0 : Int) else 90) = 90) := fun _ => by rw [rl_more hE]; rfl
  have HR3 : Hid (∀ _ : Unit, (if rlOk ((leafB l).take ((leafB l).length - 1)) = true then (0 : Int) else 90) = 90) := fun _ => by rw [show (leafB l).take ((leafB l).length - 1) = (leafB l).dropLast from List.dropLast_eq_take.symm, rl_less hE]; rfl
  have HR4 : Hid (∀ _ : Unit, (if rbOk (leafB l) = true then (0 : Int) else 90) = 90) := fun _ => by rw [rb_leaf]; rfl
  obtain ⟨hok1, hsz1⟩ := leafCode_ok hE
  have hN1 := szP_len l
  obtain ⟨N1, hN1e⟩ : ∃ N, N = szP l := ⟨_, rfl⟩
  have HNL : Hid ((leafB l).length = N1) := by show _ = _; rw [leafB_length, hN1e]
  have HSM : Hid (((min (szP l) 100000 : Nat) : Int) = (N1 : Int)) := by show _ = _; rw [← hN1e]; omega
  have hN1a : 3 ≤ N1 := by omega
  have hN1b : N1 ≤ 480 := by omega
  have hN1i : ¬ (N1 : Int) > 480 := by omega
  have HWN : IntKind.i64.wrap ((N1 : Int) - 1) = ((N1 - 1 : Nat) : Int) := (wrapi _ (by omega) (by omega)).trans (by omega)
  have HLO1 : Hid (∀ _ : Unit, leafOut l = leafB l) := fun _ => by rw [leafOut, if_pos hE]
  clear rl1 rl2 hok1 hsz1 hN1 hN1e
  have HLC1 : Hid (∀ _ : Unit, leafCode l = 0) := fun _ => hE
  have HLC2 : Hid (∀ _ : Unit, leafCode m = 0) := fun _ => hF
  have HLO2 : Hid (∀ _ : Unit, leafOut m = leafB m) := fun _ => by rw [leafOut, if_pos hF]
  have HST : Hid ((strOf (leafB l) == strOf (leafB m)) = false) := by show _ = _; rw [strOf_eq HB1.out HB2.out]; exact decide_eq_false (fun h => hLM (leafB_inj hE hF h))
  have HLM : Hid (∀ _ : Unit, ¬ l = m) := fun _ => hLM
  obtain ⟨rb1, rb2, rb3⟩ := rb_back hG kb
  have HG1 : Hid (∀ _ : Unit, (if rbOk (branchB ks kids) = true then (0 : Int) else 90) = 0) := fun _ => by rw [rb1]; rfl
  have HG2 : Hid (∀ _ : Unit, rbOutK (branchB ks kids) = ks) := fun _ => rb2
  have HG3 : Hid (∀ _ : Unit, rbOutI (branchB ks kids) = kids) := fun _ => rb3
  have HG4 : Hid (∀ _ : Unit, (if rlOk (branchB ks kids) = true then (0 : Int) else 90) = 90) := fun _ => by rw [rl_branch]; rfl
  obtain ⟨_, hszg⟩ := branchCode_ok hG
  obtain ⟨N3, hN3e⟩ : ∃ N, N = szB ks kids.length := ⟨_, rfl⟩
  have HNG : Hid ((branchB ks kids).length = N3) := by show _ = _; rw [branchB_length, hN3e]
  have hN3i : ¬ (N3 : Int) > 480 := by omega
  have HLC3 : Hid (∀ _ : Unit, branchCode ks kids.length = 0) := fun _ => hG
  have HLO3 : Hid (∀ _ : Unit, branchOut ks kids = branchB ks kids) := fun _ => by rw [branchOut, if_pos hG]
  clear rb1 rb2 rb3 hszg hN3e
  have tkL1 : Nat := 0
  have tkR1 : Nat := 0
  have tkR2 : Nat := 0
  have tkR3 : Nat := 0
  have tkB1 : Nat := 0
  have tkP1 : Nat := 0
  clear hl hm2 hk hi hmo sz1 sz2 kb vl vm vk vi hE hG hF hLM
  go_enter Try.func5, Try.ntmps5
  go_wp2_with (first
    | (go_at_call 9; refine (known_any _).mono ?_; rintro e wk ⟨rfl, hb⟩; replace hm := hm.call hb; clear hb)
    | (go_at_call 10; clear tkL1; refine (leaf_any l _ HN1.out HZ1.out _ (SlV.below HVL.out hm.below)).mono ?_; rintro e w1 ⟨v1, he, hs, hb⟩; rw [HLC1.out ()] at he; rw [HLO1.out ()] at hs; obtain ⟨p1, c1, hv1, _⟩ : ∃ p c, v1 = .slice p N1 c ∧ N1 ≤ c := HNL.out ▸ SlOld.len hs; subst hv1; subst he; have HA1 : Hid (SlOld w1 (.slice p1 N1 c1) (leafB l)) := hs; replace hm := hm.call hb; clear hb hs)
    | (go_at_call 10; refine (leaf_any m _ HN2.out HZ2.out _ (SlV.below HVM.out hm.below)).mono ?_; rintro e w2 ⟨v2, he, hs, hb⟩; rw [HLC2.out ()] at he; rw [HLO2.out ()] at hs; subst he; have HA2 : Hid (SlOld w2 (.slice p1 N1 c1) (leafB l)) := SlOld.below HA1.out hb; have HA3 : Hid (SlOld w2 v2 (leafB m)) := hs; replace hm := hm.call hb; clear hb hs)
    | (go_at_call 12; refine (branch_any ks kids _ _ HN3.out HKB.out _ (SlV.below HVK.out hm.below) (SlV.below HVI.out hm.below)).mono ?_; rintro e w3 ⟨v3, he, hs, hb⟩; rw [HLC3.out ()] at he; rw [HLO3.out ()] at hs; obtain ⟨p3, c3, hv3, _⟩ : ∃ p c, v3 = .slice p N3 c ∧ N3 ≤ c := HNG.out ▸ SlOld.len hs; subst hv3; subst he; replace hm := hm.call hb; have HK0 : Hid (Bk w3 (.slice p1 N1 c1) v2 (.slice p3 N3 c3) (.slice q1 n1 d1) (.slice q2 n2 d2) (.slice q3 n3 d3) (.slice q4 n4 d4) (leafB l) (leafB m) (branchB ks kids) l m ks kids) := ⟨SlOld.below HA2.out hb, SlOld.below HA3.out hb, hs, SlV.below HVL.out hm.below, SlV.below HVM.out hm.below, SlV.below HVK.out hm.below, SlV.below HVI.out hm.below⟩; clear hb hs)
    | (go_at_call 16; clear tkR1; refine (readLeaf_any (leafB l) _ HB1.out _ HK0.out.a).mono ?_; rintro e w4 ⟨vx, he, hs, hb⟩; rw [HR1.out ()] at he; rw [HR1o.out ()] at hs; subst he; have HX1 : Hid (SlP w4 vx l) := hs; have HK1 : Hid (Bk w4 (.slice p1 N1 c1) v2 (.slice p3 N3 c3) (.slice q1 n1 d1) (.slice q2 n2 d2) (.slice q3 n3 d3) (.slice q4 n4 d4) (leafB l) (leafB m) (branchB ks kids) l m ks kids) := Bk.below HK0.out hb; replace hm := hm.call hb; clear hb hs)
    | ((with_reducible refine at_op (some 76) (.call { callee := .builtin .append, args := #[.const (.slice none 0 0), .tmp 75], argTypes := #[26, 26] }) ?_); go_must (refine wpl_app rfl un_bs made_u8 (leafB l) (Mem.start w4) (OwnB.nil _ _ _) (by simp) rfl rfl HNL.out.symm (((HK1.out.a).src0).2.2) (by rw [HNL.out]; simp; omega) ?_); intro v5 w5 hown hmB; rw [List.nil_append] at hown; have HOW : Hid (OwnB 5 w5 w4.heap.size v5 (leafB l)) := hown; clear hown)
    | ((with_reducible refine at_op (some 78) (.buildSlice 26 1 #[(0, .tmp 77)]) ?_); go_must (refine wpl_bsl1 rfl (.int .u8 0) (.int .u8 mo) un_bs info_u8 rfl rfl rfl hmB ?_); clear hmB; intro w6 g6 hb6 hmB; have HOW2 : Hid (OwnB 5 w6 w4.heap.size v5 (leafB l)) := OwnB.below HOW.out hb6; have HS6 : Hid (SlOld w6 (.slice (some ⟨g6, 0, none⟩) 1 1) [mo]) := old_all (hmB.get 0 rfl) rfl (Nat.le_refl _); replace hmB := hmB.tail; clear hb6)
    | ((with_reducible refine at_op (some 79) (.call { callee := .builtin .append, args := #[.tmp 76, .tmp 78], argTypes := #[26, 26] }) ?_); go_must (refine wpl_app rfl un_bs made_u8 [mo] hmB HOW2.out (by simp) rfl rfl rfl (((HS6.out).src0).2.2) (by rw [HNL.out]; simp; omega) ?_); clear hmB; intro v7 w7 hown hmB; have HOW3 : Hid (SlOld w7 v7 (leafB l ++ [mo])) := OwnB.old hown; have HK2 : Hid (Bk w7 (.slice p1 N1 c1) v2 (.slice p3 N3 c3) (.slice q1 n1 d1) (.slice q2 n2 d2) (.slice q3 n3 d3) (.slice q4 n4 d4) (leafB l) (leafB m) (branchB ks kids) l m ks kids) := Bk.below HK1.out hmB.below; have HX2 : Hid (SlP w7 vx l) := SlV.below HX1.out hmB.below; replace hm := hm.call hmB.below; clear hown hmB)
    | (go_at_call 16; clear tkR2; refine (readLeaf_any (leafB l ++ [mo]) _ (HB1.out.append HBM.out) _ HOW3.out).mono ?_; rintro e w8 ⟨vy, he, hs, hb⟩; rw [HR2.out ()] at he; subst he; have HX3 : Hid (SlP w8 vx l) := SlV.below HX2.out hb; have HK3 : Hid (Bk w8 (.slice p1 N1 c1) v2 (.slice p3 N3 c3) (.slice q1 n1 d1) (.slice q2 n2 d2) (.slice q3 n3 d3) (.slice q4 n4 d4) (leafB l) (leafB m) (branchB ks kids) l m ks kids) := Bk.below HK2.out hb; replace hm := hm.call hb; clear hb hs)
    | ((with_reducible refine at_op (some 88) (.slice 26 (.tmp 84) none (some (.tmp 87)) none) ?_); go_must (refine wpl_execG (.slice (cutHi p1 c1) (N1 - 1) c1) rfl (exec_sHi un_bs sz_u8 (N1 - 1) (by have h9 := (HK3.out.a.src0).2.1; omega) rfl rfl (by first | rfl | omega)) ?_))
    | (go_at_call 16; clear tkR3; refine (readLeaf_any ((leafB l).take ((leafB l).length - 1)) _ (HB1.out.take _) _ (by have h9 := old_hi HK3.out.a (N1 - 1) (by omega); rw [HNL.out]; exact h9)).mono ?_; rintro e w9 ⟨vz, he, hs, hb⟩; rw [HR3.out ()] at he; subst he; have HX4 : Hid (SlP w9 vx l) := SlV.below HX3.out hb; have HK4 : Hid (Bk w9 (.slice p1 N1 c1) v2 (.slice p3 N3 c3) (.slice q1 n1 d1) (.slice q2 n2 d2) (.slice q3 n3 d3) (.slice q4 n4 d4) (leafB l) (leafB m) (branchB ks kids) l m ks kids) := Bk.below HK3.out hb; replace hm := hm.call hb; clear hb hs)
    | (go_at_call 18; clear tkB1; refine (readBranch_any (leafB l) _ HB1.out _ HK4.out.a).mono ?_; rintro e w10 ⟨va, ua, he, hs, hs2, hb⟩; rw [HR4.out ()] at he; subst he; have HX5 : Hid (SlP w10 vx l) := SlV.below HX4.out hb; have HK5 : Hid (Bk w10 (.slice p1 N1 c1) v2 (.slice p3 N3 c3) (.slice q1 n1 d1) (.slice q2 n2 d2) (.slice q3 n3 d3) (.slice q4 n4 d4) (leafB l) (leafB m) (branchB ks kids) l m ks kids) := Bk.below HK4.out hb; replace hm := hm.call hb; clear hb hs hs2)
    | (go_at_call 20; clear tkP1; refine (pairs_any l l _ _ HN1.out _ HX5.out HK5.out.l).mono ?_; rintro e w11 ⟨hans, hb⟩; have he := hans.is_true rfl; subst he; have HK6 : Hid (Bk w11 (.slice p1 N1 c1) v2 (.slice p3 N3 c3) (.slice q1 n1 d1) (.slice q2 n2 d2) (.slice q3 n3 d3) (.slice q4 n4 d4) (leafB l) (leafB m) (branchB ks kids) l m ks kids) := Bk.below HK5.out hb; replace hm := hm.call hb; clear hb hans)
    | (go_at_call 14; refine (size_any l n1 _ HNN.out (by omega) HZ1.out _ HK6.out.l).mono ?_; rintro e w12 ⟨he, hb⟩; rw [HSM.out] at he; subst he; have HK7 : Hid (Bk w12 (.slice p1 N1 c1) v2 (.slice p3 N3 c3) (.slice q1 n1 d1) (.slice q2 n2 d2) (.slice q3 n3 d3) (.slice q4 n4 d4) (leafB l) (leafB m) (branchB ks kids) l m ks kids) := Bk.below HK6.out hb; replace hm := hm.call hb; clear hb)
    | (go_at_call 18; refine (readBranch_any (branchB ks kids) _ HB3.out _ HK7.out.c).mono ?_; rintro e w13 ⟨va, ua, he, hs, hs2, hb⟩; rw [HG1.out ()] at he; rw [HG2.out ()] at hs; rw [HG3.out ()] at hs2; subst he; have HY1 : Hid (SlS w13 va ks) := hs; have HY2 : Hid (SlU w13 ua kids) := hs2; have HK8 : Hid (Bk w13 (.slice p1 N1 c1) v2 (.slice p3 N3 c3) (.slice q1 n1 d1) (.slice q2 n2 d2) (.slice q3 n3 d3) (.slice q4 n4 d4) (leafB l) (leafB m) (branchB ks kids) l m ks kids) := Bk.below HK7.out hb; replace hm := hm.call hb; clear hb hs hs2)
    | (go_at_call 16; refine (readLeaf_any (branchB ks kids) _ HB3.out _ HK8.out.c).mono ?_; rintro e w14 ⟨vb, he, hs, hb⟩; rw [HG4.out ()] at he; subst he; have HY3 : Hid (SlS w14 va ks) := SlV.below HY1.out hb; have HY4 : Hid (SlU w14 ua kids) := SlV.below HY2.out hb; have HK9 : Hid (Bk w14 (.slice p1 N1 c1) v2 (.slice p3 N3 c3) (.slice q1 n1 d1) (.slice q2 n2 d2) (.slice q3 n3 d3) (.slice q4 n4 d4) (leafB l) (leafB m) (branchB ks kids) l m ks kids) := Bk.below HK8.out hb; replace hm := hm.call hb; clear hb hs)
    | (go_at_call 21; refine (same_any ks ks kids kids _ _ _ _ HN3.out HN4.out _ HY3.out HY4.out HK9.out.k HK9.out.i).mono ?_; rintro e w15 ⟨hans, hb⟩; have he := hans.is_true ⟨rfl, rfl⟩; subst he; have HK10 : Hid (Bk w15 (.slice p1 N1 c1) v2 (.slice p3 N3 c3) (.slice q1 n1 d1) (.slice q2 n2 d2) (.slice q3 n3 d3) (.slice q4 n4 d4) (leafB l) (leafB m) (branchB ks kids) l m ks kids) := Bk.below HK9.out hb; replace hm := hm.call hb; clear hb hans))
  obtain ⟨p2, c2, hv2, _⟩ := SlOld.len HK10.out.b
  have hsb := HK10.out.b
  subst hv2
  obtain ⟨N2, hN2e⟩ : ∃ N, N = (leafB m).length := ⟨_, rfl⟩
  rw [← hN2e] at hsb ⊢
  have HK10b : Hid (SlOld w15 (.slice p2 N2 c2) (leafB m)) := hsb
  clear hN2e hsb
  have HBW : Hid (Below w.heap.size w w15) := hm.below
  clear hm
  have hm := Mem.start w15
  refine wp_ends0 ?_
  refine anyH_start (T := fun W => Mem w15 [] W []) (by kernel_rfl) hm ?_
  clear hm
  intro wz hm
  refine anyH_take 0 (v := .int .i64 0) rfl (by kernel_rfl) (by kernel_rfl) (by kernel_rfl) rfl (fun W _ => by go_simp) hm ?_
  go_simp
  refine anyH_take 1 (v := .bool false) rfl (by kernel_rfl) (by kernel_rfl) (by kernel_rfl) rfl (fun W _ => by go_simp) hm ?_
  go_simp
  refine anyH_take 2 (v := .bool false) rfl (by kernel_rfl) (by kernel_rfl) (by kernel_rfl) rfl (fun W _ => by go_simp) hm ?_
  go_simp
  refine anyH_takeG 3 (v := .int .i64 0) rfl (by kernel_rfl) (by kernel_rfl) (by kernel_rfl) rfl (fun W _ => by go_simp) hm ?_
  go_simp
  refine anyH_takeG 4 (v := .bool false) rfl (by kernel_rfl) (by kernel_rfl) (by kernel_rfl) rfl (fun W _ => by go_simp) hm ?_
  go_simp
  refine anyH_take 5 (v := .bool false) rfl (by kernel_rfl) (by kernel_rfl) (by kernel_rfl) rfl (fun W _ => by go_simp) hm ?_
  go_simp
  refine anyH_take 6 (v := .bool false) rfl (by kernel_rfl) (by kernel_rfl) (by kernel_rfl) rfl (fun W _ => by go_simp) hm ?_
  go_simp
  refine anyH_takeG 7 (v := .slice p1 N1 c1) rfl (by kernel_rfl) (by kernel_rfl) (by kernel_rfl) rfl (fun W _ => by go_simp) hm ?_
  go_simp
  refine anyH_takeG 8 (v := .string (strOf (leafB l))) rfl (by kernel_rfl) (by kernel_rfl) (by kernel_rfl) rfl (fun W hW => exec_tostr un_bs un_u8 un_strT (leafB l) rfl (SlOld.below HK10.out.a (Mem.below hW))) hm ?_
  go_simp
  refine anyH_takeG 9 (v := .slice p2 N2 c2) rfl (by kernel_rfl) (by kernel_rfl) (by kernel_rfl) rfl (fun W _ => by go_simp) hm ?_
  go_simp
  refine anyH_takeG 10 (v := .string (strOf (leafB m))) rfl (by kernel_rfl) (by kernel_rfl) (by kernel_rfl) rfl (fun W hW => exec_tostr un_bs un_u8 un_strT (leafB m) rfl (SlOld.below HK10b.out (Mem.below hW))) hm ?_
  go_simp
  refine anyH_takeG 11 (v := .bool false) rfl (by kernel_rfl) (by kernel_rfl) (by kernel_rfl) rfl (fun W _ => exec_eqsB _ _ false rfl rfl HST.out) hm ?_
  go_simp
  refine anyH_takeG 12 (v := .slice q1 n1 d1) rfl (by kernel_rfl) (by kernel_rfl) (by kernel_rfl) rfl (fun W _ => by go_simp) hm ?_
  go_simp
  refine anyH_takeG 13 (v := .slice q2 n2 d2) rfl (by kernel_rfl) (by kernel_rfl) (by kernel_rfl) rfl (fun W _ => by go_simp) hm ?_
  go_simp
  refine wpAnyH_all (rs := [14]) (by kernel_rfl) (by simp) ?_
  intro i hi
  simp only [List.mem_cons, List.not_mem_nil, or_false] at hi
  subst hi
  refine anyH_opW 14 rfl rfl ?_
  intro K hK
  go_wp2_with (go_at_call 20; refine (pairs_any l m _ _ HN1.out _ (SlV.below HK10.out.l (Mem.below hm)) (SlV.below HK10.out.m (Mem.below hm))).mono ?_; rintro e wf ⟨hans, hb⟩; have he := hans.is_false (HLM.out ()); subst he; replace hm := hm.call hb; clear hb hans)
  refine hK _ _ hm ?_
  clear hK K
  refine anyH_takeG 15 (v := .bool true) rfl (by kernel_rfl) (by kernel_rfl) (by kernel_rfl) rfl (fun W _ => by go_simp) hm ?_
  go_simp
  refine anyH_take 16 (v := .bool true) rfl (by kernel_rfl) (by kernel_rfl) (by kernel_rfl) rfl (fun W _ => by go_simp) hm ?_
  go_simp
  refine anyH_take 17 (v := .bool true) rfl (by kernel_rfl) (by kernel_rfl) (by kernel_rfl) rfl (fun W _ => by go_simp) hm ?_
  go_simp
  refine wpAnyH_done (by kernel_rfl) ?_ _
  simp only [endsIn]
  go_wp2_with fail
  go_ret
  exact ⟨rfl, below_next HBW.out HBW.out.size hm.below⟩
end Go.Proofs.Ytcfmpidibbbehaa
