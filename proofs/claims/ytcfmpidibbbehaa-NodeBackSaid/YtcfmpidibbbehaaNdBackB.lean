/- The walk of the law NodeBack: a part. -/
import Derived.Test.YtcfmpidibbbehaaNdBackA
namespace Go.Proofs.Ytcfmpidibbbehaa
open Go Go.RowKit
set_option maxHeartbeats 3000000 in
set_option maxRecDepth 100000 in
theorem back_nn (l m : List (ByteArray × ByteArray)) (ks : List ByteArray) (kids : List Int) (mo : Int) (q1 q2 q3 q4 : Option Addr) (n1 n2 n3 n4 d1 d2 d3 d4 : Nat) (hl : l.length = n1) (hm2 : m.length = n2) (hk : ks.length = n3) (hi : kids.length = n4) (h1 : n1 ≤ 40) (h2 : n2 ≤ 40) (h3 : n3 ≤ 40) (h4 : n4 ≤ 41) (hmo : 0 ≤ mo ∧ mo < 256) (sz1 : ∀ p ∈ l, p.1.size ≤ 1152921504606846976 ∧ p.2.size ≤ 1152921504606846976) (sz2 : ∀ p ∈ m, p.1.size ≤ 1152921504606846976 ∧ p.2.size ≤ 1152921504606846976) (kb : ∀ x ∈ kids, 0 ≤ x ∧ x < 4294967296) (hE : ¬ leafCode l = 0) (hG : ¬ branchCode ks kids.length = 0) (w : World) (vl : SlP w (.slice q1 n1 d1) l) (vm : SlP w (.slice q2 n2 d2) m) (vk : SlS w (.slice q3 n3 d3) ks) (vi : SlU w (.slice q4 n4 d4) kids) :
    Calls Try.prog 5 #[.slice q1 n1 d1, .slice q2 n2 d2, .slice q3 n3 d3, .slice q4 n4 d4, .int .u8 mo] w fun e w' => e = .returned (.bool true) ∧ Below w.heap.size w w' := by
  have hm := Mem.start w
  have i1 : ¬ (n1 : Int) > 40 := by omega
  have i2 : ¬ (n2 : Int) > 40 := by omega
  have i3 : ¬ (n3 : Int) > 40 := by omega
  have i4 : ¬ (n4 : Int) > 41 := by omega
  have HN1 : Hid (l.length ≤ 1000) := by show _ ≤ _; omega
  have HNN : Hid (l.length = n1) := hl
  have HN2 : Hid (m.length ≤ 1000) := by show _ ≤ _; omega
  have HN3 : Hid (ks.length ≤ 1000) := by show _ ≤ _; omega
  have HN4 : Hid (kids.length ≤ 1000) := by show _ ≤ _; omega
  have HZ1 : Hid (∀ p ∈ l, p.1.size ≤ 1152921504606846976 ∧ p.2.size ≤ 1152921504606846976) := sz1
  have HZ2 : Hid (∀ p ∈ m, p.1.size ≤ 1152921504606846976 ∧ p.2.size ≤ 1152921504606846976) := sz2
  have HKB : Hid (∀ x ∈ kids, 0 ≤ x ∧ x < 4294967296) := kb
  have HVL : Hid (SlP w (.slice q1 n1 d1) l) := vl
  have HVM : Hid (SlP w (.slice q2 n2 d2) m) := vm
  have HVK : Hid (SlS w (.slice q3 n3 d3) ks) := vk
  have HVI : Hid (SlU w (.slice q4 n4 d4) kids) := vi
  have HB1 : Hid (Bytes (leafB l)) := leafB_bytes l
  have HB2 : Hid (Bytes (leafB m)) := leafB_bytes m
  have HB3 : Hid (Bytes (branchB ks kids)) := branchB_bytes ks kids
  have HBM : Hid (Bytes [mo]) := by intro x hx; simp at hx; rw [hx]; exact hmo
  obtain ⟨ec, hec⟩ : ∃ x, x = leafCode l := ⟨_, rfl⟩
  have HLC1 : Hid (∀ _ : Unit, leafCode l = ec) := fun _ => hec.symm
  have be1 : (ec == 0) = false := by rw [hec]; simpa using hE
  have be2 : (ec != 0) = true := by rw [hec]; simpa using hE
  clear hec
  obtain ⟨fc, hfc⟩ : ∃ x, x = leafCode m := ⟨_, rfl⟩
  have HLC2 : Hid (∀ _ : Unit, leafCode m = fc) := fun _ => hfc.symm
  clear hfc
  obtain ⟨gc, hgc⟩ : ∃ x, x = branchCode ks kids.length := ⟨_, rfl⟩
  have HLC3 : Hid (∀ _ : Unit, branchCode ks kids.length = gc) := fun _ => hgc.symm
  have bg1 : (gc == 0) = false := by rw [hgc]; simpa using hG
  clear hgc
  have tkL1 : Nat := 0
  clear hl hm2 hk hi hmo sz1 sz2 kb vl vm vk vi hE hG
  go_enter Try.func5, Try.ntmps5
  go_wp2_with (first
    | (go_at_call 9; refine (known_any _).mono ?_; rintro e wk ⟨rfl, hb⟩; replace hm := hm.call hb; clear hb)
    | (go_at_call 10; clear tkL1; refine (leaf_any l _ HN1.out HZ1.out _ (SlV.below HVL.out hm.below)).mono ?_; rintro e w1 ⟨v1, he, hs, hb⟩; rw [HLC1.out ()] at he; subst he; have HA1 : Hid (SlOld w1 v1 (leafOut l)) := hs; replace hm := hm.call hb; clear hb hs)
    | (go_at_call 10; refine (leaf_any m _ HN2.out HZ2.out _ (SlV.below HVM.out hm.below)).mono ?_; rintro e w2 ⟨v2, he, hs, hb⟩; rw [HLC2.out ()] at he; subst he; have HA2 : Hid (SlOld w2 v1 (leafOut l)) := SlOld.below HA1.out hb; have HA3 : Hid (SlOld w2 v2 (leafOut m)) := hs; replace hm := hm.call hb; clear hb hs)
    | (go_at_call 12; refine (branch_any ks kids _ _ HN3.out HKB.out _ (SlV.below HVK.out hm.below) (SlV.below HVI.out hm.below)).mono ?_; rintro e w3 ⟨v3, he, hs, hb⟩; rw [HLC3.out ()] at he; subst he; replace hm := hm.call hb; have HK0 : Hid (Bk w3 v1 v2 v3 (.slice q1 n1 d1) (.slice q2 n2 d2) (.slice q3 n3 d3) (.slice q4 n4 d4) (leafOut l) (leafOut m) (branchOut ks kids) l m ks kids) := ⟨SlOld.below HA2.out hb, SlOld.below HA3.out hb, hs, SlV.below HVL.out hm.below, SlV.below HVM.out hm.below, SlV.below HVK.out hm.below, SlV.below HVI.out hm.below⟩; clear hb hs))
  have HBW : Hid (Below w.heap.size w w3) := hm.below
  clear hm
  have hm := Mem.start w3
  refine wp_ends0 ?_
  refine anyH_start (T := fun W => Mem w3 [] W []) (by kernel_rfl) hm ?_
  clear hm
  intro wz hm
  refine anyH_take 0 (v := .int .i64 ec) rfl (by kernel_rfl) (by kernel_rfl) (by kernel_rfl) rfl (fun W _ => by go_simp) hm ?_
  go_simp
  refine anyH_take 1 (v := .bool true) rfl (by kernel_rfl) (by kernel_rfl) (by kernel_rfl) rfl (fun W _ => by go_simp) hm ?_
  go_simp
  refine anyH_take 2 (v := .bool true) rfl (by kernel_rfl) (by kernel_rfl) (by kernel_rfl) rfl (fun W _ => by go_simp) hm ?_
  go_simp
  refine anyH_skip 3 rfl (by kernel_rfl) (by kernel_rfl) (by kernel_rfl) rfl hm ?_
  go_simp
  refine anyH_skip 4 rfl (by kernel_rfl) (by kernel_rfl) (by kernel_rfl) rfl hm ?_
  go_simp
  refine anyH_take 5 (v := .bool true) rfl (by kernel_rfl) (by kernel_rfl) (by kernel_rfl) rfl (fun W _ => by go_simp) hm ?_
  go_simp
  refine anyH_take 6 (v := .bool true) rfl (by kernel_rfl) (by kernel_rfl) (by kernel_rfl) rfl (fun W _ => by go_simp) hm ?_
  go_simp
  refine anyH_skip 7 rfl (by kernel_rfl) (by kernel_rfl) (by kernel_rfl) rfl hm ?_
  go_simp
  refine anyH_skip 8 rfl (by kernel_rfl) (by kernel_rfl) (by kernel_rfl) rfl hm ?_
  go_simp
  refine anyH_skip 9 rfl (by kernel_rfl) (by kernel_rfl) (by kernel_rfl) rfl hm ?_
  go_simp
  refine anyH_skip 10 rfl (by kernel_rfl) (by kernel_rfl) (by kernel_rfl) rfl hm ?_
  go_simp
  refine anyH_skip 11 rfl (by kernel_rfl) (by kernel_rfl) (by kernel_rfl) rfl hm ?_
  go_simp
  refine anyH_skip 12 rfl (by kernel_rfl) (by kernel_rfl) (by kernel_rfl) rfl hm ?_
  go_simp
  refine anyH_skip 13 rfl (by kernel_rfl) (by kernel_rfl) (by kernel_rfl) rfl hm ?_
  go_simp
  refine anyH_skip 14 rfl (by kernel_rfl) (by kernel_rfl) (by kernel_rfl) rfl hm ?_
  go_simp
  refine anyH_skip 15 rfl (by kernel_rfl) (by kernel_rfl) (by kernel_rfl) rfl hm ?_
  go_simp
  refine anyH_take 16 (v := .bool true) rfl (by kernel_rfl) (by kernel_rfl) (by kernel_rfl) rfl (fun W _ => by go_simp) hm ?_
  go_simp
  refine anyH_take 17 (v := .bool true) rfl (by kernel_rfl) (by kernel_rfl) (by kernel_rfl) rfl (fun W _ => by go_simp) hm ?_
  go_simp
  refine wpAnyH_done (by kernel_rfl) ?_ _
  simp only [endsIn]
  go_wp2_with fail
  go_ret
  exact ⟨rfl, below_next HBW.out HBW.out.size hm.below⟩
set_option maxHeartbeats 3000000 in
set_option maxRecDepth 100000 in
theorem back_ng (l m : List (ByteArray × ByteArray)) (ks : List ByteArray) (kids : List Int) (mo : Int) (q1 q2 q3 q4 : Option Addr) (n1 n2 n3 n4 d1 d2 d3 d4 : Nat) (hl : l.length = n1) (hm2 : m.length = n2) (hk : ks.length = n3) (hi : kids.length = n4) (h1 : n1 ≤ 40) (h2 : n2 ≤ 40) (h3 : n3 ≤ 40) (h4 : n4 ≤ 41) (hmo : 0 ≤ mo ∧ mo < 256) (sz1 : ∀ p ∈ l, p.1.size ≤ 1152921504606846976 ∧ p.2.size ≤ 1152921504606846976) (sz2 : ∀ p ∈ m, p.1.size ≤ 1152921504606846976 ∧ p.2.size ≤ 1152921504606846976) (kb : ∀ x ∈ kids, 0 ≤ x ∧ x < 4294967296) (hE : ¬ leafCode l = 0) (hG : branchCode ks kids.length = 0) (w : World) (vl : SlP w (.slice q1 n1 d1) l) (vm : SlP w (.slice q2 n2 d2) m) (vk : SlS w (.slice q3 n3 d3) ks) (vi : SlU w (.slice q4 n4 d4) kids) :
    Calls Try.prog 5 #[.slice q1 n1 d1, .slice q2 n2 d2, .slice q3 n3 d3, .slice q4 n4 d4, .int .u8 mo] w fun e w' => e = .returned (.bool true) ∧ Below w.heap.size w w' := by
  have hm := Mem.start w
  have i1 : ¬ (n1 : Int) > 40 := by omega
  have i2 : ¬ (n2 : Int) > 40 := by omega
  have i3 : ¬ (n3 : Int) > 40 := by omega
  have i4 : ¬ (n4 : Int) > 41 := by omega
  have HN1 : Hid (l.length ≤ 1000) := by show _ ≤ _; omega
  have HNN : Hid (l.length = n1) := hl
  have HN2 : Hid (m.length ≤ 1000) := by show _ ≤ _; omega
  have HN3 : Hid (ks.length ≤ 1000) := by show _ ≤ _; omega
  have HN4 : Hid (kids.length ≤ 1000) := by show _ ≤ _; omega
  have HZ1 : Hid (∀ p ∈ l, p.1.size ≤ 1152921504606846976 ∧ p.2.size ≤ 1152921504606846976) := sz1
  have HZ2 : Hid (∀ p ∈ m, p.1.size ≤ 1152921504606846976 ∧ p.2.size ≤ 1152921504606846976) := sz2
  have HKB : Hid (∀ x ∈ kids, 0 ≤ x ∧ x < 4294967296) := kb
  have HVL : Hid (SlP w (.slice q1 n1 d1) l) := vl
  have HVM : Hid (SlP w (.slice q2 n2 d2) m) := vm
  have HVK : Hid (SlS w (.slice q3 n3 d3) ks) := vk
  have HVI : Hid (SlU w (.slice q4 n4 d4) kids) := vi
  have HB1 : Hid (Bytes (leafB l)) := leafB_bytes l
  have HB2 : Hid (Bytes (leafB m)) := leafB_bytes m
  have HB3 : Hid (Bytes (branchB ks kids)) := branchB_bytes ks kids
  have HBM : Hid (Bytes [mo]) := by intro x hx; simp at hx; rw [hx]; exact hmo
  obtain ⟨ec, hec⟩ : ∃ x, x = leafCode l := ⟨_, rfl⟩
  have HLC1 : Hid (∀ _ : Unit, leafCode l = ec) := fun _ => hec.symm
  have be1 : (ec == 0) = false := by rw [hec]; simpa using hE
  have be2 : (ec != 0) = true := by rw [hec]; simpa using hE
  clear hec
  obtain ⟨fc, hfc⟩ : ∃ x, x = leafCode m := ⟨_, rfl⟩
  have HLC2 : Hid (∀ _ : Unit, leafCode m = fc) := fun _ => hfc.symm
  clear hfc
  obtain ⟨rb1, rb2, rb3⟩ := rb_back hG kb
  have HG1 : Hid (∀ _ : Unit, (if rbOk (branchB ks kids) = true then (0 : Int) else 90) = 0) := fun _ => by rw [rb1]; rfl
  have HG2 : Hid (∀ _ : Unit, rbOutK (branchB ks kids) = ks) := fun _ => rb2
  have HG3 : Hid (∀ _ : Unit, rbOutI (branchB ks kids) = kids) := fun _ => rb3
  have HG4 : Hid (∀ _ : Unit, (if rlOk (branchB ks kids) = true then (0 : Int) else 90) = 90) := fun _ => by rw [rl_branch]; rfl
  obtain ⟨_, hszg⟩ := branchCode_ok hG
  obtain ⟨N3, hN3e⟩ : ∃ N, N = szB ks kids.length := ⟨_, rfl⟩
  have HNG : Hid ((branchB ks kids).length = N3) := by show _ = _; rw [branchB_length, hN3e]
  have hN3i : ¬ (N3 : Int) > 480 := by omega
  have HLC3 : Hid (∀ _ : Unit, branchCode ks kids.length = 0) := fun _ => hG
  have HLO3 : Hid (∀ _ : Unit, branchOut ks kids = branchB ks kids) := fun _ => by rw [branchOut, if_pos hG]
  clear rb1 rb2 rb3 hszg hN3e
  have tkL1 : Nat := 0
  clear hl hm2 hk hi hmo sz1 sz2 kb vl vm vk vi hE hG
  go_enter Try.func5, Try.ntmps5
  go_wp2_with (first
    | (go_at_call 9; refine (known_any _).mono ?_; rintro e wk ⟨rfl, hb⟩; replace hm := hm.call hb; clear hb)
    | (go_at_call 10; clear tkL1; refine (leaf_any l _ HN1.out HZ1.out _ (SlV.below HVL.out hm.below)).mono ?_; rintro e w1 ⟨v1, he, hs, hb⟩; rw [HLC1.out ()] at he; subst he; have HA1 : Hid (SlOld w1 v1 (leafOut l)) := hs; replace hm := hm.call hb; clear hb hs)
    | (go_at_call 10; refine (leaf_any m _ HN2.out HZ2.out _ (SlV.below HVM.out hm.below)).mono ?_; rintro e w2 ⟨v2, he, hs, hb⟩; rw [HLC2.out ()] at he; subst he; have HA2 : Hid (SlOld w2 v1 (leafOut l)) := SlOld.below HA1.out hb; have HA3 : Hid (SlOld w2 v2 (leafOut m)) := hs; replace hm := hm.call hb; clear hb hs)
    | (go_at_call 12; refine (branch_any ks kids _ _ HN3.out HKB.out _ (SlV.below HVK.out hm.below) (SlV.below HVI.out hm.below)).mono ?_; rintro e w3 ⟨v3, he, hs, hb⟩; rw [HLC3.out ()] at he; rw [HLO3.out ()] at hs; obtain ⟨p3, c3, hv3, _⟩ : ∃ p c, v3 = .slice p N3 c ∧ N3 ≤ c := HNG.out ▸ SlOld.len hs; subst hv3; subst he; replace hm := hm.call hb; have HK0 : Hid (Bk w3 v1 v2 (.slice p3 N3 c3) (.slice q1 n1 d1) (.slice q2 n2 d2) (.slice q3 n3 d3) (.slice q4 n4 d4) (leafOut l) (leafOut m) (branchB ks kids) l m ks kids) := ⟨SlOld.below HA2.out hb, SlOld.below HA3.out hb, hs, SlV.below HVL.out hm.below, SlV.below HVM.out hm.below, SlV.below HVK.out hm.below, SlV.below HVI.out hm.below⟩; clear hb hs)
    | (go_at_call 18; refine (readBranch_any (branchB ks kids) _ HB3.out _ HK0.out.c).mono ?_; rintro e w13 ⟨va, ua, he, hs, hs2, hb⟩; rw [HG1.out ()] at he; rw [HG2.out ()] at hs; rw [HG3.out ()] at hs2; subst he; have HY1 : Hid (SlS w13 va ks) := hs; have HY2 : Hid (SlU w13 ua kids) := hs2; have HK8 : Hid (Bk w13 v1 v2 (.slice p3 N3 c3) (.slice q1 n1 d1) (.slice q2 n2 d2) (.slice q3 n3 d3) (.slice q4 n4 d4) (leafOut l) (leafOut m) (branchB ks kids) l m ks kids) := Bk.below HK0.out hb; replace hm := hm.call hb; clear hb hs hs2)
    | (go_at_call 16; refine (readLeaf_any (branchB ks kids) _ HB3.out _ HK8.out.c).mono ?_; rintro e w14 ⟨vb, he, hs, hb⟩; rw [HG4.out ()] at he; subst he; have HY3 : Hid (SlS w14 va ks) := SlV.below HY1.out hb; have HY4 : Hid (SlU w14 ua kids) := SlV.below HY2.out hb; have HK9 : Hid (Bk w14 v1 v2 (.slice p3 N3 c3) (.slice q1 n1 d1) (.slice q2 n2 d2) (.slice q3 n3 d3) (.slice q4 n4 d4) (leafOut l) (leafOut m) (branchB ks kids) l m ks kids) := Bk.below HK8.out hb; replace hm := hm.call hb; clear hb hs)
    | (go_at_call 21; refine (same_any ks ks kids kids _ _ _ _ HN3.out HN4.out _ HY3.out HY4.out HK9.out.k HK9.out.i).mono ?_; rintro e w15 ⟨hans, hb⟩; have he := hans.is_true ⟨rfl, rfl⟩; subst he; have HK10 : Hid (Bk w15 v1 v2 (.slice p3 N3 c3) (.slice q1 n1 d1) (.slice q2 n2 d2) (.slice q3 n3 d3) (.slice q4 n4 d4) (leafOut l) (leafOut m) (branchB ks kids) l m ks kids) := Bk.below HK9.out hb; replace hm := hm.call hb; clear hb hans))
  have HBW : Hid (Below w.heap.size w w15) := hm.below
  clear hm
  have hm := Mem.start w15
  refine wp_ends0 ?_
  refine anyH_start (T := fun W => Mem w15 [] W []) (by kernel_rfl) hm ?_
  clear hm
  intro wz hm
  refine anyH_take 0 (v := .int .i64 ec) rfl (by kernel_rfl) (by kernel_rfl) (by kernel_rfl) rfl (fun W _ => by go_simp) hm ?_
  go_simp
  refine anyH_take 1 (v := .bool true) rfl (by kernel_rfl) (by kernel_rfl) (by kernel_rfl) rfl (fun W _ => by go_simp) hm ?_
  go_simp
  refine anyH_take 2 (v := .bool true) rfl (by kernel_rfl) (by kernel_rfl) (by kernel_rfl) rfl (fun W _ => by go_simp) hm ?_
  go_simp
  refine anyH_skip 3 rfl (by kernel_rfl) (by kernel_rfl) (by kernel_rfl) rfl hm ?_
  go_simp
  refine anyH_skip 4 rfl (by kernel_rfl) (by kernel_rfl) (by kernel_rfl) rfl hm ?_
  go_simp
  refine anyH_take 5 (v := .bool true) rfl (by kernel_rfl) (by kernel_rfl) (by kernel_rfl) rfl (fun W _ => by go_simp) hm ?_
  go_simp
  refine anyH_take 6 (v := .bool true) rfl (by kernel_rfl) (by kernel_rfl) (by kernel_rfl) rfl (fun W _ => by go_simp) hm ?_
  go_simp
  refine anyH_skip 7 rfl (by kernel_rfl) (by kernel_rfl) (by kernel_rfl) rfl hm ?_
  go_simp
  refine anyH_skip 8 rfl (by kernel_rfl) (by kernel_rfl) (by kernel_rfl) rfl hm ?_
  go_simp
  refine anyH_skip 9 rfl (by kernel_rfl) (by kernel_rfl) (by kernel_rfl) rfl hm ?_
  go_simp
  refine anyH_skip 10 rfl (by kernel_rfl) (by kernel_rfl) (by kernel_rfl) rfl hm ?_
  go_simp
  refine anyH_skip 11 rfl (by kernel_rfl) (by kernel_rfl) (by kernel_rfl) rfl hm ?_
  go_simp
  refine anyH_skip 12 rfl (by kernel_rfl) (by kernel_rfl) (by kernel_rfl) rfl hm ?_
  go_simp
  refine anyH_skip 13 rfl (by kernel_rfl) (by kernel_rfl) (by kernel_rfl) rfl hm ?_
  go_simp
  refine anyH_skip 14 rfl (by kernel_rfl) (by kernel_rfl) (by kernel_rfl) rfl hm ?_
  go_simp
  refine anyH_skip 15 rfl (by kernel_rfl) (by kernel_rfl) (by kernel_rfl) rfl hm ?_
  go_simp
  refine anyH_take 16 (v := .bool true) rfl (by kernel_rfl) (by kernel_rfl) (by kernel_rfl) rfl (fun W _ => by go_simp) hm ?_
  go_simp
  refine anyH_take 17 (v := .bool true) rfl (by kernel_rfl) (by kernel_rfl) (by kernel_rfl) rfl (fun W _ => by go_simp) hm ?_
  go_simp
  refine wpAnyH_done (by kernel_rfl) ?_ _
  simp only [endsIn]
  go_wp2_with fail
  go_ret
  exact ⟨rfl, below_next HBW.out HBW.out.size hm.below⟩
end Go.Proofs.Ytcfmpidibbbehaa
