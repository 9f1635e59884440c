/- The walk of the law PathParents. -/
import Derived.Test.YtikmmheknfljkaaDoorPaKnown
import Derived.Test.YtikmmheknfljkaaDoorPaBsl
namespace Go.Proofs.YtikmmheknfljkaaDoor
open Go Go.RowKit
set_option maxRecDepth 100000 in
theorem plOf_segs (a : ByteArray) : plOf (segsB a) = segsB a := by rw [plOf, (segsB_ok a).to]; rfl
set_option maxRecDepth 100000 in
theorem join_back {a : ByteArray} (h : isP (bs a) = true) : mkS (jn 47 ((plOf (segsB a)).map bs)) = a := by
  rw [plOf_segs, segsB_bs, jn_segsOf h, mkS_bs]
set_option maxRecDepth 100000 in
theorem und_root {a : List UInt8} (h : isP a = true) : undOf a [] = true := by
  rw [undOf, h, show isP [] = true from rfl, show segsOf [] = [] from rfl]; simp
set_option maxRecDepth 100000 in
theorem und_self {a : List UInt8} (h : isP a = true) : undOf a a = true := by
  rw [undOf, h, Bool.true_and, Bool.true_and, List.isPrefixOf_iff_prefix]; exact List.prefix_refl _
set_option maxRecDepth 100000 in
theorem par_is {a : List UInt8} (h : parOk a = true) : isP a = true ∧ isP (parOf a) = true ∧ segsOf (parOf a) = (segsOf a).dropLast ∧ segsOf a ≠ [] := by
  have hi : isP a = true := by unfold parOk at h; simp at h; exact h.1
  have h0 : a ≠ [] := by rintro rfl; simp [parOk] at h
  have hs := segsOf_ne hi h0
  have hok : okSegs (segsOf a).dropLast = true := okSegs_sub (segsOf_ok a) (by simp) (fun k hk => List.dropLast_subset _ hk)
  have := isP_jn hok
  rw [show parOf a = jn 47 (segsOf a).dropLast by simp [parOf, h]]
  exact ⟨hi, this.1, this.2, hs⟩
set_option maxRecDepth 100000 in
theorem und_up {a : List UInt8} (h : parOk a = true) : undOf a (parOf a) = true ∧ undOf (parOf a) a = false := by
  obtain ⟨h1, h2, h3, h4⟩ := par_is h
  constructor
  · rw [undOf, h1, h2, h3, Bool.true_and, Bool.true_and, List.isPrefixOf_iff_prefix]
    exact List.dropLast_prefix _
  · rw [undOf, h1, h2, h3, Bool.true_and, Bool.true_and]
    cases hp : (segsOf a).isPrefixOf (segsOf a).dropLast with
    | false => rfl
    | true =>
      have := (List.isPrefixOf_iff_prefix.1 hp).length_le
      have h5 := List.length_pos_iff.2 h4
      rw [List.length_dropLast] at this
      omega
set_option maxRecDepth 100000 in
theorem par_len {a : List UInt8} : (parOf a).length ≤ 40 := by
  unfold parOf
  split
  · have hok := okSegs_parts (segsOf_ok a)
    have := jn_len 47 (ks := (segsOf a).dropLast) (fun k hk => (seg_parts (hok.2 k (List.dropLast_subset _ hk))).2.1)
    have h2 := hok.1
    rw [List.length_dropLast] at this
    omega
  · simp
set_option maxRecDepth 100000 in
theorem strs_snoc {ks : List ByteArray} {m : Nat} (h : ks.length = m + 1) : strs ks.dropLast ++ [.string (ks.getD m noStr)] = strs ks := by
  have e : ks = ks.dropLast ++ [ks.getD m noStr] := by
    have h0 : ks ≠ [] := by rintro rfl; simp at h
    conv => lhs; rw [← List.dropLast_concat_getLast h0]
    congr 2
    rw [List.getLast_eq_getElem]
    simp [h]
  conv => rhs; rw [e]
  simp [strs]
set_option maxHeartbeats 2000000 in
set_option maxRecDepth 100000 in
theorem pparents_long (a : ByteArray) (w : World) (h : 60 < a.size) (hM : MaxL w) :
    Calls Tryd.prog 5 #[.string a] w fun e w' => e = .returned (.bool true) ∧ Below w.heap.size w w' := by
  have hm := Mem.start w
  have HM : Hid (MaxL w) := hM
  have h1 : (60 : Int) < (a.size : Int) := by omega
  clear hM
  go_enter Tryd.func5, Tryd.ntmps5
  go_wp2_with (first
    | (go_at_call 8; refine (known_any _ (HM.out.below hm.below)).mono ?_; rintro e w3 ⟨he, hb⟩; subst he; replace hm := hm.call hb; clear hb))
  go_ret
  exact ⟨rfl, hm.below⟩
set_option maxHeartbeats 2000000 in
set_option maxRecDepth 100000 in
theorem pparents_no (a : ByteArray) (w : World) (h : a.size ≤ 60) (hi : isP (bs a) = false) (hM : MaxL w) :
    Calls Tryd.prog 5 #[.string a] w fun e w' => e = .returned (.bool true) ∧ Below w.heap.size w w' := by
  have hm := Mem.start w
  have HM : Hid (MaxL w) := hM
  have h1 : ¬ (60 : Int) < (a.size : Int) := by omega
  have HI1 : Hid (∀ W, MaxL W → Calls Tryd.prog 15 #[.string a] W fun e w' => e = .returned (.bool false) ∧ Below W.heap.size W w') := fun W hW => by
    have h := is_any a W (by omega) hW
    rw [show isP (bs a) = false by exact hi] at h
    exact h
  have tkI1 : Nat := 0
  clear hM hi h
  go_enter Tryd.func5, Tryd.ntmps5
  go_wp2_with (first
    | (go_at_call 8; refine (known_any _ (HM.out.below hm.below)).mono ?_; rintro e w3 ⟨he, hb⟩; subst he; replace hm := hm.call hb; clear hb)
    | (go_at_call 15; clear tkI1; refine (HI1.out _ (HM.out.below hm.below)).mono ?_; rintro e w' ⟨he, hb⟩; subst he; replace hm := hm.call hb; clear hb))
  go_ret
  exact ⟨rfl, hm.below⟩
set_option maxHeartbeats 4000000 in
set_option maxRecDepth 100000 in
theorem pparents_root (a : ByteArray) (w : World) (h : a.size ≤ 60) (hi : isP (bs a) = true) (hp : parOk (bs a) = false) (hM : MaxL w) :
    Calls Tryd.prog 5 #[.string a] w fun e w' => e = .returned (.bool true) ∧ Below w.heap.size w w' := by
  have hm := Mem.start w
  have HM : Hid (MaxL w) := hM
  have h1 : ¬ (60 : Int) < (a.size : Int) := by omega
  obtain ⟨ks, hks⟩ : ∃ ks, ks = segsB a := ⟨_, rfl⟩
  obtain ⟨n, hn⟩ : ∃ n, n = ks.length := ⟨_, rfl⟩
  have HN : Hid (∀ _ : Unit, ks.length = n) := fun _ => hn.symm
  have hn3 : n ≤ 3 := by rw [hn, hks]; exact (segsB_ok a).len
  have HI1 : Hid (∀ W, MaxL W → Calls Tryd.prog 15 #[.string a] W fun e w' => e = .returned (.bool true) ∧ Below W.heap.size W w') := fun W hW => by
    have h := is_any a W (by omega) hW
    rw [show isP (bs a) = true by exact hi] at h
    exact h
  have HSP : Hid (∀ W, MaxL W → Calls Tryd.prog 18 #[.string a] W fun e w' => ∃ v, e = .returned v ∧ SlS w' v ks ∧ Below W.heap.size W w') := fun W hW => by
    refine (split_any a W (by omega) hW).mono ?_
    rintro e w' ⟨v, he, ho, hb⟩
    rw [hks]
    exact ⟨v, he, own_sl ho, hb⟩
  have HJ : Hid (∀ v W, SlS W v ks → Calls Tryd.prog 20 #[v] W fun e w' => e = .returned (.string a) ∧ Below W.heap.size W w') := fun v W hv => by
    have h := joinP_any ks v W hv
    rw [hks, join_back hi] at h
    exact h
  have HE1 : Hid (∀ W, MaxL W → Calls Tryd.prog 24 #[.string a] W fun e w' => e = .returned (.int .i64 (n : Int)) ∧ Below W.heap.size W w') := fun W hW => by
    have h := depthP_any a W (by omega) hW
    rw [show ((segsB a).length : Int) = (n : Int) by rw [hn, hks]] at h
    exact h
  have HU1 : Hid (∀ W, MaxL W → Calls Tryd.prog 22 #[.string a, .string ⟨#[]⟩] W fun e w' => e = .returned (.bool true) ∧ Below W.heap.size W w') := fun W hW => by
    have h := under_any a ⟨#[]⟩ W (by omega) (by decide) hW
    rw [show undOf (bs a) (bs ⟨#[]⟩) = true by exact und_root hi] at h
    exact h
  have HU2 : Hid (∀ W, MaxL W → Calls Tryd.prog 22 #[.string a, .string a] W fun e w' => e = .returned (.bool true) ∧ Below W.heap.size W w') := fun W hW => by
    have h := under_any a a W (by omega) (by omega) hW
    rw [show undOf (bs a) (bs a) = true by exact und_self hi] at h
    exact h
  have HP1 : Hid (∀ W, MaxL W → Calls Tryd.prog 9 #[.string a] W fun e w' => e = .returned (.tuple #[.string (mkS (parOf (bs a))), .bool false]) ∧ Below W.heap.size W w') := fun W hW => by
    have h := parentP_any a W (by omega) hW
    rw [show parOk (bs a) = false by exact hp] at h
    exact h
  have ha : a = ⟨#[]⟩ := by
    refine bs_inj ?_
    unfold parOk at hp
    rw [hi] at hp
    cases h9 : bs a with
    | nil => rfl
    | cons x l => rw [h9] at hp; simp at hp
  have HA : Hid (∀ _ : Unit, a = ⟨#[]⟩) := fun _ => ha
  obtain ⟨pp, hpp⟩ : ∃ pp, pp = mkS (parOf (bs a)) := ⟨_, rfl⟩
  rw [← hpp] at HP1
  clear hM hi h hp hks hn ha hpp
  have tkI1 : Nat := 0
  have tkJ1 : Nat := 0
  have tkE1 : Nat := 0
  have tkU1 : Nat := 0
  have tkU2 : Nat := 0
  have tkP1 : Nat := 0
  go_enter Tryd.func5, Tryd.ntmps5
  go_wp2_with (first
    | (go_at_call 8; refine (known_any _ (HM.out.below hm.below)).mono ?_; rintro e w3 ⟨he, hb⟩; subst he; replace hm := hm.call hb; clear hb)
    | (go_at_call 15; clear tkI1; refine (HI1.out _ (HM.out.below hm.below)).mono ?_; rintro e w' ⟨he, hb⟩; subst he; replace hm := hm.call hb; clear hb)
    | (go_at_call 18; refine (HSP.out _ (HM.out.below hm.below)).mono ?_; rintro e wl ⟨v, he, ho, hb⟩; subst he; obtain ⟨p0, cap, hv, hcap⟩ := SlV.len ho; subst hv; have HO : Hid (SlS wl (.slice p0 n cap) ks) := by { have h9 := ho; rw [HN.out ()] at h9; exact h9 }; rw [HN.out ()]; clear ho hcap; replace hm := hm.call hb; clear hb; have HWL : Hid (Below w.heap.size w wl) := hm.below; have HM2 : Hid (MaxL wl) := HM.out.below hm.below; clear HM; have HM := HM2; clear HM2 hm; have hm := Mem.start wl)
    | (go_at_call 20; clear tkJ1; refine (HJ.out _ _ (SlV.below HO.out hm.below)).mono ?_; rintro e w' ⟨he, hb⟩; subst he; replace hm := hm.call hb; clear hb)
    | (go_at_call 24; clear tkE1; refine (HE1.out _ (HM.out.below hm.below)).mono ?_; rintro e w' ⟨he, hb⟩; subst he; replace hm := hm.call hb; clear hb)
    | (go_at_call 22; clear tkU1; refine (HU1.out _ (HM.out.below hm.below)).mono ?_; rintro e w' ⟨he, hb⟩; subst he; replace hm := hm.call hb; clear hb)
    | (go_at_call 22; clear tkU2; refine (HU2.out _ (HM.out.below hm.below)).mono ?_; rintro e w' ⟨he, hb⟩; subst he; replace hm := hm.call hb; clear hb)
    | (go_at_call 9; clear tkP1; refine (HP1.out _ (HM.out.below hm.below)).mono ?_; rintro e w' ⟨he, hb⟩; subst he; replace hm := hm.call hb; clear hb)
    | ((with_reducible refine at_op (some 48) (.binOp .eql 9 (.tmp 47) (.const (.string { data := #[] })) 9) ?_); go_must (refine wpl_execG (.bool true) rfl (exec_eqsB a ⟨#[]⟩ true rfl rfl (by rw [HA.out ()]; exact eqs_yes _)) ?_)))
  go_ret
  exact ⟨rfl, below_next HWL.out HWL.out.size hm.below⟩
set_option maxRecDepth 100000 in
theorem mem_of_below {w w' : World} (h : Below w.heap.size w w') : Mem w [] w' [] := (Mem.start w).call h
set_option maxHeartbeats 6000000 in
set_option maxRecDepth 100000 in
theorem pparents_more (a : ByteArray) (w : World) (h : a.size ≤ 60) (hp : parOk (bs a) = true) (hM : MaxL w) :
    Calls Tryd.prog 5 #[.string a] w fun e w' => e = .returned (.bool true) ∧ Below w.heap.size w w' := by
  obtain ⟨hi, hip, hsp, hne⟩ := par_is hp
  have hm := Mem.start w
  have HM : Hid (MaxL w) := hM
  have h1 : ¬ (60 : Int) < (a.size : Int) := by omega
  obtain ⟨ks, hks⟩ : ∃ ks, ks = segsB a := ⟨_, rfl⟩
  obtain ⟨n, hn⟩ : ∃ n, n = ks.length := ⟨_, rfl⟩
  have HN : Hid (∀ _ : Unit, ks.length = n) := fun _ => hn.symm
  have hn3 : n ≤ 3 := by rw [hn, hks]; exact (segsB_ok a).len
  have HI1 : Hid (∀ W, MaxL W → Calls Tryd.prog 15 #[.string a] W fun e w' => e = .returned (.bool true) ∧ Below W.heap.size W w') := fun W hW => by
    have h := is_any a W (by omega) hW
    rw [show isP (bs a) = true by exact hi] at h
    exact h
  have HSP : Hid (∀ W, MaxL W → Calls Tryd.prog 18 #[.string a] W fun e w' => ∃ v, e = .returned v ∧ SlS w' v ks ∧ Below W.heap.size W w') := fun W hW => by
    refine (split_any a W (by omega) hW).mono ?_
    rintro e w' ⟨v, he, ho, hb⟩
    rw [hks]
    exact ⟨v, he, own_sl ho, hb⟩
  have HJ : Hid (∀ v W, SlS W v ks → Calls Tryd.prog 20 #[v] W fun e w' => e = .returned (.string a) ∧ Below W.heap.size W w') := fun v W hv => by
    have h := joinP_any ks v W hv
    rw [hks, join_back hi] at h
    exact h
  have HE1 : Hid (∀ W, MaxL W → Calls Tryd.prog 24 #[.string a] W fun e w' => e = .returned (.int .i64 (n : Int)) ∧ Below W.heap.size W w') := fun W hW => by
    have h := depthP_any a W (by omega) hW
    rw [show ((segsB a).length : Int) = (n : Int) by rw [hn, hks]] at h
    exact h
  have HU1 : Hid (∀ W, MaxL W → Calls Tryd.prog 22 #[.string a, .string ⟨#[]⟩] W fun e w' => e = .returned (.bool true) ∧ Below W.heap.size W w') := fun W hW => by
    have h := under_any a ⟨#[]⟩ W (by omega) (by decide) hW
    rw [show undOf (bs a) (bs ⟨#[]⟩) = true by exact und_root hi] at h
    exact h
  have HU2 : Hid (∀ W, MaxL W → Calls Tryd.prog 22 #[.string a, .string a] W fun e w' => e = .returned (.bool true) ∧ Below W.heap.size W w') := fun W hW => by
    have h := under_any a a W (by omega) (by omega) hW
    rw [show undOf (bs a) (bs a) = true by exact und_self hi] at h
    exact h
  obtain ⟨p, hpp⟩ : ∃ p, p = mkS (parOf (bs a)) := ⟨_, rfl⟩
  have hbp : bs p = parOf (bs a) := by rw [hpp, bs_mkS]
  have hpz : p.size ≤ 1000 := by rw [hpp, mkS_size]; have := par_len (a := bs a); omega
  obtain ⟨m, hm1⟩ : ∃ m, n = m + 1 := ⟨n - 1, by
    have h5 := List.length_pos_iff.2 hne
    have h6 : ks.length = (segsOf (bs a)).length := by rw [hks, segsB, List.length_map]
    omega⟩
  have hpd : segsB p = ks.dropLast := by rw [segsB, hbp, hsp, hks, segsB, List.map_dropLast]
  have hpn : (segsB p).length = m := by rw [hpd, List.length_dropLast, ← hn]; omega
  have HP1 : Hid (∀ W, MaxL W → Calls Tryd.prog 9 #[.string a] W fun e w' => e = .returned (.tuple #[.string p, .bool true]) ∧ Below W.heap.size W w') := fun W hW => by
    have h := parentP_any a W (by omega) hW
    rw [show Value.tuple #[.string (mkS (parOf (bs a))), .bool (parOk (bs a))] = Value.tuple #[.string p, .bool true] by rw [hpp, hp]] at h
    exact h
  have HI2 : Hid (∀ W, MaxL W → Calls Tryd.prog 15 #[.string p] W fun e w' => e = .returned (.bool true) ∧ Below W.heap.size W w') := fun W hW => by
    have h := is_any p W hpz hW
    rw [show isP (bs p) = true by rw [hbp]; exact hip] at h
    exact h
  have HE2 : Hid (∀ W, MaxL W → Calls Tryd.prog 24 #[.string p] W fun e w' => e = .returned (.int .i64 (m : Int)) ∧ Below W.heap.size W w') := fun W hW => by
    have h := depthP_any p W hpz hW
    rw [show ((segsB p).length : Int) = (m : Int) by rw [hpn]] at h
    exact h
  have HU3 : Hid (∀ W, MaxL W → Calls Tryd.prog 22 #[.string a, .string p] W fun e w' => e = .returned (.bool true) ∧ Below W.heap.size W w') := fun W hW => by
    have h := under_any a p W (by omega) hpz hW
    rw [show undOf (bs a) (bs p) = true by rw [hbp]; exact (und_up hp).1] at h
    exact h
  have HU4 : Hid (∀ W, MaxL W → Calls Tryd.prog 22 #[.string p, .string a] W fun e w' => e = .returned (.bool false) ∧ Below W.heap.size W w') := fun W hW => by
    have h := under_any p a W hpz (by omega) hW
    rw [show undOf (bs p) (bs a) = false by rw [hbp]; exact (und_up hp).2] at h
    exact h
  have HS2 : Hid (∀ W, MaxL W → Calls Tryd.prog 18 #[.string p] W fun e w' => ∃ v, e = .returned v ∧ w'.ownsRow W.heap.size 9 1 v m (strs ks.dropLast) ∧ Below W.heap.size W w') := fun W hW => by
    have h := split_any p W hpz hW
    rw [hpn, hpd] at h
    exact h
  obtain ⟨x, hx⟩ : ∃ x, x = ks.getD m noStr := ⟨_, rfl⟩
  have HX : Hid (∀ _ : Unit, x = ks.getD m noStr) := fun _ => hx
  have HSN : Hid (∀ _ : Unit, strs ks.dropLast ++ [.string x] = strs ks) := fun _ => by rw [hx]; exact strs_snoc (by rw [← hn, hm1])
  have hwr : IntKind.i64.wrap ((n : Int) - 1) = (m : Int) := (wrapi _ (by omega) (by omega)).trans (by omega)
  have HWR : Hid (∀ _ : Unit, IntKind.i64.wrap ((n : Int) - 1) = (m : Int)) := fun _ => hwr
  have hmn : (m : Int) < (n : Int) := by omega
  have hmn' : m < n := by omega
  have hm0 : (0 : Int) ≤ (m : Int) := by omega
  have hm3 : m ≤ 100000 := by omega
  have HNM : Hid (∀ _ : Unit, m + 1 = n) := fun _ => hm1.symm
  clear hM hi h hp hks hn hip hsp hne hpp hbp hpz hpd hpn hx hm1 hwr
  have tkI1 : Nat := 0
  have tkJ1 : Nat := 0
  have tkE1 : Nat := 0
  have tkU1 : Nat := 0
  have tkU2 : Nat := 0
  have tkP1 : Nat := 0
  have tkI2 : Nat := 0
  have tkE2 : Nat := 0
  have tkU3 : Nat := 0
  have tkU4 : Nat := 0
  go_enter Tryd.func5, Tryd.ntmps5
  go_wp2_with (first
    | (go_at_call 8; refine (known_any _ (HM.out.below hm.below)).mono ?_; rintro e w3 ⟨he, hb⟩; subst he; replace hm := hm.call hb; clear hb)
    | (go_at_call 15; clear tkI1; refine (HI1.out _ (HM.out.below hm.below)).mono ?_; rintro e w' ⟨he, hb⟩; subst he; replace hm := hm.call hb; clear hb)
    | (go_at_call 18; refine (HSP.out _ (HM.out.below hm.below)).mono ?_; rintro e wl ⟨v, he, ho, hb⟩; subst he; obtain ⟨p0, cap, hv, hcap⟩ := SlV.len ho; subst hv; have HO : Hid (SlS wl (.slice p0 n cap) ks) := by { have h9 := ho; rw [HN.out ()] at h9; exact h9 }; rw [HN.out ()]; clear ho hcap; replace hm := hm.call hb; clear hb; have HWL : Hid (Below w.heap.size w wl) := hm.below; have HM2 : Hid (MaxL wl) := HM.out.below hm.below; clear HM; have HM := HM2; clear HM2 hm; have hm := Mem.start wl)
    | (go_at_call 20; clear tkJ1; refine (HJ.out _ _ (SlV.below HO.out hm.below)).mono ?_; rintro e w' ⟨he, hb⟩; subst he; replace hm := hm.call hb; clear hb)
    | (go_at_call 24; clear tkE1; refine (HE1.out _ (HM.out.below hm.below)).mono ?_; rintro e w' ⟨he, hb⟩; subst he; replace hm := hm.call hb; clear hb)
    | (go_at_call 22; clear tkU1; refine (HU1.out _ (HM.out.below hm.below)).mono ?_; rintro e w' ⟨he, hb⟩; subst he; replace hm := hm.call hb; clear hb)
    | (go_at_call 22; clear tkU2; refine (HU2.out _ (HM.out.below hm.below)).mono ?_; rintro e w' ⟨he, hb⟩; subst he; replace hm := hm.call hb; clear hb)
    | (go_at_call 9; clear tkP1; refine (HP1.out _ (HM.out.below hm.below)).mono ?_; rintro e w' ⟨he, hb⟩; subst he; replace hm := hm.call hb; clear hb))
  obtain ⟨b, off, hp9⟩ := SlS.at HO.out (HN.out ()) (by omega)
  subst hp9
  have HC : Hid (∀ W, Below wl.heap.size wl W → W.cell? ⟨b, off + m, none⟩ = some (.string x)) := by
    intro W hW
    rw [HX.out ()]
    exact SlS.cells (HN.out ()) (SlV.below HO.out hW) m hmn'
  refine wp_ends0 ?_
  refine anyH_startB (T := fun W => Mem wl [] W []) (by kernel_rfl) hm ?_
  intro wc hbw hmw
  replace hm : Mem wl [] wc [] := hmw
  clear hbw hmw
  refine anyH_take 0 (v := .string p) rfl (by kernel_rfl) (by kernel_rfl) (by kernel_rfl) rfl (fun W _ => by go_simp) hm ?_
  go_simp
  refine wpAnyH_all (rs := [1]) (by kernel_rfl) (by simp) ?_
  intro i hi
  simp only [List.mem_cons, List.not_mem_nil, or_false] at hi
  subst hi
  refine anyH_opW 1 rfl rfl ?_
  intro K hK
  go_wp2_with (go_at_call 15; refine (HI2.out _ (HM.out.below hm.below)).mono ?_; rintro e w' ⟨he, hb⟩; subst he; replace hm := hm.call hb; clear hb)
  refine hK _ _ hm ?_
  clear hK K
  go_simp
  refine anyH_take 2 (v := .bool true) rfl (by kernel_rfl) (by kernel_rfl) (by kernel_rfl) rfl (fun W _ => by go_simp) hm ?_
  go_simp
  refine anyH_takeG 3 (v := .string p) rfl (by kernel_rfl) (by kernel_rfl) (by kernel_rfl) rfl (fun W _ => by go_simp) hm ?_
  go_simp
  refine anyH_takeG 5 (v := .slice (some ⟨b, off, none⟩) n cap) rfl (by kernel_rfl) (by kernel_rfl) (by kernel_rfl) rfl (fun W _ => by go_simp) hm ?_
  go_simp
  refine anyH_takeG 6 (v := .int .i64 (n : Int)) rfl (by kernel_rfl) (by kernel_rfl) (by kernel_rfl) rfl (fun W _ => by go_simp) hm ?_
  go_simp
  refine anyH_takeG 7 (v := .int .i64 (m : Int)) rfl (by kernel_rfl) (by kernel_rfl) (by kernel_rfl) rfl (fun W _ => by go_simp; exact HWR.out ()) hm ?_
  go_simp
  refine wpAnyH_all (rs := [4]) (by kernel_rfl) (by simp) ?_
  intro i hi
  simp only [List.mem_cons, List.not_mem_nil, or_false] at hi
  subst hi
  refine anyH_opW 4 rfl rfl ?_
  intro K hK
  go_wp2_with (go_at_call 24; refine (HE2.out _ (HM.out.below hm.below)).mono ?_; rintro e w' ⟨he, hb⟩; subst he; replace hm := hm.call hb; clear hb)
  refine hK _ _ hm ?_
  clear hK K
  go_simp
  refine anyH_takeG 8 (v := .bool true) rfl (by kernel_rfl) (by kernel_rfl) (by kernel_rfl) rfl (fun W _ => by go_simp) hm ?_
  go_simp
  refine anyH_take 9 (v := .bool true) rfl (by kernel_rfl) (by kernel_rfl) (by kernel_rfl) rfl (fun W _ => by go_simp) hm ?_
  go_simp
  refine anyH_take 10 (v := .bool true) rfl (by kernel_rfl) (by kernel_rfl) (by kernel_rfl) rfl (fun W _ => by go_simp) hm ?_
  go_simp
  refine anyH_takeG 11 (v := .string a) rfl (by kernel_rfl) (by kernel_rfl) (by kernel_rfl) rfl (fun W _ => by go_simp) hm ?_
  go_simp
  refine anyH_takeG 12 (v := .string p) rfl (by kernel_rfl) (by kernel_rfl) (by kernel_rfl) rfl (fun W _ => by go_simp) hm ?_
  go_simp
  refine wpAnyH_all (rs := [13]) (by kernel_rfl) (by simp) ?_
  intro i hi
  simp only [List.mem_cons, List.not_mem_nil, or_false] at hi
  subst hi
  refine anyH_opW 13 rfl rfl ?_
  intro K hK
  go_wp2_with (go_at_call 22; refine (HU3.out _ (HM.out.below hm.below)).mono ?_; rintro e w' ⟨he, hb⟩; subst he; replace hm := hm.call hb; clear hb)
  refine hK _ _ hm ?_
  clear hK K
  go_simp
  refine anyH_take 14 (v := .bool true) rfl (by kernel_rfl) (by kernel_rfl) (by kernel_rfl) rfl (fun W _ => by go_simp) hm ?_
  go_simp
  refine anyH_take 15 (v := .bool true) rfl (by kernel_rfl) (by kernel_rfl) (by kernel_rfl) rfl (fun W _ => by go_simp) hm ?_
  go_simp
  refine anyH_takeG 16 (v := .string p) rfl (by kernel_rfl) (by kernel_rfl) (by kernel_rfl) rfl (fun W _ => by go_simp) hm ?_
  go_simp
  refine anyH_takeG 17 (v := .string a) rfl (by kernel_rfl) (by kernel_rfl) (by kernel_rfl) rfl (fun W _ => by go_simp) hm ?_
  go_simp
  refine wpAnyH_all (rs := [18]) (by kernel_rfl) (by simp) ?_
  intro i hi
  simp only [List.mem_cons, List.not_mem_nil, or_false] at hi
  subst hi
  refine anyH_opW 18 rfl rfl ?_
  intro K hK
  go_wp2_with (go_at_call 22; refine (HU4.out _ (HM.out.below hm.below)).mono ?_; rintro e w' ⟨he, hb⟩; subst he; replace hm := hm.call hb; clear hb)
  refine hK _ _ hm ?_
  clear hK K
  go_simp
  refine anyH_takeG 19 (v := .bool true) rfl (by kernel_rfl) (by kernel_rfl) (by kernel_rfl) rfl (fun W _ => by go_simp) hm ?_
  go_simp
  refine anyH_take 20 (v := .bool true) rfl (by kernel_rfl) (by kernel_rfl) (by kernel_rfl) rfl (fun W _ => by go_simp) hm ?_
  go_simp
  refine anyH_take 21 (v := .bool true) rfl (by kernel_rfl) (by kernel_rfl) (by kernel_rfl) rfl (fun W _ => by go_simp) hm ?_
  go_simp
  refine anyH_takeG 22 (v := .string p) rfl (by kernel_rfl) (by kernel_rfl) (by kernel_rfl) rfl (fun W _ => by go_simp) hm ?_
  go_simp
  refine anyH_takeG 24 (v := .slice (some ⟨b, off, none⟩) n cap) rfl (by kernel_rfl) (by kernel_rfl) (by kernel_rfl) rfl (fun W _ => by go_simp) hm ?_
  go_simp
  refine anyH_takeG 25 (v := .slice (some ⟨b, off, none⟩) n cap) rfl (by kernel_rfl) (by kernel_rfl) (by kernel_rfl) rfl (fun W _ => by go_simp) hm ?_
  go_simp
  refine anyH_takeG 26 (v := .int .i64 (n : Int)) rfl (by kernel_rfl) (by kernel_rfl) (by kernel_rfl) rfl (fun W _ => by go_simp) hm ?_
  go_simp
  refine anyH_takeG 27 (v := .int .i64 (m : Int)) rfl (by kernel_rfl) (by kernel_rfl) (by kernel_rfl) rfl (fun W _ => by go_simp; exact HWR.out ()) hm ?_
  go_simp
  refine anyH_takeG 28 (v := .pointer (some ⟨b, off + m, none⟩)) rfl (by kernel_rfl) (by kernel_rfl) (by kernel_rfl) rfl (fun W _ => by go_simp) hm ?_
  go_simp
  refine anyH_takeG 29 (v := .string x) rfl (by kernel_rfl) (by kernel_rfl) (by kernel_rfl) rfl (fun W hW => exec_ldx (.string x) (HC.out W hW.below) rfl ag_str) hm ?_
  go_simp
  refine anyH_takeG 33 (v := .string a) rfl (by kernel_rfl) (by kernel_rfl) (by kernel_rfl) rfl (fun W _ => by go_simp) hm ?_
  go_simp
  refine wpAnyH_all (rs := [23, 30]) (by kernel_rfl) (by simp) ?_
  intro i9 hi9
  simp only [List.mem_cons, List.not_mem_nil, or_false] at hi9
  rcases hi9 with rfl | rfl
  · refine anyH_opW 23 rfl rfl ?_
    intro K hK
    go_wp2_with (go_at_call 18; refine (HS2.out _ (HM.out.below hm.below)).mono ?_; rintro e w' ⟨v2, he, ho, hb⟩; subst he; have HOW0 : Hid (w'.ownsRow wl.heap.size 9 1 v2 m (strs ks.dropLast)) := own_base hm.size ho; clear ho; replace hm := hm.call hb; clear hb)
    refine hK _ _ hm ?_
    clear hK K
    go_simp
    refine wpAnyH_all (rs := [30]) (by kernel_rfl) (by simp) ?_
    intro i hi
    simp only [List.mem_cons, List.not_mem_nil, or_false] at hi
    subst hi
    refine anyH_opW 30 rfl rfl ?_
    intro K hK
    refine wpl_bsl1 rfl (.string ByteArray.empty) (.string x) un_strs info_str rfl rfl rfl hm ?_
    have hm0' := hm
    clear hm
    intro wx gx hb9 hm
    have HOW : Hid (wx.ownsRow wl.heap.size 9 1 v2 m (strs ks.dropLast)) := own_below HOW0.out hb9
    clear hb9 hm0'
    have HBS : Hid (wl.heap.size ≤ wx.heap.size) := hm.size
    have HBL : Hid (wl.heap.size ≤ wl.heap.size) := Nat.le_refl _
    refine wpList_nil ?_
    refine hK _ _ hm.tail ?_
    clear hK K
    go_simp
    refine wpAnyH_all (rs := [31]) (by kernel_rfl) (by simp) ?_
    intro i hi
    simp only [List.mem_cons, List.not_mem_nil, or_false] at hi
    subst hi
    refine anyH_opW 31 rfl rfl ?_
    intro K hK
    refine wpl_appV (.string ByteArray.empty) 1 16 rfl un_strs made_str rfl (by omega) (by omega) HOW.out HBS.out rfl rfl (hm.get 0 rfl) rfl (by simp [Value.oneCell']) hm3 ?_
    intro v9 w9 ho9 hg9 hl9
    have HO9 : Hid (SlS w9 v9 ks) := by
      have h9 := own_sl ho9
      rw [HSN.out (), HNM.out ()] at h9
      show SlV 1 w9 v9 ks.length (strs ks)
      rw [HN.out ()]
      exact h9
    have HW9 : Hid (Below wl.heap.size wl w9) := below_grown hm.below hm.size (own_base HBL.out HOW.out) hg9
    clear ho9 hg9 hl9 hm
    have hm : Mem wl [] w9 [] := mem_of_below HW9.out
    refine wpList_nil ?_
    refine hK _ _ hm ?_
    clear hK K
    go_simp
    refine wpAnyH_all (rs := [32]) (by kernel_rfl) (by simp) ?_
    intro i hi
    simp only [List.mem_cons, List.not_mem_nil, or_false] at hi
    subst hi
    refine anyH_opW 32 rfl rfl ?_
    intro K hK
    go_wp2_with (go_at_call 20; refine (HJ.out _ _ HO9.out).mono ?_; rintro e w' ⟨he, hb⟩; subst he; replace hm := hm.call hb; clear hb)
    refine hK _ _ hm ?_
    clear hK K
    go_simp
    refine anyH_takeG 34 (v := .bool true) rfl (by kernel_rfl) (by kernel_rfl) (by kernel_rfl) rfl (fun W _ => exec_eqsB a a true rfl rfl (eqs_yes _)) hm ?_
    go_simp
    refine anyH_take 35 (v := .bool true) rfl (by kernel_rfl) (by kernel_rfl) (by kernel_rfl) rfl (fun W _ => by go_simp) hm ?_
    go_simp
    refine anyH_take 36 (v := .bool true) rfl (by kernel_rfl) (by kernel_rfl) (by kernel_rfl) rfl (fun W _ => by go_simp) hm ?_
    go_simp
    refine wpAnyH_done (by kernel_rfl) ?_ _
    simp only [endsIn]
    go_wp2_with fail
    go_ret
    exact ⟨rfl, below_next HWL.out HWL.out.size hm.below⟩
  · refine anyH_opW 30 rfl rfl ?_
    intro K hK
    refine wpl_bsl1 rfl (.string ByteArray.empty) (.string x) un_strs info_str rfl rfl rfl hm ?_
    clear hm
    intro wx gx hb9 hm
    clear hb9
    refine wpList_nil ?_
    refine hK _ _ hm.tail ?_
    clear hK K
    go_simp
    refine wpAnyH_all (rs := [23]) (by kernel_rfl) (by simp) ?_
    intro i hi
    simp only [List.mem_cons, List.not_mem_nil, or_false] at hi
    subst hi
    refine anyH_opW 23 rfl rfl ?_
    intro K hK
    go_wp2_with (go_at_call 18; refine (HS2.out _ (HM.out.below hm.below)).mono ?_; rintro e w' ⟨v2, he, ho, hb⟩; subst he; have HOW : Hid (w'.ownsRow wl.heap.size 9 1 v2 m (strs ks.dropLast)) := own_base hm.size ho; clear ho; replace hm := hm.call hb; clear hb)
    have HBS : Hid (wl.heap.size ≤ _) := hm.size
    have HBL : Hid (wl.heap.size ≤ wl.heap.size) := Nat.le_refl _
    refine hK _ _ hm.tail ?_
    clear hK K
    go_simp
    refine wpAnyH_all (rs := [31]) (by kernel_rfl) (by simp) ?_
    intro i hi
    simp only [List.mem_cons, List.not_mem_nil, or_false] at hi
    subst hi
    refine anyH_opW 31 rfl rfl ?_
    intro K hK
    refine wpl_appV (.string ByteArray.empty) 1 16 rfl un_strs made_str rfl (by omega) (by omega) HOW.out HBS.out rfl rfl (hm.get 0 rfl) rfl (by simp [Value.oneCell']) hm3 ?_
    intro v9 w9 ho9 hg9 hl9
    have HO9 : Hid (SlS w9 v9 ks) := by
      have h9 := own_sl ho9
      rw [HSN.out (), HNM.out ()] at h9
      show SlV 1 w9 v9 ks.length (strs ks)
      rw [HN.out ()]
      exact h9
    have HW9 : Hid (Below wl.heap.size wl w9) := below_grown hm.below hm.size (own_base HBL.out HOW.out) hg9
    clear ho9 hg9 hl9 hm
    have hm : Mem wl [] w9 [] := mem_of_below HW9.out
    refine wpList_nil ?_
    refine hK _ _ hm ?_
    clear hK K
    go_simp
    refine wpAnyH_all (rs := [32]) (by kernel_rfl) (by simp) ?_
    intro i hi
    simp only [List.mem_cons, List.not_mem_nil, or_false] at hi
    subst hi
    refine anyH_opW 32 rfl rfl ?_
    intro K hK
    go_wp2_with (go_at_call 20; refine (HJ.out _ _ HO9.out).mono ?_; rintro e w' ⟨he, hb⟩; subst he; replace hm := hm.call hb; clear hb)
    refine hK _ _ hm ?_
    clear hK K
    go_simp
    refine anyH_takeG 34 (v := .bool true) rfl (by kernel_rfl) (by kernel_rfl) (by kernel_rfl) rfl (fun W _ => exec_eqsB a a true rfl rfl (eqs_yes _)) hm ?_
    go_simp
    refine anyH_take 35 (v := .bool true) rfl (by kernel_rfl) (by kernel_rfl) (by kernel_rfl) rfl (fun W _ => by go_simp) hm ?_
    go_simp
    refine anyH_take 36 (v := .bool true) rfl (by kernel_rfl) (by kernel_rfl) (by kernel_rfl) rfl (fun W _ => by go_simp) hm ?_
    go_simp
    refine wpAnyH_done (by kernel_rfl) ?_ _
    simp only [endsIn]
    go_wp2_with fail
    go_ret
    exact ⟨rfl, below_next HWL.out HWL.out.size hm.below⟩
set_option maxRecDepth 100000 in
theorem pparents_walk (a : ByteArray) (w : World) (hM : MaxL w) :
    Calls Tryd.prog 5 #[.string a] w fun e w' => e = .returned (.bool true) ∧ Below w.heap.size w w' := by
  by_cases h : a.size ≤ 60
  · cases hi : isP (bs a) with
    | false => exact pparents_no a w h hi hM
    | true =>
      cases hp : parOk (bs a) with
      | false => exact pparents_root a w h hi hp hM
      | true => exact pparents_more a w h hp hM
  · exact pparents_long a w (by omega) hM
end Go.Proofs.YtikmmheknfljkaaDoor
