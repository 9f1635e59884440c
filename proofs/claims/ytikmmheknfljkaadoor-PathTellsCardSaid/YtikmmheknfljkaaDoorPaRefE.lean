/- The document's codes, read back; lists of texts compared; what is under what. -/
import Derived.Test.YtikmmheknfljkaaDoorPaRefD
namespace Go.Proofs.YtikmmheknfljkaaDoor
open Go Go.RowKit
set_option maxHeartbeats 4000000 in
set_option maxRecDepth 100000 in
theorem codeR_any (s : ByteArray) (w : World) (hs : s.size ≤ 1000) :
    Calls Tryd.prog 26 #[.string s] w fun e w' => e = .returned (.string (mkS (codeOf (segsOf (bs s))))) ∧ Below w.heap.size w w' := by
  have hm := Mem.start w
  obtain ⟨ks, hks⟩ : ∃ ks, ks = segsB s := ⟨_, rfl⟩
  have HK : Hid (∀ _ : Unit, PlOk ks) := fun _ => by rw [hks]; exact segsB_ok s
  have HR : Hid (∀ _ : Unit, codeOf (segsOf (bs s)) = codeOf (ks.map bs)) := fun _ => by rw [hks, segsB_bs]
  obtain ⟨n, hn⟩ : ∃ n, n = ks.length := ⟨_, rfl⟩
  have HN : Hid (∀ _ : Unit, ks.length = n) := fun _ => hn.symm
  have HNn : Hid (∀ _ : Unit, ks.length = n) := fun _ => hn.symm
  have hn3 : n ≤ 3 := by rw [hn]; exact (HK.out ()).len
  have HSP : Hid (∀ W, Calls Tryd.prog 19 #[.string s] W fun e w' => ∃ v, e = .returned v ∧ SlS w' v ks ∧ Below W.heap.size W w') := fun W => by rw [hks]; exact splitR_any s W hs
  have tkHSP : Nat := 0
  clear hks hn hs
  go_enter Tryd.func26, Tryd.ntmps26
  go_wp2_with (first
    | (go_at_call 19; clear tkHSP; refine (HSP.out _).mono ?_; rintro e w9 ⟨v, he, ho, hb⟩; subst he; obtain ⟨p, cap, hv, hcap⟩ := SlV.len ho; subst hv; have HO : Hid (SlS w9 (.slice p n cap) ks) := by { have h9 := ho; rw [HNn.out ()] at h9; exact h9 }; rw [HNn.out ()]; clear ho hcap; replace hm := hm.call hb; clear hb))
  go_loopw [5, 4] (fun vi vc wr => ∃ k : Nat, k ≤ n ∧ vi = .int .i64 (k : Int) ∧ vc = .string (mkS (cdk ks k)) ∧ Hid (Below w9.heap.size w9 wr)) (fun vi _ _ => n - (intOf vi).toNat)
  case atStart => exact ⟨0, by omega, rfl, rfl, Below.refl _ _⟩
  case round =>
    obtain ⟨k, hk, rfl, rfl, HB⟩ := hrel
    by_cases hlt : k < n
    · have hki : (k : Int) < (n : Int) := by omega
      obtain ⟨b, off, hp⟩ := SlS.at HO.out (HN.out ()) (by omega)
      subst hp
      obtain ⟨x, hx⟩ : ∃ x, x = ks.getD k noStr := ⟨_, rfl⟩
      have HC : Hid (wr.cell? ⟨b, off + k, none⟩ = some (.string x)) := by
        rw [hx]
        exact SlS.cells (HN.out ()) (SlV.below HO.out HB.out) k hlt
      have hmem : x ∈ ks := by
        rw [hx, List.getD_eq_getElem?_getD, List.getElem?_eq_getElem (by rw [HN.out ()]; exact hlt)]
        exact List.getElem_mem _
      have hxz := ((HK.out ()).size hmem).2
      obtain ⟨c1, hc1⟩ : ∃ c, c = mkS (cdk ks k) := ⟨_, rfl⟩
      obtain ⟨c2, hc2⟩ : ∃ c, c = c1 ++ x := ⟨_, rfl⟩
      obtain ⟨c3, hc3⟩ : ∃ c, c = c2 ++ mkS [0] := ⟨_, rfl⟩
      have hz1 : c1.size ≤ 40 := by rw [hc1, mkS_size]; exact code_bound (HK.out ()) k
      have HZ1 : Hid (∀ _ : Unit, c1.size + x.size ≤ 1000000000) := fun _ => by omega
      have HZ2 : Hid (∀ _ : Unit, c2.size + (mkS [0]).size ≤ 1000000000) := fun _ => by rw [hc2, ByteArray.size_append, mkS_size]; simp; omega
      have HC2 : Hid (∀ _ : Unit, c2 = c1 ++ x) := fun _ => hc2
      have HC3 : Hid (∀ _ : Unit, c3 = c2 ++ mkS [0]) := fun _ => hc3
      have HE : Hid (∀ _ : Unit, c3 = mkS (cdk ks (k + 1))) := fun _ => by
        have e1 : mkS (bs x) = x := mkS_bs x
        rw [hc3, hc2, hc1, code_next (by rw [HN.out ()]; exact hlt), ← hx, ← List.append_assoc, ← mkS_append, ← mkS_append, e1]
      rw [← hc1]
      clear hc1 hc2 hc3 hx hmem hxz hz1
      go_wp2_with (first
        | ((with_reducible refine at_op (some 18) (.load 9 (.tmp 17)) ?_); go_must (refine wpl_execG (.string x) rfl (exec_ldx (.string x) (HC.out) rfl ag_str) ?_))
        | ((with_reducible refine at_op (some 19) (.binOp .add 9 (.tmp 14) (.tmp 18) 9) ?_); go_must (refine wpl_execG (.string c2) rfl (exec_addB c1 x c2 (HC2.out ()) rfl rfl (HZ1.out ())) ?_))
        | ((with_reducible refine at_op (some 20) (.binOp .add 9 (.tmp 19) (.const (.string { data := #[0] })) 9) ?_); go_must (refine wpl_execG (.string c3) rfl (exec_addB c2 (mkS [0]) c3 (HC3.out ()) rfl rfl (HZ2.out ())) ?_)))
      go_roundw
      case rel => exact ⟨k + 1, by omega, by go_num, by rw [HE.out ()], HB.out⟩
      case measure => simp [intOf]; omega
    · have hki : ¬ (k : Int) < (n : Int) := by omega
      have HE : Hid (∀ _ : Unit, cdk ks k = codeOf (ks.map bs)) := fun _ => by rw [cdk, List.take_of_length_le (by rw [HN.out ()]; omega)]
      go_wp2_with fail
      go_ret
      refine ⟨?_, (hm.call HB.out).below⟩
      rw [HR.out (), HE.out ()]
      rfl
/-! Lists of texts compared. -/
set_option maxRecDepth 100000 in
theorem take_next_eq {α : Type} {l m : List α} {k : Nat} (d : α) (h : l.take k = m.take k) (hl : k < l.length) (hm : k < m.length) (he : l.getD k d = m.getD k d) : l.take (k + 1) = m.take (k + 1) := by
  have e1 : l[k]? = some (l.getD k d) := by simp [hl]
  have e2 : m[k]? = some (m.getD k d) := by simp [hm]
  rw [List.take_add_one, List.take_add_one, h, e1, e2, he]
set_option maxHeartbeats 1000000 in
set_option maxRecDepth 100000 in
theorem texts_len (n m c1 c2 : Nat) (p1 p2 : Option Addr) (h : ¬ n = m) (w : World) :
    Calls Tryd.prog 17 #[.slice p1 n c1, .slice p2 m c2] w fun e w' => e = .returned (.bool false) ∧ w' = w := by
  have hb : ((n : Int) != (m : Int)) = true := by simp; omega
  go_enter Tryd.func17, Tryd.ntmps17
  go_wp2
  go_ret
  exact ⟨rfl, rfl⟩
set_option maxHeartbeats 4000000 in
set_option maxRecDepth 100000 in
theorem texts_same (xs : List ByteArray) (n c1 c2 : Nat) (p1 p2 : Option Addr) (hn : xs.length = n) (hl : n ≤ 1000) (w : World) (v1 : SlS w (.slice p1 n c1) xs) (v2 : SlS w (.slice p2 n c2) xs) :
    Calls Tryd.prog 17 #[.slice p1 n c1, .slice p2 n c2] w fun e w' => e = .returned (.bool true) ∧ Below w.heap.size w w' := by
  have HV1 : Hid (SlS w (.slice p1 n c1) xs) := v1
  have HV2 : Hid (SlS w (.slice p2 n c2) xs) := v2
  have HN : Hid (∀ _ : Unit, xs.length = n) := fun _ => hn
  clear v1 v2 hn
  go_enter Tryd.func17, Tryd.ntmps17
  go_wp2_with fail
  go_loopw [5] (fun vi wr => ∃ k : Nat, k ≤ n ∧ vi = .int .i64 (k : Int) ∧ Hid (Below w.heap.size w wr)) (fun vi _ => n - (intOf vi).toNat)
  case atStart => exact ⟨0, by omega, rfl, Below.refl _ _⟩
  case round =>
    obtain ⟨k, hk, rfl, HB⟩ := hrel
    by_cases hlt : k < n
    · have hki : (k : Int) < (n : Int) := by omega
      obtain ⟨b, off, hp⟩ := SlS.at HV1.out (HN.out ()) (by omega)
      subst hp
      obtain ⟨b2, off2, hq⟩ := SlS.at HV2.out (HN.out ()) (by omega)
      subst hq
      obtain ⟨x, hx⟩ : ∃ x, x = xs.getD k noStr := ⟨_, rfl⟩
      have HC1 : Hid (∀ W, Below wr.heap.size wr W → W.cell? ⟨b, off + k, none⟩ = some (.string x)) := by
        intro W hW
        rw [hx]
        exact SlS.cells (HN.out ()) (SlV.below HV1.out (below_next HB.out HB.out.size hW)) k hlt
      have HC2 : Hid (∀ W, Below wr.heap.size wr W → W.cell? ⟨b2, off2 + k, none⟩ = some (.string x)) := by
        intro W hW
        rw [hx]
        exact SlS.cells (HN.out ()) (SlV.below HV2.out (below_next HB.out HB.out.size hW)) k hlt
      clear hx
      have hm := Mem.start wr
      go_wp2_with fail
      refine wp_ends0 ?_
      refine anyH_startB (T := fun W => Mem wr [] W []) (by kernel_rfl) hm ?_
      intro wc hbw hmw
      replace hm : Mem wr [] wc [] := hmw
      clear hbw hmw
      refine anyH_take 0 (v := .slice (some ⟨b, off, none⟩) n c1) rfl (by kernel_rfl) (by kernel_rfl) (by kernel_rfl) rfl (fun W _ => by go_simp) hm ?_
      go_simp
      refine anyH_take 1 (v := .int .i64 (k : Int)) rfl (by kernel_rfl) (by kernel_rfl) (by kernel_rfl) rfl (fun W _ => by go_simp) hm ?_
      go_simp
      refine anyH_take 2 (v := .pointer (some ⟨b, off + k, none⟩)) rfl (by kernel_rfl) (by kernel_rfl) (by kernel_rfl) rfl (fun W _ => by go_simp) hm ?_
      go_simp
      refine anyH_take 3 (v := .string x) rfl (by kernel_rfl) (by kernel_rfl) (by kernel_rfl) rfl (fun W hW => exec_ldx (.string x) (HC1.out W hW.below) rfl ag_str) hm ?_
      go_simp
      refine anyH_take 4 (v := .slice (some ⟨b2, off2, none⟩) n c2) rfl (by kernel_rfl) (by kernel_rfl) (by kernel_rfl) rfl (fun W _ => by go_simp) hm ?_
      go_simp
      refine anyH_take 5 (v := .int .i64 (k : Int)) rfl (by kernel_rfl) (by kernel_rfl) (by kernel_rfl) rfl (fun W _ => by go_simp) hm ?_
      go_simp
      refine anyH_take 6 (v := .pointer (some ⟨b2, off2 + k, none⟩)) rfl (by kernel_rfl) (by kernel_rfl) (by kernel_rfl) rfl (fun W _ => by go_simp) hm ?_
      go_simp
      refine anyH_take 7 (v := .string x) rfl (by kernel_rfl) (by kernel_rfl) (by kernel_rfl) rfl (fun W hW => exec_ldx (.string x) (HC2.out W hW.below) rfl ag_str) hm ?_
      go_simp
      refine anyH_take 8 (v := .bool false) rfl (by kernel_rfl) (by kernel_rfl) (by kernel_rfl) rfl (fun W _ => exec_neB x x true (eqs_yes _) rfl rfl) hm ?_
      go_simp
      refine wpAnyH_done (by kernel_rfl) ?_ _
      simp only [endsIn]
      have HB2 : Hid (Below w.heap.size w wc) := below_next HB.out HB.out.size hm.below
      go_wp2_with fail
      go_roundw
      case rel => exact ⟨k + 1, by omega, by go_num, HB2.out⟩
      case measure => simp [intOf]; omega
    · have hkn : n = k := by omega
      subst hkn
      have hki : ¬ (n : Int) < (n : Int) := by omega
      go_wp2_with fail
      go_ret
      exact ⟨rfl, HB.out⟩
/-! What is under what. -/
set_option maxRecDepth 100000 in
theorem pre_next {ka kb : List ByteArray} {k : Nat} (h : kb.take k = ka.take k) (ha : k < ka.length) (hb : k < kb.length) (he : ka.getD k noStr = kb.getD k noStr) : kb.take (k + 1) = ka.take (k + 1) := take_next_eq noStr h hb ha he.symm
set_option maxRecDepth 100000 in
theorem pre_no1 {ka kb : List ByteArray} (h : ka.length < kb.length) : (kb.map bs).isPrefixOf (ka.map bs) = false := by
  cases hp : (kb.map bs).isPrefixOf (ka.map bs) with
  | false => rfl
  | true =>
    have := (List.isPrefixOf_iff_prefix.1 hp).length_le
    simp at this
    omega
set_option maxRecDepth 100000 in
theorem pre_no2 {ka kb : List ByteArray} {k : Nat} (ha : k < ka.length) (hb : k < kb.length) (he : ka.getD k noStr ≠ kb.getD k noStr) : (kb.map bs).isPrefixOf (ka.map bs) = false := by
  cases hp : (kb.map bs).isPrefixOf (ka.map bs) with
  | false => rfl
  | true =>
    obtain ⟨t, ht⟩ := List.isPrefixOf_iff_prefix.1 hp
    have h1 : (ka.map bs)[k]? = (kb.map bs)[k]? := by rw [← ht, List.getElem?_append_left (by simpa using hb)]
    simp only [List.getElem?_map, List.getElem?_eq_getElem ha, List.getElem?_eq_getElem hb, Option.map_some, Option.some.injEq] at h1
    exact absurd (by simp only [List.getD_eq_getElem?_getD, List.getElem?_eq_getElem ha, List.getElem?_eq_getElem hb, Option.getD_some]; exact bs_inj h1) he
set_option maxRecDepth 100000 in
theorem pre_yes {ka kb : List ByteArray} {n : Nat} (hn : kb.length = n) (h : kb.take n = ka.take n) : (kb.map bs).isPrefixOf (ka.map bs) = true := by
  rw [List.isPrefixOf_iff_prefix]
  rw [List.take_of_length_le (by omega)] at h
  rw [h, List.map_take]
  exact List.take_prefix _ _
set_option maxHeartbeats 6000000 in
set_option maxRecDepth 100000 in
theorem underR_any (a b : ByteArray) (w : World) (ha : a.size ≤ 1000) (hb : b.size ≤ 1000) :
    Calls Tryd.prog 23 #[.string a, .string b] w fun e w' => e = .returned (.bool (undOf (bs a) (bs b))) ∧ Below w.heap.size w w' := by
  have hm := Mem.start w
  obtain ⟨ka, hka⟩ : ∃ ks, ks = segsB a := ⟨_, rfl⟩
  obtain ⟨kb, hkb⟩ : ∃ ks, ks = segsB b := ⟨_, rfl⟩
  obtain ⟨ra, hra⟩ : ∃ r, r = isP (bs a) := ⟨_, rfl⟩
  obtain ⟨rb, hrb⟩ : ∃ r, r = isP (bs b) := ⟨_, rfl⟩
  obtain ⟨na, hna⟩ : ∃ n, n = ka.length := ⟨_, rfl⟩
  obtain ⟨nb, hnb⟩ : ∃ n, n = kb.length := ⟨_, rfl⟩
  have HNna : Hid (∀ _ : Unit, ka.length = na) := fun _ => hna.symm
  have HNnb : Hid (∀ _ : Unit, kb.length = nb) := fun _ => hnb.symm
  have hn3 : nb ≤ 3 := by rw [hnb, hkb]; exact (segsB_ok b).len
  have HU : Hid (∀ _ : Unit, undOf (bs a) (bs b) = (ra && (rb && (kb.map bs).isPrefixOf (ka.map bs)))) := fun _ => by rw [undOf, hra, hrb, hka, hkb, segsB_bs, segsB_bs]
  have HIA : Hid (∀ W, Calls Tryd.prog 16 #[.string a] W fun e w' => e = .returned (.bool ra) ∧ Below W.heap.size W w') := fun W => by rw [hra]; exact isR_any a W ha
  have HIB : Hid (∀ W, Calls Tryd.prog 16 #[.string b] W fun e w' => e = .returned (.bool rb) ∧ Below W.heap.size W w') := fun W => by rw [hrb]; exact isR_any b W hb
  have HSA : Hid (∀ W, Calls Tryd.prog 19 #[.string a] W fun e w' => ∃ v, e = .returned v ∧ SlS w' v ka ∧ Below W.heap.size W w') := fun W => by rw [hka]; exact splitR_any a W ha
  have HSB : Hid (∀ W, Calls Tryd.prog 19 #[.string b] W fun e w' => ∃ v, e = .returned v ∧ SlS w' v kb ∧ Below W.heap.size W w') := fun W => by rw [hkb]; exact splitR_any b W hb
  clear hka hkb hra hrb hna hnb ha hb
  have tkI1 : Nat := 0
  have tkHSA : Nat := 0
  have tkHSB : Nat := 0
  cases ra with
  | false =>
    go_enter Tryd.func23, Tryd.ntmps23
    go_wp2_with (first
      | (go_at_call 16; clear tkI1; refine (HIA.out _).mono ?_; rintro e w' ⟨he, hb⟩; subst he; replace hm := hm.call hb; clear hb)
      | (go_at_call 16; refine (HIB.out _).mono ?_; rintro e w' ⟨he, hb⟩; subst he; replace hm := hm.call hb; clear hb))
    go_ret
    exact ⟨by rw [HU.out ()]; rfl, hm.below⟩
  | true =>
    cases rb with
    | false =>
      go_enter Tryd.func23, Tryd.ntmps23
      go_wp2_with (first
        | (go_at_call 16; clear tkI1; refine (HIA.out _).mono ?_; rintro e w' ⟨he, hb⟩; subst he; replace hm := hm.call hb; clear hb)
        | (go_at_call 16; refine (HIB.out _).mono ?_; rintro e w' ⟨he, hb⟩; subst he; replace hm := hm.call hb; clear hb))
      go_ret
      exact ⟨by rw [HU.out ()]; rfl, hm.below⟩
    | true =>
      go_enter Tryd.func23, Tryd.ntmps23
      go_wp2_with (first
        | (go_at_call 16; clear tkI1; refine (HIA.out _).mono ?_; rintro e w' ⟨he, hb⟩; subst he; replace hm := hm.call hb; clear hb)
        | (go_at_call 16; refine (HIB.out _).mono ?_; rintro e w' ⟨he, hb⟩; subst he; replace hm := hm.call hb; clear hb)
        | (go_at_call 19; clear tkHSA; refine (HSA.out _).mono ?_; rintro e w8 ⟨v, he, ho, hb⟩; subst he; obtain ⟨pa, ca, hv, hcap⟩ := SlV.len ho; subst hv; have HOA : Hid (SlS w8 (.slice pa na ca) ka) := by { have h9 := ho; rw [HNna.out ()] at h9; exact h9 }; rw [HNna.out ()]; clear ho hcap; replace hm := hm.call hb; clear hb)
        | (go_at_call 19; clear tkHSB; refine (HSB.out _).mono ?_; rintro e w9 ⟨v, he, ho, hb⟩; subst he; obtain ⟨pb, cb, hv, hcap⟩ := SlV.len ho; subst hv; have HOB : Hid (SlS w9 (.slice pb nb cb) kb) := by { have h9 := ho; rw [HNnb.out ()] at h9; exact h9 }; rw [HNnb.out ()]; clear ho hcap; have HOA9 : Hid (SlS w9 (.slice pa na ca) ka) := SlV.below HOA.out hb; replace hm := hm.call hb; clear hb))
      go_loopw [7] (fun vi wr => ∃ k : Nat, k ≤ nb ∧ k ≤ na ∧ vi = .int .i64 (k : Int) ∧ Hid (kb.take k = ka.take k) ∧ Hid (Below w9.heap.size w9 wr)) (fun vi _ => nb - (intOf vi).toNat)
      case atStart => exact ⟨0, by omega, by omega, rfl, rfl, Below.refl _ _⟩
      case round =>
        obtain ⟨k, hk, hka, rfl, HT, HB⟩ := hrel
        by_cases hlt : k < nb
        · have hki : (k : Int) < (nb : Int) := by omega
          have hmr := Mem.start wr
          by_cases hla : k < na
          · have hlai : ¬ (na : Int) ≤ (k : Int) := by omega
            have hlaj : (k : Int) < (na : Int) := by omega
            obtain ⟨b1, off, hp⟩ := SlS.at HOA9.out (HNna.out ()) (by omega)
            subst hp
            obtain ⟨b2, off2, hq⟩ := SlS.at HOB.out (HNnb.out ()) (by omega)
            subst hq
            obtain ⟨x, hx⟩ : ∃ x, x = ka.getD k noStr := ⟨_, rfl⟩
            obtain ⟨y, hy⟩ : ∃ x, x = kb.getD k noStr := ⟨_, rfl⟩
            have HC1 : Hid (∀ W, Below wr.heap.size wr W → W.cell? ⟨b1, off + k, none⟩ = some (.string x)) := by
              intro W hW
              rw [hx]
              exact SlS.cells (HNna.out ()) (SlV.below HOA9.out (below_next HB.out HB.out.size hW)) k hla
            have HC2 : Hid (∀ W, Below wr.heap.size wr W → W.cell? ⟨b2, off2 + k, none⟩ = some (.string y)) := by
              intro W hW
              rw [hy]
              exact SlS.cells (HNnb.out ()) (SlV.below HOB.out (below_next HB.out HB.out.size hW)) k hlt
            by_cases he : x = y
            · have HT2 : Hid (kb.take (k + 1) = ka.take (k + 1)) := pre_next HT.out (by rw [HNna.out ()]; exact hla) (by rw [HNnb.out ()]; exact hlt) (by rw [← hx, ← hy]; exact he)
              have HEQ : Hid (∀ _ : Unit, (x == y) = true) := fun _ => by rw [he]; exact eqs_yes _
              clear hx hy he
              go_wp2_with fail
              refine wp_ends0 ?_
              refine anyH_startB (T := fun W => Mem wr [] W []) (by kernel_rfl) hmr ?_
              intro wc hbw hmw
              have hm2 : Mem wr [] wc [] := hmw
              clear hbw hmw
              refine anyH_take 0 (v := .int .i64 (k : Int)) rfl (by kernel_rfl) (by kernel_rfl) (by kernel_rfl) rfl (fun W _ => by go_simp) hm2 ?_
              go_simp
              refine anyH_take 1 (v := .slice (some ⟨b1, off, none⟩) na ca) rfl (by kernel_rfl) (by kernel_rfl) (by kernel_rfl) rfl (fun W _ => by go_simp) hm2 ?_
              go_simp
              refine anyH_take 2 (v := .int .i64 (na : Int)) rfl (by kernel_rfl) (by kernel_rfl) (by kernel_rfl) rfl (fun W _ => by go_simp) hm2 ?_
              go_simp
              refine anyH_take 3 (v := .bool false) rfl (by kernel_rfl) (by kernel_rfl) (by kernel_rfl) rfl (fun W _ => by go_simp) hm2 ?_
              go_simp
              refine anyH_take 4 (v := .bool false) rfl (by kernel_rfl) (by kernel_rfl) (by kernel_rfl) rfl (fun W _ => by go_simp) hm2 ?_
              go_simp
              refine anyH_takeG 5 (v := .slice (some ⟨b1, off, none⟩) na ca) rfl (by kernel_rfl) (by kernel_rfl) (by kernel_rfl) rfl (fun W _ => by go_simp) hm2 ?_
              go_simp
              refine anyH_takeG 6 (v := .int .i64 (k : Int)) rfl (by kernel_rfl) (by kernel_rfl) (by kernel_rfl) rfl (fun W _ => by go_simp) hm2 ?_
              go_simp
              refine anyH_takeG 7 (v := .pointer (some ⟨b1, off + k, none⟩)) rfl (by kernel_rfl) (by kernel_rfl) (by kernel_rfl) rfl (fun W _ => by go_simp) hm2 ?_
              go_simp
              refine anyH_takeG 8 (v := .string x) rfl (by kernel_rfl) (by kernel_rfl) (by kernel_rfl) rfl (fun W hW => exec_ldx (.string x) (HC1.out W hW.below) rfl ag_str) hm2 ?_
              go_simp
              refine anyH_takeG 9 (v := .slice (some ⟨b2, off2, none⟩) nb cb) rfl (by kernel_rfl) (by kernel_rfl) (by kernel_rfl) rfl (fun W _ => by go_simp) hm2 ?_
              go_simp
              refine anyH_takeG 10 (v := .int .i64 (k : Int)) rfl (by kernel_rfl) (by kernel_rfl) (by kernel_rfl) rfl (fun W _ => by go_simp) hm2 ?_
              go_simp
              refine anyH_takeG 11 (v := .pointer (some ⟨b2, off2 + k, none⟩)) rfl (by kernel_rfl) (by kernel_rfl) (by kernel_rfl) rfl (fun W _ => by go_simp) hm2 ?_
              go_simp
              refine anyH_takeG 12 (v := .string y) rfl (by kernel_rfl) (by kernel_rfl) (by kernel_rfl) rfl (fun W hW => exec_ldx (.string y) (HC2.out W hW.below) rfl ag_str) hm2 ?_
              go_simp
              refine anyH_takeG 13 (v := .bool false) rfl (by kernel_rfl) (by kernel_rfl) (by kernel_rfl) rfl (fun W _ => exec_neB x y true (HEQ.out ()) rfl rfl) hm2 ?_
              go_simp
              refine anyH_take 14 (v := .bool false) rfl (by kernel_rfl) (by kernel_rfl) (by kernel_rfl) rfl (fun W _ => by go_simp) hm2 ?_
              go_simp
              refine wpAnyH_done (by kernel_rfl) ?_ _
              simp only [endsIn]
              have HB2 : Hid (Below w9.heap.size w9 wc) := below_next HB.out HB.out.size hm2.below
              go_wp2_with fail
              go_roundw
              case rel => exact ⟨k + 1, by omega, by omega, by go_num, HT2.out, HB2.out⟩
              case measure => simp [intOf]; omega
            · have HNO : Hid (∀ _ : Unit, (kb.map bs).isPrefixOf (ka.map bs) = false) := fun _ => pre_no2 (k := k) (by rw [HNna.out ()]; exact hla) (by rw [HNnb.out ()]; exact hlt) (by rw [← hx, ← hy]; exact he)
              have HEQ : Hid (∀ _ : Unit, (x == y) = false) := fun _ => eqs_no he
              clear hx hy he
              go_wp2_with fail
              refine wp_ends0 ?_
              refine anyH_startB (T := fun W => Mem wr [] W []) (by kernel_rfl) hmr ?_
              intro wc hbw hmw
              have hm2 : Mem wr [] wc [] := hmw
              clear hbw hmw
              refine anyH_take 0 (v := .int .i64 (k : Int)) rfl (by kernel_rfl) (by kernel_rfl) (by kernel_rfl) rfl (fun W _ => by go_simp) hm2 ?_
              go_simp
              refine anyH_take 1 (v := .slice (some ⟨b1, off, none⟩) na ca) rfl (by kernel_rfl) (by kernel_rfl) (by kernel_rfl) rfl (fun W _ => by go_simp) hm2 ?_
              go_simp
              refine anyH_take 2 (v := .int .i64 (na : Int)) rfl (by kernel_rfl) (by kernel_rfl) (by kernel_rfl) rfl (fun W _ => by go_simp) hm2 ?_
              go_simp
              refine anyH_take 3 (v := .bool false) rfl (by kernel_rfl) (by kernel_rfl) (by kernel_rfl) rfl (fun W _ => by go_simp) hm2 ?_
              go_simp
              refine anyH_take 4 (v := .bool false) rfl (by kernel_rfl) (by kernel_rfl) (by kernel_rfl) rfl (fun W _ => by go_simp) hm2 ?_
              go_simp
              refine anyH_takeG 5 (v := .slice (some ⟨b1, off, none⟩) na ca) rfl (by kernel_rfl) (by kernel_rfl) (by kernel_rfl) rfl (fun W _ => by go_simp) hm2 ?_
              go_simp
              refine anyH_takeG 6 (v := .int .i64 (k : Int)) rfl (by kernel_rfl) (by kernel_rfl) (by kernel_rfl) rfl (fun W _ => by go_simp) hm2 ?_
              go_simp
              refine anyH_takeG 7 (v := .pointer (some ⟨b1, off + k, none⟩)) rfl (by kernel_rfl) (by kernel_rfl) (by kernel_rfl) rfl (fun W _ => by go_simp) hm2 ?_
              go_simp
              refine anyH_takeG 8 (v := .string x) rfl (by kernel_rfl) (by kernel_rfl) (by kernel_rfl) rfl (fun W hW => exec_ldx (.string x) (HC1.out W hW.below) rfl ag_str) hm2 ?_
              go_simp
              refine anyH_takeG 9 (v := .slice (some ⟨b2, off2, none⟩) nb cb) rfl (by kernel_rfl) (by kernel_rfl) (by kernel_rfl) rfl (fun W _ => by go_simp) hm2 ?_
              go_simp
              refine anyH_takeG 10 (v := .int .i64 (k : Int)) rfl (by kernel_rfl) (by kernel_rfl) (by kernel_rfl) rfl (fun W _ => by go_simp) hm2 ?_
              go_simp
              refine anyH_takeG 11 (v := .pointer (some ⟨b2, off2 + k, none⟩)) rfl (by kernel_rfl) (by kernel_rfl) (by kernel_rfl) rfl (fun W _ => by go_simp) hm2 ?_
              go_simp
              refine anyH_takeG 12 (v := .string y) rfl (by kernel_rfl) (by kernel_rfl) (by kernel_rfl) rfl (fun W hW => exec_ldx (.string y) (HC2.out W hW.below) rfl ag_str) hm2 ?_
              go_simp
              refine anyH_takeG 13 (v := .bool true) rfl (by kernel_rfl) (by kernel_rfl) (by kernel_rfl) rfl (fun W _ => exec_neB x y false (HEQ.out ()) rfl rfl) hm2 ?_
              go_simp
              refine anyH_take 14 (v := .bool true) rfl (by kernel_rfl) (by kernel_rfl) (by kernel_rfl) rfl (fun W _ => by go_simp) hm2 ?_
              go_simp
              refine wpAnyH_done (by kernel_rfl) ?_ _
              simp only [endsIn]
              have HB2 : Hid (Below w9.heap.size w9 wc) := below_next HB.out HB.out.size hm2.below
              go_wp2_with fail
              go_ret
              exact ⟨by rw [HU.out (), HNO.out ()]; rfl, (hm.call HB2.out).below⟩
          · have hlai : (na : Int) ≤ (k : Int) := by omega
            have HNO : Hid (∀ _ : Unit, (kb.map bs).isPrefixOf (ka.map bs) = false) := fun _ => pre_no1 (by rw [HNna.out (), HNnb.out ()]; omega)
            go_wp2_with fail
            refine wp_ends0 ?_
            refine anyH_startB (T := fun W => Mem wr [] W []) (by kernel_rfl) hmr ?_
            intro wc hbw hmw
            have hm2 : Mem wr [] wc [] := hmw
            clear hbw hmw
            refine anyH_take 0 (v := .int .i64 (k : Int)) rfl (by kernel_rfl) (by kernel_rfl) (by kernel_rfl) rfl (fun W _ => by go_simp) hm2 ?_
            go_simp
            refine anyH_take 1 (v := .slice pa na ca) rfl (by kernel_rfl) (by kernel_rfl) (by kernel_rfl) rfl (fun W _ => by go_simp) hm2 ?_
            go_simp
            refine anyH_take 2 (v := .int .i64 (na : Int)) rfl (by kernel_rfl) (by kernel_rfl) (by kernel_rfl) rfl (fun W _ => by go_simp) hm2 ?_
            go_simp
            refine anyH_take 3 (v := .bool true) rfl (by kernel_rfl) (by kernel_rfl) (by kernel_rfl) rfl (fun W _ => by go_simp) hm2 ?_
            go_simp
            refine anyH_take 4 (v := .bool true) rfl (by kernel_rfl) (by kernel_rfl) (by kernel_rfl) rfl (fun W _ => by go_simp) hm2 ?_
            go_simp
            refine anyH_skip 5 rfl (by kernel_rfl) (by kernel_rfl) (by kernel_rfl) rfl hm2 ?_
            go_simp
            refine anyH_skip 6 rfl (by kernel_rfl) (by kernel_rfl) (by kernel_rfl) rfl hm2 ?_
            go_simp
            refine anyH_skip 7 rfl (by kernel_rfl) (by kernel_rfl) (by kernel_rfl) rfl hm2 ?_
            go_simp
            refine anyH_skip 8 rfl (by kernel_rfl) (by kernel_rfl) (by kernel_rfl) rfl hm2 ?_
            go_simp
            refine anyH_skip 9 rfl (by kernel_rfl) (by kernel_rfl) (by kernel_rfl) rfl hm2 ?_
            go_simp
            refine anyH_skip 10 rfl (by kernel_rfl) (by kernel_rfl) (by kernel_rfl) rfl hm2 ?_
            go_simp
            refine anyH_skip 11 rfl (by kernel_rfl) (by kernel_rfl) (by kernel_rfl) rfl hm2 ?_
            go_simp
            refine anyH_skip 12 rfl (by kernel_rfl) (by kernel_rfl) (by kernel_rfl) rfl hm2 ?_
            go_simp
            refine anyH_skip 13 rfl (by kernel_rfl) (by kernel_rfl) (by kernel_rfl) rfl hm2 ?_
            go_simp
            refine anyH_take 14 (v := .bool true) rfl (by kernel_rfl) (by kernel_rfl) (by kernel_rfl) rfl (fun W _ => by go_simp) hm2 ?_
            go_simp
            refine wpAnyH_done (by kernel_rfl) ?_ _
            simp only [endsIn]
            have HB2 : Hid (Below w9.heap.size w9 wc) := below_next HB.out HB.out.size hm2.below
            go_wp2_with fail
            go_ret
            exact ⟨by rw [HU.out (), HNO.out ()]; rfl, (hm.call HB2.out).below⟩
        · have hkn : nb = k := by omega
          subst hkn
          have hki : ¬ (nb : Int) < (nb : Int) := by omega
          have HYE : Hid (∀ _ : Unit, (kb.map bs).isPrefixOf (ka.map bs) = true) := fun _ => pre_yes (HNnb.out ()) HT.out
          go_wp2_with fail
          go_ret
          exact ⟨by rw [HU.out (), HYE.out ()]; rfl, (hm.call HB.out).below⟩
end Go.Proofs.YtikmmheknfljkaaDoor
