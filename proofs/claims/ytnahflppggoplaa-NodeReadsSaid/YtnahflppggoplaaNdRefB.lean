/- The reference's Branch. -/
import Derived.Test.YtnahflppggoplaaNdRefL
import Derived.Test.YtnahflppggoplaaNdBranch
namespace Go.Proofs.Ytnahflppggoplaa
open Go Go.RowKit
set_option maxRecDepth 100000 in
theorem wrapz1 (m : Nat) (h : m ≤ 2000) : IntKind.i64.wrap ((m : Int) - 1) = (m : Int) - 1 := by
  simp [IntKind.wrap, IntKind.bits, IntKind.signed]
  split <;> omega
set_option maxRecDepth 100000 in
theorem ownB_len {w : World} {base : Nat} {v : Value} {zs : List Int} (h : OwnB 5 w base v zs) (n : Nat) (hn : zs.length = n) : ∃ p c, v = .slice p n c := by
  subst hn
  obtain ⟨p, c, hv, _⟩ := h.old
  exact ⟨p, c, hv⟩
set_option maxHeartbeats 1000000 in
set_option maxRecDepth 100000 in
theorem brR_none (ks : List ByteArray) (kids : List Int) (n m cap cap2 : Nat) (p q : Option Addr) (_hn : ks.length = n) (hnl : n ≤ 1000) (_hkl : kids.length = m) (_hml : m ≤ 2000) (h : n < 1) (w : World) (_hu : SlS w (.slice p n cap) ks) :
    Calls Try.prog 23 #[.slice p n cap, .slice q m cap2] w fun e w' => e = .returned (.tuple #[.slice none 0 0, .int .i64 90]) ∧ Below w.heap.size w w' := by
  have hi : (n : Int) < 1 := by omega
  clear _hu _hn _hkl _hml
  go_enter Try.func23, Try.ntmps23
  go_wp2_with fail
  go_ret2
  exact ⟨rfl, Below.refl _ _⟩
set_option maxHeartbeats 1000000 in
set_option maxRecDepth 100000 in
theorem brR_kids (ks : List ByteArray) (kids : List Int) (n m cap cap2 : Nat) (p q : Option Addr) (_hn : ks.length = n) (hnl : n ≤ 1000) (_hkl : kids.length = m) (hml : m ≤ 2000) (h : ¬ n < 1) (h2 : ¬ m = n + 1) (w : World) (_hu : SlS w (.slice p n cap) ks) :
    Calls Try.prog 23 #[.slice p n cap, .slice q m cap2] w fun e w' => e = .returned (.tuple #[.slice none 0 0, .int .i64 90]) ∧ Below w.heap.size w w' := by
  have hi : ¬ (n : Int) < 1 := by omega
  have HW1 : IntKind.i64.wrap ((m : Int) - 1) = (m : Int) - 1 := wrapz1 m hml
  have hne : ((m : Int) - 1 != (n : Int)) = true := by simp; omega
  clear _hu _hn _hkl h2
  go_enter Try.func23, Try.ntmps23
  go_wp2_with fail
  go_ret2
  exact ⟨rfl, Below.refl _ _⟩
set_option maxHeartbeats 1000000 in
set_option maxRecDepth 100000 in
theorem brR_keys (ks : List ByteArray) (kids : List Int) (n m cap cap2 : Nat) (p q : Option Addr) (hn : ks.length = n) (hnl : n ≤ 1000) (_hkl : kids.length = m) (hml : m ≤ 2000) (h : ¬ n < 1) (h2 : m = n + 1) (hok : okKeys ks n = false) (w : World) (hu : SlS w (.slice p n cap) ks) :
    Calls Try.prog 23 #[.slice p n cap, .slice q m cap2] w fun e w' => e = .returned (.tuple #[.slice none 0 0, .int .i64 90]) ∧ Below w.heap.size w w' := by
  have hi : ¬ (n : Int) < 1 := by omega
  have HW1 : IntKind.i64.wrap ((m : Int) - 1) = (n : Int) := by rw [wrapz1 m hml]; omega
  have HU : Hid (SlS w (.slice p n cap) ks) := hu
  have HN : Hid (ks.length = n) := hn
  have hm := Mem.start w
  have HKO : Hid (∀ _ : Unit, okKeys ks n = false) := fun _ => hok
  clear hu hn _hkl h2 hok
  go_enter Try.func23, Try.ntmps23
  go_wp2_with (first
    | (go_at_call 34; refine (keysR_any ks n _ HN.out (by omega) _ HU.out).mono ?_; rintro e w2 ⟨he, hb⟩; rw [HKO.out ()] at he; subst he; replace hm := hm.call hb; clear hb))
  go_ret2
  exact ⟨rfl, hm.below⟩
set_option maxHeartbeats 3000000 in
set_option maxRecDepth 100000 in
theorem brR_rest (ks : List ByteArray) (kids : List Int) (n m cap cap2 : Nat) (p q : Option Addr) (hn : ks.length = n) (hnl : n ≤ 1000) (hkl : kids.length = m) (hml : m ≤ 2000) (h : ¬ n < 1) (h2 : m = n + 1) (hok : okKeys ks n = true) (hkb : ∀ x ∈ kids, 0 ≤ x ∧ x < 4294967296) (w : World) (hv : SlU w (.slice q m cap2) kids) (hu : SlS w (.slice p n cap) ks) :
    Calls Try.prog 23 #[.slice p n cap, .slice q m cap2] w fun e w' => ∃ v', e = .returned (.tuple #[v', .int .i64 (branchCode ks m)]) ∧ SlOld w' v' (branchOut ks kids) ∧ Below w.heap.size w w' := by
  have hi : ¬ (n : Int) < 1 := by omega
  have HW1 : IntKind.i64.wrap ((m : Int) - 1) = (n : Int) := by rw [wrapz1 m hml]; omega
  have HU : Hid (SlS w (.slice p n cap) ks) := hu
  have HN : Hid (ks.length = n) := hn
  have hm := Mem.start w
  have HKO : Hid (∀ _ : Unit, okKeys ks n = true) := fun _ => hok
  have HV : Hid (SlU w (.slice q m cap2) kids) := hv
  have HKL : Hid (kids.length = m) := hkl
  have HKB : Hid (∀ x ∈ kids, 0 ≤ x ∧ x < 4294967296) := hkb
  have HNX : Hid (0 ≤ (n : Int) ∧ (n : Int) < 65536) := by show _ ∧ _; omega
  have HWU : IntKind.u64.wrap (n : Int) = (n : Int) := wrapU_of n (by omega)
  have HKS0 : Hid (∀ i, i < n → (ks.getD i noStr).size ≤ 60) := fun i hi => key_size (by rw [hn]; exact hok) i (by omega)
  have hbr : okBr ks m = true := by
    unfold okBr
    rw [hn, hok, decide_eq_true (show ¬ n = 0 by omega), decide_eq_true h2]
    rfl
  have H11 : Hid (480 < 3 + 4 * m + ksz ks → branchCode ks m = 11 ∧ branchOut ks kids = []) := by
    intro h9
    have h8 : branchCode ks m = 11 := by rw [branchCode, if_neg (by rw [hbr]; simp), if_pos (show 480 < szB ks m from h9)]
    exact ⟨h8, by rw [branchOut, hkl, h8]; rfl⟩
  have H00 : Hid (¬ 480 < 3 + 4 * m + ksz ks → branchCode ks m = 0 ∧ branchOut ks kids = branchB ks kids) := by
    intro h9
    have h8 : branchCode ks m = 0 := by rw [branchCode, if_neg (by rw [hbr]; simp), if_neg (show ¬ 480 < szB ks m from h9)]
    exact ⟨h8, by rw [branchOut, hkl, h8]; rfl⟩
  clear hu hv hn hkl h2 hok hkb hbr
  go_enter Try.func23, Try.ntmps23
  go_wp2_with (first
    | (go_at_call 34; refine (keysR_any ks n _ HN.out (by omega) _ HU.out).mono ?_; rintro e w2 ⟨he, hb⟩; rw [HKO.out ()] at he; subst he; replace hm := hm.call hb; clear hb)
    | ((with_reducible refine at_op (some 25) (.buildSlice 22 1 #[(0, .const (.int .u8 2))]) ?_); go_must (refine wpl_bsl1 rfl (.int .u8 0) (.int .u8 2) un_bs info_u8 rfl rfl rfl hm ?_); clear hm; intro w4 g4 hb4 hm; have HX4 : Hid (OwnB 5 w4 w.heap.size (.slice (some ⟨g4, 0, none⟩) 1 1) [2]) := own_row1 (hm.get 0 rfl) (by have h9 := hm.fresh _ (List.mem_cons_self ..); simpa using h9) (by simp) 1 rfl; have HB4 : Hid (Below w.heap.size w w4) := hm.below; clear hb4 hm)
    | (go_at_call 36; refine (putR2_any _ [2] (n : Int) HNX.out w.heap.size _ HX4.out HB4.out.size (by simp)).mono ?_; rintro e w5 ⟨v5, rfl, ho, hg, hl5⟩; have HX5 : Hid (OwnB 5 w5 w.heap.size v5 ([2] ++ be2 (n : Int))) := ho; have HB5 : Hid (Below w.heap.size w w5) := below_grown HB4.out HB4.out.size HX4.out hg; clear ho hg hl5))
  go_loopw [6, 7] (fun va vi wx => ∃ (k : Nat) (vb : Value), k ≤ n ∧ vi = .int .i64 (k : Int) ∧ vb = va ∧ Hid (3 + ksz (ks.take k) ≤ 480) ∧ Hid (OwnB 5 wx w.heap.size vb ([2] ++ be2 (n : Int) ++ keysB (ks.take k))) ∧ Hid (Below w.heap.size w wx)) (fun _ vi _ => n - (intOf vi).toNat)
  case atStart => exact ⟨0, _, by omega, rfl, rfl, by show _ ≤ _; simp [ksz], by show OwnB _ _ _ _ _; simpa [keysB] using HX5.out, HB5.out⟩
  case round =>
    clear HX5 HB5 HX4 HB4
    obtain ⟨k, vb, hk, rfl, hvb, HLK, HO, HB⟩ := hrel
    subst hvb
    by_cases hlt : k < n
    · have hki : (k : Int) < (n : Int) := by omega
      obtain ⟨b, off, hp⟩ := SlS.at HU.out HN.out (by omega)
      subst hp
      have c0 := SlS.cells HN.out (SlV.below HU.out HB.out) k hlt
      have hs1 := HKS0.out k hlt
      obtain ⟨kk, hkk⟩ : ∃ x, x = ks.getD k noStr := ⟨_, rfl⟩
      have hkt := ksz_take ks k (by rw [HN.out]; exact hlt)
      have hle := ksz_take_le ks (k + 1)
      rw [← hkk] at c0 hs1 hkt
      have hl1 := HLK.out
      obtain ⟨Z, hZ⟩ : ∃ Z, Z = [2] ++ be2 (n : Int) ++ keysB (ks.take k) := ⟨_, rfl⟩
      have hzl : Z.length = 3 + ksz (ks.take k) := by
        rw [hZ]
        simp only [List.length_append, be2_length, List.length_cons, List.length_nil, keysB_length]
      obtain ⟨S, hS⟩ : ∃ S : Nat, S = 3 + ksz (ks.take (k + 1)) := ⟨_, rfl⟩
      have HSL : Hid ((Z ++ textB kk).length = S) := by show _ = _; rw [List.length_append, textB_length]; omega
      have HKS : Hid (kk.size ≤ 300) := by show _ ≤ _; omega
      have HZL : Hid (Z.length ≤ 900000) := by show _ ≤ _; omega
      have HZN : Hid (∀ _ : Unit, [2] ++ be2 (n : Int) ++ keysB (ks.take (k + 1)) = Z ++ textB kk) := fun _ => by
        rw [take_snoc ks k noStr (by rw [HN.out]; exact hlt), keysB_append, keysB_one, ← hkk, hZ]
        simp only [List.append_assoc]
      rw [← hZ] at HO
      by_cases hbig : 480 < S
      · have hbi : (S : Int) > 480 := by omega
        have h9 := H11.out (by omega)
        have HC9 : Hid (∀ _ : Unit, branchCode ks m = 11) := fun _ => h9.1
        have HO9 : Hid (∀ _ : Unit, branchOut ks kids = []) := fun _ => h9.2
        clear hs1 hkk hkt hle hl1 hZ hzl hS hbig h9
        go_wp2_with (first
          | (go_at_call 37; refine (textR_any _ Z kk HKS.out w.heap.size _ HO.out HB.out.size HZL.out).mono ?_; rintro e w7 ⟨v7, rfl, ho, hg⟩; have HX7 : Hid (OwnB 5 w7 w.heap.size v7 (Z ++ textB kk)) := ho; have HB7 : Hid (Below w.heap.size w w7) := below_grown HB.out HB.out.size HO.out hg; obtain ⟨p7, c7, hv7⟩ := ownB_len ho S HSL.out; subst hv7; clear ho hg))
        go_ret2
        exact ⟨_, by rw [HC9.out ()]; rfl, by rw [HO9.out ()]; exact ⟨none, 0, rfl, Nat.le_refl _, fun h => absurd h (by simp)⟩, HB7.out⟩
      · have hbi : ¬ (S : Int) > 480 := by omega
        have HLK2 : Hid (3 + ksz (ks.take (k + 1)) ≤ 480) := by show _ ≤ _; omega
        clear hs1 hkk hkt hle hl1 hZ hzl hS hbig
        go_wp2_with (first
          | (go_at_call 37; refine (textR_any _ Z kk HKS.out w.heap.size _ HO.out HB.out.size HZL.out).mono ?_; rintro e w7 ⟨v7, rfl, ho, hg⟩; have HX7 : Hid (OwnB 5 w7 w.heap.size v7 (Z ++ textB kk)) := ho; have HB7 : Hid (Below w.heap.size w w7) := below_grown HB.out HB.out.size HO.out hg; obtain ⟨p7, c7, hv7⟩ := ownB_len ho S HSL.out; subst hv7; clear ho hg))
        go_roundw
        case rel => exact ⟨k + 1, _, by omega, by go_num, rfl, HLK2.out, by show OwnB _ _ _ _ _; rw [HZN.out ()]; exact HX7.out, HB7.out⟩
        case measure => simp [intOf]; omega
    · have hkn : n = k := by omega
      subst hkn
      have hni : ¬ (n : Int) < (n : Int) := by omega
      have HT : Hid (ks.take n = ks) := by show _ = _; rw [List.take_of_length_le (by rw [HN.out]; exact Nat.le_refl _)]
      rw [HT.out] at HO HLK
      have HXK : Hid (OwnB 5 wr w.heap.size vb ([2] ++ be2 (n : Int) ++ keysB ks ++ kidsB (kids.take 0))) := by show OwnB _ _ _ _ _; simpa [kidsB] using HO.out
      have HBK : Hid (Below w.heap.size w wr) := HB.out
      clear HO HB
      go_wp2_with fail
      go_loopw [6, 8] (fun va vi wx => ∃ (j : Nat) (vc : Value), j ≤ m ∧ vi = .int .i64 (j : Int) ∧ vc = va ∧ Hid (OwnB 5 wx w.heap.size vc ([2] ++ be2 (n : Int) ++ keysB ks ++ kidsB (kids.take j))) ∧ Hid (Below w.heap.size w wx)) (fun _ vi _ => m - (intOf vi).toNat)
      case atStart => exact ⟨0, _, by omega, rfl, rfl, HXK.out, HBK.out⟩
      case round =>
        clear HXK HBK
        obtain ⟨j, vc, hj, rfl, hvc, HO, HB⟩ := hrel
        subst hvc
        obtain ⟨Z, hZ⟩ : ∃ Z, Z = [2] ++ be2 (n : Int) ++ keysB ks ++ kidsB (kids.take j) := ⟨_, rfl⟩
        have hzl : Z.length = 3 + ksz ks + 4 * (min j m) := by
          rw [hZ]
          simp only [List.length_append, be2_length, List.length_cons, List.length_nil, keysB_length, kidsB_length, List.length_take, HKL.out]
        by_cases hlt : j < m
        · have hji : (j : Int) < (m : Int) := by omega
          obtain ⟨b, off, hp⟩ := SlU.at HV.out HKL.out (by omega)
          subst hp
          have c0 := SlU.cells HKL.out (SlV.below HV.out HB.out) j hlt
          have hmem : kids.getD j 0 ∈ kids := by
            have h9 := HKL.out
            simp [show j < kids.length by omega]
          obtain ⟨hx0, hx1⟩ := HKB.out _ hmem
          obtain ⟨x, hx⟩ : ∃ x, x = kids.getD j 0 := ⟨_, rfl⟩
          have HZN : Hid (∀ _ : Unit, [2] ++ be2 (n : Int) ++ keysB ks ++ kidsB (kids.take (j + 1)) = Z ++ be4 x) := fun _ => by
            rw [take_snoc kids j 0 (by rw [HKL.out]; exact hlt), kidsB_append, kidsB_one, ← hx, hZ]
            simp only [List.append_assoc]
          rw [← hx] at c0 hx0 hx1
          have HWX : IntKind.u64.wrap x = x := by simp [IntKind.wrap, IntKind.signed, IntKind.bits]; omega
          have HXB : Hid (0 ≤ x ∧ x < 4294967296) := ⟨hx0, hx1⟩
          have hl1 := HLK.out
          have HZL : Hid (Z.length ≤ 1000000) := by show _ ≤ _; omega
          rw [← hZ] at HO
          clear hx hmem hl1 hzl hZ
          go_wp2_with (first
            | (go_at_call 36; refine (putR4_any _ Z x HXB.out w.heap.size _ HO.out HB.out.size HZL.out).mono ?_; rintro e w7 ⟨v7, rfl, ho, hg, hl7⟩; have HX7 : Hid (OwnB 5 w7 w.heap.size v7 (Z ++ be4 x)) := ho; have HB7 : Hid (Below w.heap.size w w7) := below_grown HB.out HB.out.size HO.out hg; clear ho hg hl7))
          go_roundw
          case rel => exact ⟨j + 1, _, by omega, by go_num, rfl, by show OwnB _ _ _ _ _; rw [HZN.out ()]; exact HX7.out, HB7.out⟩
          case measure => simp [intOf]; omega
        · have hjm : m = j := by omega
          subst hjm
          have hnj : ¬ (m : Int) < (m : Int) := by omega
          have HZB : Hid (∀ _ : Unit, branchB ks kids = Z) := fun _ => by
            rw [hZ, List.take_of_length_le (by rw [HKL.out]; exact Nat.le_refl _), branchB, HN.out]
          rw [← hZ] at HO
          obtain ⟨S, hS⟩ : ∃ S : Nat, S = 3 + ksz ks + 4 * m := ⟨_, rfl⟩
          obtain ⟨p7, c7, hv7⟩ := ownB_len HO.out S (by omega)
          subst hv7
          by_cases hbig : 480 < S
          · have hbi : (S : Int) > 480 := by omega
            have h9 := H11.out (by omega)
            have HC9 : Hid (∀ _ : Unit, branchCode ks m = 11) := fun _ => h9.1
            have HO9 : Hid (∀ _ : Unit, branchOut ks kids = []) := fun _ => h9.2
            clear hzl hZ hS hbig h9
            go_wp2_with fail
            go_ret2
            exact ⟨_, by rw [HC9.out ()]; rfl, by rw [HO9.out ()]; exact ⟨none, 0, rfl, Nat.le_refl _, fun h => absurd h (by simp)⟩, HB.out⟩
          · have hbi : ¬ (S : Int) > 480 := by omega
            have h9 := H00.out (by omega)
            have HC9 : Hid (∀ _ : Unit, branchCode ks m = 0) := fun _ => h9.1
            have HO9 : Hid (∀ _ : Unit, branchOut ks kids = branchB ks kids) := fun _ => h9.2
            clear hzl hZ hS hbig h9
            go_wp2_with fail
            go_ret2
            exact ⟨_, by rw [HC9.out ()]; rfl, by rw [HO9.out (), HZB.out ()]; exact HO.out.old, HB.out⟩
set_option maxRecDepth 100000 in
theorem branchR_any (ks : List ByteArray) (kids : List Int) (u v : Value) (hnl : ks.length ≤ 1000) (hml : kids.length ≤ 2000) (hkb : ∀ x ∈ kids, 0 ≤ x ∧ x < 4294967296) (w : World) (hu : SlS w u ks) (hv : SlU w v kids) :
    Calls Try.prog 23 #[u, v] w fun e w' => ∃ v', e = .returned (.tuple #[v', .int .i64 (branchCode ks kids.length)]) ∧ SlOld w' v' (branchOut ks kids) ∧ Below w.heap.size w w' := by
  obtain ⟨p, cap, rfl, _⟩ := SlV.len hu
  obtain ⟨q, cap2, rfl, _⟩ := SlV.len hv
  have bad : okBr ks kids.length = false → ∀ (e : Ending) (w' : World), (e = .returned (.tuple #[.slice none 0 0, .int .i64 90]) ∧ Below w.heap.size w w') → ∃ v', e = .returned (.tuple #[v', .int .i64 (branchCode ks kids.length)]) ∧ SlOld w' v' (branchOut ks kids) ∧ Below w.heap.size w w' := by
    intro hok e w' ⟨he, hb⟩
    have hc : branchCode ks kids.length = 90 := by rw [branchCode, if_pos hok]
    refine ⟨_, by rw [hc]; exact he, ?_, hb⟩
    rw [branchOut, hc, if_neg (by decide)]
    exact ⟨none, 0, rfl, Nat.le_refl _, fun h => absurd h (by simp)⟩
  by_cases h : ks.length < 1
  · exact (brR_none ks kids _ _ cap cap2 p q rfl hnl rfl hml h w hu).mono (bad (by unfold okBr; rw [decide_eq_false (show ¬ ks.length ≠ 0 by omega)]; rfl))
  · by_cases h2 : kids.length = ks.length + 1
    · cases hok : okKeys ks ks.length with
      | false => exact (brR_keys ks kids _ _ cap cap2 p q rfl hnl rfl hml h h2 hok w hu).mono (bad (by unfold okBr; rw [hok]; simp))
      | true => exact brR_rest ks kids _ _ cap cap2 p q rfl hnl rfl hml h h2 hok hkb w hv hu
    · exact (brR_kids ks kids _ _ cap cap2 p q rfl hnl rfl hml h h2 w hu).mono (bad (by unfold okBr; rw [decide_eq_false h2]; simp))
end Go.Proofs.Ytnahflppggoplaa
