/- The reference's Leaf. -/
import Derived.Test.YtnahflppggoplaaNdRefS
import Derived.Test.YtnahflppggoplaaNdLeaf
import Derived.Test.YtnahflppggoplaaNdReadL
namespace Go.Proofs.Ytnahflppggoplaa
open Go Go.RowKit
set_option maxRecDepth 100000 in
theorem own_row1 {w : World} {base g : Nat} {zs : List Int} (hr : Row w g (u8s zs) 5) (hb : base ≤ g) (hl : zs.length ≤ 1000) (n : Nat) (hn : zs.length = n) : OwnB 5 w base (.slice (some ⟨g, 0, none⟩) n n) zs := by
  subst hn
  exact ⟨by simp [u8s], Or.inr ⟨g, zs.length, (u8s zs).toArray, rfl, hb, hr, Nat.le_refl _, by unfold maxLen; omega, by simp [u8s], by rw [Nat.mul_one]; exact List.take_of_length_le (by simp [u8s])⟩⟩
set_option maxHeartbeats 6000000 in
set_option maxRecDepth 100000 in
theorem leafR_any (l : List (ByteArray × ByteArray)) (n : Nat) (v : Value) (hn : l.length = n) (hnl : n ≤ 1000) (w : World) (hv : SlP w v l) :
    Calls Try.prog 21 #[v] w fun e w' => ∃ v', e = .returned (.tuple #[v', .int .i64 (leafCode l)]) ∧ SlOld w' v' (leafOut l) ∧ Below w.heap.size w w' := by
  obtain ⟨p, cap, rfl, hcap⟩ := SlV.len hv
  have HV : Hid (SlP w (.slice p l.length cap) l) := hv
  have HN : Hid (l.length = n) := hn
  have H90 : Hid (okPairs l n = false → leafCode l = 90 ∧ leafOut l = []) := by
    intro h
    have h9 : leafCode l = 90 := by rw [leafCode, hn, if_pos h]
    exact ⟨h9, by rw [leafOut, h9]; rfl⟩
  rw [hn] at hcap HV ⊢
  clear hv hn
  go_enter Try.func21, Try.ntmps21
  go_wp2_with fail
  go_loopw [4, 5] (fun vk vi wr => ∃ k : Nat, k ≤ n ∧ vi = .int .i64 (k : Int) ∧ Hid (okVals l k = true) ∧ Hid (wr.ownsRow w.heap.size 9 1 vk k (strs ((l.take k).map Prod.fst))) ∧ Hid (Below w.heap.size w wr)) (fun _ vi _ => n - (intOf vi).toNat)
  case atStart => exact ⟨0, by omega, rfl, rfl, World.ownsRow_nil _ _ _ _, Below.refl _ _⟩
  case round =>
    obtain ⟨k, hk, rfl, HVA, HO, HW⟩ := hrel
    by_cases hlt : k < n
    · have hki : (k : Int) < (n : Int) := by omega
      have hk3 : k ≤ 100000 := by omega
      obtain ⟨b, off, hp⟩ := SlP.at HV.out HN.out (by omega)
      subst hp
      obtain ⟨c0, c1⟩ := SlP.cells HN.out (SlV.below HV.out HW.out) k hlt
      obtain ⟨kk, hkk⟩ : ∃ x, x = (l.getD k (noStr, noStr)).1 := ⟨_, rfl⟩
      obtain ⟨vv, hvv⟩ : ∃ x, x = (l.getD k (noStr, noStr)).2 := ⟨_, rfl⟩
      have HVN : Hid (okVals l (k + 1) = decide (vv.size ≤ 150)) := by show _ = _; rw [okVals, HVA.out, Bool.true_and, ← hvv]
      have HPN : Hid (strs ((l.take (k + 1)).map Prod.fst) = strs ((l.take k).map Prod.fst) ++ [.string kk]) := by
        show _ = _
        rw [take_snoc l k (noStr, noStr) (by rw [HN.out]; exact hlt), List.map_append, hkk]
        simp [strs]
      rw [← hkk] at c0
      rw [← hvv] at c1
      have hm := Mem.start wr
      clear hkk hvv
      by_cases h150 : 150 < vv.size
      · have h150i : (vv.size : Int) > 150 := by omega
        have h9 := H90.out (by rw [okPairs_two, okVals_le (show k + 1 ≤ n by omega) (by rw [HVN.out, decide_eq_false (by omega)])]; rfl)
        have HC9 : Hid (∀ _ : Unit, leafCode l = 90) := fun _ => h9.1
        have HO9 : Hid (∀ _ : Unit, leafOut l = []) := fun _ => h9.2
        clear h9 h150
        go_wp2_with (first
          | ((with_reducible refine at_op (some 16) (.indexAddr 24 (.tmp 14) (.tmp 15)) ?_); go_must (refine wpl_execG (.pointer (some ⟨b, off + k * 2, none⟩)) rfl (exec_ixP k rfl rfl rfl hlt) ?_)))
        have HBE := HW
        go_ret2
        exact ⟨_, by rw [HC9.out ()]; rfl, by rw [HO9.out ()]; exact ⟨none, 0, rfl, Nat.le_refl _, fun h => absurd h (by simp)⟩, HBE.out⟩
      · have h150i : ¬ (vv.size : Int) > 150 := by omega
        have HVT : Hid (okVals l (k + 1) = true) := by show _ = _; rw [HVN.out, decide_eq_true (by omega)]
        clear h150
        go_wp2_with (first
          | ((with_reducible refine at_op (some 16) (.indexAddr 24 (.tmp 14) (.tmp 15)) ?_); go_must (refine wpl_execG (.pointer (some ⟨b, off + k * 2, none⟩)) rfl (exec_ixP k rfl rfl rfl hlt) ?_))
          | ((with_reducible refine at_op (some 24) (.indexAddr 24 (.tmp 22) (.tmp 23)) ?_); go_must (refine wpl_execG (.pointer (some ⟨b, off + k * 2, none⟩)) rfl (exec_ixP k rfl rfl rfl hlt) ?_))
          | ((with_reducible refine at_op (some 27) (.buildSlice 30 1 #[(0, .tmp 26)]) ?_); go_must (refine wpl_bsl1 rfl (.string ByteArray.empty) (.string kk) un_strs info_str rfl rfl rfl hm ?_); clear hm; intro w8 g8 hb8 hm; clear hb8)
          | ((with_reducible refine at_op (some 28) (.call { callee := .builtin .append, args := #[.tmp 21, .tmp 27], argTypes := #[30, 30] }) ?_); go_must (refine wpl_appV (.string ByteArray.empty) 1 16 rfl un_strs made_str rfl (by omega) (by omega) (own_below HO.out hm.below) (Nat.le_trans HW.out.size hm.size) rfl rfl (hm.get 0 rfl) rfl (by simp [Value.oneCell']) hk3 ?_); intro v9 w9 ho9 hg9 hl9; have HX9 : Hid (w9.ownsRow w.heap.size 9 1 v9 (k + 1) (strs ((l.take k).map Prod.fst) ++ [.string kk])) := ho9; have HW9 : Hid (Below w.heap.size w w9) := below_grown (below_next HW.out HW.out.size hm.below) (Nat.le_trans HW.out.size hm.size) (own_below HO.out hm.below) hg9; clear ho9 hg9 hl9 hm))
        go_roundw
        case rel => exact ⟨k + 1, by omega, by go_num, HVT.out, by show World.ownsRow _ _ _ _ _ _ _; rw [HPN.out]; exact HX9.out, HW9.out⟩
        case measure => simp [intOf]; omega
    · have hkn : n = k := by omega
      subst hkn
      have hni : ¬ (n : Int) < (n : Int) := by omega
      have HT : Hid (l.take n = l) := by show _ = _; rw [List.take_of_length_le (by rw [HN.out]; exact Nat.le_refl _)]
      rw [HT.out] at HO
      have HML : Hid ((l.map Prod.fst).length = n) := by show _ = _; rw [List.length_map]; exact HN.out
      have HSS : Hid _ := ss_of (own_sl HO.out) HML.out
      have hm : Mem w [] wr [] := (Mem.start w).call HW.out
      have HPK : Hid (okPairs l n = okKeys (l.map Prod.fst) n) := by show _ = _; rw [okPairs_two, HVA.out, Bool.true_and]
      clear HO HW
      cases hok : okKeys (l.map Prod.fst) n with
      | false =>
        have HKO : Hid (∀ _ : Unit, okKeys (l.map Prod.fst) n = false) := fun _ => hok
        have h9 := H90.out (by rw [HPK.out, hok])
        have HC9 : Hid (∀ _ : Unit, leafCode l = 90) := fun _ => h9.1
        have HO9 : Hid (∀ _ : Unit, leafOut l = []) := fun _ => h9.2
        clear h9 hok
        go_wp2_with (first
          | (go_at_call 34; refine (keysR_any (l.map Prod.fst) n _ HML.out (by omega) _ HSS.out).mono ?_; rintro e w2 ⟨he, hb⟩; rw [HKO.out ()] at he; subst he; replace hm := hm.call hb; clear hb))
        have HBE : Hid (Below w.heap.size w w2) := hm.below
        go_ret2
        exact ⟨_, by rw [HC9.out ()]; rfl, by rw [HO9.out ()]; exact ⟨none, 0, rfl, Nat.le_refl _, fun h => absurd h (by simp)⟩, HBE.out⟩
      | true =>
        have HKO : Hid (∀ _ : Unit, okKeys (l.map Prod.fst) n = true) := fun _ => hok
        have hpk : okPairs l n = true := by rw [HPK.out, hok]
        obtain ⟨s, hs⟩ : ∃ s : Nat, s = min (szP l) 100000 := ⟨_, rfl⟩
        have HMS : Hid (∀ _ : Unit, min (szP l) 100000 = s) := fun _ => hs.symm
        by_cases h480 : 480 < szP l
        · have hsi : (s : Int) > 480 := by omega
          have hc : leafCode l = 11 := by rw [leafCode, HN.out, if_neg (by rw [hpk]; simp), if_pos h480]
          have HC9 : Hid (∀ _ : Unit, leafCode l = 11) := fun _ => hc
          have HO9 : Hid (∀ _ : Unit, leafOut l = []) := fun _ => by rw [leafOut, hc]; rfl
          clear hok hpk hs h480 hc
          go_wp2_with (first
            | (go_at_call 34; refine (keysR_any (l.map Prod.fst) n _ HML.out (by omega) _ HSS.out).mono ?_; rintro e w2 ⟨he, hb⟩; rw [HKO.out ()] at he; subst he; replace hm := hm.call hb; clear hb)
            | (go_at_call 35; refine (sizeR_any l n _ HN.out (by omega) _ (SlV.below HV.out hm.below)).mono ?_; rintro e w3 ⟨he, hb⟩; rw [HMS.out ()] at he; subst he; replace hm := hm.call hb; clear hb))
          have HBE : Hid (Below w.heap.size w w3) := hm.below
          go_ret2
          exact ⟨_, by rw [HC9.out ()]; rfl, by rw [HO9.out ()]; exact ⟨none, 0, rfl, Nat.le_refl _, fun h => absurd h (by simp)⟩, HBE.out⟩
        · have hsi : ¬ (s : Int) > 480 := by omega
          have hc : leafCode l = 0 := leafCode_of (by rw [HN.out]; exact hpk) (by omega)
          have HC0 : Hid (∀ _ : Unit, leafCode l = 0) := fun _ => hc
          have HO0 : Hid (∀ _ : Unit, leafOut l = leafB l) := fun _ => by rw [leafOut, if_pos hc]
          have h3 := szP_len l
          have hn6 : n ≤ 200 := by have := HN.out; omega
          have HNX : Hid (0 ≤ (n : Int) ∧ (n : Int) < 65536) := by show _ ∧ _; omega
          have HWU : IntKind.u64.wrap (n : Int) = (n : Int) := wrapU_of n (by omega)
          have HPS : Hid (∀ i, i < n → (l.getD i (noStr, noStr)).1.size ≤ 60 ∧ (l.getD i (noStr, noStr)).2.size ≤ 150) := fun i hi => pair_sizes (l := l) (by rw [HN.out]; exact hpk) i (by rw [HN.out]; exact hi)
          have HSZ : Hid (szP l ≤ 480) := by show _ ≤ _; omega
          clear hok hpk hs h480 hc h3
          go_wp2_with (first
            | (go_at_call 34; refine (keysR_any (l.map Prod.fst) n _ HML.out (by omega) _ HSS.out).mono ?_; rintro e w2 ⟨he, hb⟩; rw [HKO.out ()] at he; subst he; replace hm := hm.call hb; clear hb)
            | (go_at_call 35; refine (sizeR_any l n _ HN.out (by omega) _ (SlV.below HV.out hm.below)).mono ?_; rintro e w3 ⟨he, hb⟩; rw [HMS.out ()] at he; subst he; replace hm := hm.call hb; clear hb)
            | ((with_reducible refine at_op (some 35) (.buildSlice 22 1 #[(0, .const (.int .u8 1))]) ?_); go_must (refine wpl_bsl1 rfl (.int .u8 0) (.int .u8 1) un_bs info_u8 rfl rfl rfl hm ?_); clear hm; intro w4 g4 hb4 hm; have HX4 : Hid (OwnB 5 w4 w.heap.size (.slice (some ⟨g4, 0, none⟩) 1 1) [1]) := own_row1 (hm.get 0 rfl) (by have h9 := hm.fresh _ (List.mem_cons_self ..); simpa using h9) (by simp) 1 rfl; have HB4 : Hid (Below w.heap.size w w4) := hm.below; clear hb4 hm)
            | (go_at_call 36; refine (putR2_any _ [1] (n : Int) HNX.out w.heap.size _ HX4.out HB4.out.size (by simp)).mono ?_; rintro e w5 ⟨v5, rfl, ho, hg, hl5⟩; have HX5 : Hid (OwnB 5 w5 w.heap.size v5 ([1] ++ be2 (n : Int))) := ho; have HB5 : Hid (Below w.heap.size w w5) := below_grown HB4.out HB4.out.size HX4.out hg; clear ho hg hl5))
          go_loopw [6, 7] (fun va vi wx => ∃ (k : Nat) (vb : Value), k ≤ n ∧ vi = .int .i64 (k : Int) ∧ vb = va ∧ Hid (OwnB 5 wx w.heap.size vb ([1] ++ be2 (n : Int) ++ texts (l.take k))) ∧ Hid (Below w.heap.size w wx)) (fun _ vi _ => n - (intOf vi).toNat)
          case atStart => exact ⟨0, _, by omega, rfl, rfl, by show OwnB _ _ _ _ _; simpa [texts] using HX5.out, HB5.out⟩
          case round =>
            clear HX5 HB5 HX4 HB4
            obtain ⟨k, vb, hk, rfl, hvb, HO, HB⟩ := hrel
            subst hvb
            by_cases hlt : k < n
            · have hki : (k : Int) < (n : Int) := by omega
              obtain ⟨b, off, hp⟩ := SlP.at HV.out HN.out (by omega)
              subst hp
              obtain ⟨hs1, hs2⟩ := HPS.out k hlt
              obtain ⟨kk, hkk⟩ : ∃ x, x = (l.getD k (noStr, noStr)).1 := ⟨_, rfl⟩
              obtain ⟨vv, hvv⟩ : ∃ x, x = (l.getD k (noStr, noStr)).2 := ⟨_, rfl⟩
              have HC : Hid (∀ W, Below w.heap.size w W → W.cell? ⟨b, off + k * 2, none⟩ = some (.string kk) ∧ W.cell? ⟨b, off + k * 2 + 1, none⟩ = some (.string vv)) := by
                intro W hW
                rw [hkk, hvv]
                exact SlP.cells HN.out (SlV.below HV.out hW) k hlt
              have HTX : Hid (texts (l.take (k + 1)) = texts (l.take k) ++ (textB kk ++ textB vv)) := by
                show _ = _
                rw [take_snoc l k (noStr, noStr) (by rw [HN.out]; exact hlt), texts_append, texts_one, hkk, hvv]
              rw [← hkk] at hs1
              rw [← hvv] at hs2
              have HKS : Hid (kk.size ≤ 300) := by show _ ≤ _; omega
              have HVS : Hid (vv.size ≤ 300) := by show _ ≤ _; omega
              obtain ⟨Z, hZ⟩ : ∃ Z, Z = [1] ++ be2 (n : Int) ++ texts (l.take k) := ⟨_, rfl⟩
              have hzl : Z.length ≤ 480 := by
                have h1 := texts_length (l.take k)
                have h2 := szP_take_le l k
                have h3 := HSZ.out
                rw [hZ]
                simp only [List.length_append, be2_length, List.length_cons, List.length_nil]
                omega
              have HZL : Hid (Z.length ≤ 900000) := by show _ ≤ _; omega
              have HZ2 : Hid ((Z ++ textB kk).length ≤ 900000) := by show _ ≤ _; rw [List.length_append, textB_length]; omega
              have HZN : Hid (∀ _ : Unit, [1] ++ be2 (n : Int) ++ texts (l.take (k + 1)) = Z ++ textB kk ++ textB vv) := fun _ => by rw [HTX.out, hZ]; simp only [List.append_assoc]
              rw [← hZ] at HO
              have hm := Mem.start wr
              clear hkk hvv hs1 hs2 hZ hzl HTX
              go_wp2_with fail
              refine wp_ends0 ?_
              refine anyH_start (T := fun W => Below w.heap.size w W) (by kernel_rfl) hm ?_
              clear hm
              intro wq hm
              refine anyH_take 0 (v := vb) rfl (by kernel_rfl) (by kernel_rfl) (by kernel_rfl) rfl (fun W _ => by go_simp) (below_next HB.out HB.out.size hm.below) ?_
              go_simp
              refine anyH_take 1 (v := .slice (some ⟨b, off, none⟩) n cap) rfl (by kernel_rfl) (by kernel_rfl) (by kernel_rfl) rfl (fun W _ => by go_simp) (below_next HB.out HB.out.size hm.below) ?_
              go_simp
              refine anyH_take 2 (v := .int .i64 (k : Int)) rfl (by kernel_rfl) (by kernel_rfl) (by kernel_rfl) rfl (fun W _ => by go_simp) (below_next HB.out HB.out.size hm.below) ?_
              go_simp
              refine anyH_take 3 (v := .pointer (some ⟨b, off + k * 2, none⟩)) rfl (by kernel_rfl) (by kernel_rfl) (by kernel_rfl) rfl (fun W _ => exec_ixP k rfl rfl rfl hlt) (below_next HB.out HB.out.size hm.below) ?_
              go_simp
              refine anyH_take 4 (v := .pointer (some ⟨b, off + k * 2, none⟩)) rfl (by kernel_rfl) (by kernel_rfl) (by kernel_rfl) rfl (fun W _ => by go_simp) (below_next HB.out HB.out.size hm.below) ?_
              go_simp
              refine anyH_take 5 (v := .string kk) rfl (by kernel_rfl) (by kernel_rfl) (by kernel_rfl) rfl (fun W hW => exec_ldx _ (HC.out W hW).1 rfl ag_str) (below_next HB.out HB.out.size hm.below) ?_
              go_simp
              refine anyH_take 7 (v := .slice (some ⟨b, off, none⟩) n cap) rfl (by kernel_rfl) (by kernel_rfl) (by kernel_rfl) rfl (fun W _ => by go_simp) (below_next HB.out HB.out.size hm.below) ?_
              go_simp
              refine anyH_take 8 (v := .int .i64 (k : Int)) rfl (by kernel_rfl) (by kernel_rfl) (by kernel_rfl) rfl (fun W _ => by go_simp) (below_next HB.out HB.out.size hm.below) ?_
              go_simp
              refine anyH_take 9 (v := .pointer (some ⟨b, off + k * 2, none⟩)) rfl (by kernel_rfl) (by kernel_rfl) (by kernel_rfl) rfl (fun W _ => exec_ixP k rfl rfl rfl hlt) (below_next HB.out HB.out.size hm.below) ?_
              go_simp
              refine anyH_take 10 (v := .pointer (some ⟨b, off + k * 2 + 1, none⟩)) rfl (by kernel_rfl) (by kernel_rfl) (by kernel_rfl) rfl (fun W _ => by go_simp) (below_next HB.out HB.out.size hm.below) ?_
              go_simp
              refine anyH_take 11 (v := .string vv) rfl (by kernel_rfl) (by kernel_rfl) (by kernel_rfl) rfl (fun W hW => exec_ldx _ (HC.out W hW).2 rfl ag_str) (below_next HB.out HB.out.size hm.below) ?_
              go_simp
              refine wpAnyH_all (rs := [6]) (by kernel_rfl) (by simp) ?_
              intro i hi
              simp only [List.mem_cons, List.not_mem_nil, or_false] at hi
              subst hi
              refine anyH_opW 6 rfl rfl ?_
              intro K hK
              go_wp2_with (go_at_call 37; refine (textR_any _ Z kk HKS.out w.heap.size _ (OwnB.below HO.out hm.below) (Nat.le_trans HB.out.size hm.size) HZL.out).mono ?_; rintro e w7 ⟨v7, rfl, ho, hg⟩; have HX7 : Hid (OwnB 5 w7 w.heap.size v7 (Z ++ textB kk)) := ho; have HB7 : Hid (Below w.heap.size w w7) := below_grown (below_next HB.out HB.out.size hm.below) (Nat.le_trans HB.out.size hm.size) (OwnB.below HO.out hm.below) hg; clear ho hg hm)
              refine hK _ _ HB7.out ?_
              clear hK K
              go_simp
              refine wpAnyH_all (rs := [12]) (by kernel_rfl) (by simp) ?_
              intro i hi
              simp only [List.mem_cons, List.not_mem_nil, or_false] at hi
              subst hi
              refine anyH_opW 12 rfl rfl ?_
              intro K hK
              go_wp2_with (go_at_call 37; refine (textR_any _ (Z ++ textB kk) vv HVS.out w.heap.size _ HX7.out HB7.out.size HZ2.out).mono ?_; rintro e w8 ⟨v8, rfl, ho, hg⟩; have HX8 : Hid (OwnB 5 w8 w.heap.size v8 (Z ++ textB kk ++ textB vv)) := ho; have HB8 : Hid (Below w.heap.size w w8) := below_grown HB7.out HB7.out.size HX7.out hg; clear ho hg)
              refine hK _ _ HB8.out ?_
              clear hK K
              go_simp
              refine anyH_take 13 (v := v8) rfl (by kernel_rfl) (by kernel_rfl) (by kernel_rfl) rfl (fun W _ => by go_simp) (HB8.out) ?_
              go_simp
              refine wpAnyH_done (by kernel_rfl) ?_ _
              simp only [endsIn]
              go_wp2_with fail
              go_roundw
              case rel => exact ⟨k + 1, _, by omega, by go_num, rfl, by show OwnB _ _ _ _ _; rw [HZN.out ()]; exact HX8.out, HB8.out⟩
              case measure => simp [intOf]; omega
            · have hkn : n = k := by omega
              subst hkn
              have hni : ¬ (n : Int) < (n : Int) := by omega
              rw [HT.out] at HO
              have HLB : Hid (∀ _ : Unit, leafB l = [1] ++ be2 (n : Int) ++ texts l) := fun _ => by rw [leafB, HN.out]
              go_wp2_with fail
              go_ret2
              exact ⟨_, by rw [HC0.out ()]; rfl, by rw [HO0.out (), HLB.out ()]; exact HO.out.old, HB.out⟩
end Go.Proofs.Ytnahflppggoplaa
