/- The walk of the law TermBuilt, where the number has one digit. -/
import Derived.Test.YtbiinchmbclmcaaDoorTmBl
namespace Go.Proofs.YtbiinchmbclmcaaDoor
open Go Go.RowKit
theorem un_u8ss : Tryd.prog.underlying 31 = some (.slice 5) := Tryd.underlying31
set_option maxHeartbeats 32000000 in
set_option maxRecDepth 100000 in
theorem tbuilt_s_w (ta tb : Tm) (sa sb : Value) (n : Int) (Wa : World) (ca cb k : Nat) (la lb ld s1 s2 s3 s4 p1 p2 p3 p4 d1 d2 d3 d4 : List UInt8) (c1' : Int) (HKN : Hid (∀ w, Below Wa.heap.size Wa w → Calls Tryd.prog 5 #[] w fun e w' => e = .returned (.bool true) ∧ Below w.heap.size w w')) (HFA : Hid (∀ w, Below Wa.heap.size Wa w → Calls Tryd.prog 6 #[.agg (tcs ta sa).toArray] w fun e w' => e = .returned (.bool true) ∧ Below w.heap.size w w')) (HFB : Hid (∀ w, Below Wa.heap.size Wa w → Calls Tryd.prog 6 #[.agg (tcs tb sb).toArray] w fun e w' => e = .returned (.bool true) ∧ Below w.heap.size w w')) (HIA : Hid (∀ w, Below Wa.heap.size Wa w → Calls Tryd.prog 7 #[.agg (tcs ta sa).toArray] w fun e w' => e = .returned (.bool true) ∧ Below w.heap.size w w')) (HIB : Hid (∀ w, Below Wa.heap.size Wa w → Calls Tryd.prog 7 #[.agg (tcs tb sb).toArray] w fun e w' => e = .returned (.bool true) ∧ Below w.heap.size w w')) (HCA : Hid (∀ w, Below Wa.heap.size Wa w → Calls Tryd.prog 10 #[.agg (tcs ta sa).toArray] w fun e w' => e = .returned (.int .i64 (ca : Int)) ∧ Below w.heap.size w w')) (HCB : Hid (∀ w, Below Wa.heap.size Wa w → Calls Tryd.prog 10 #[.agg (tcs tb sb).toArray] w fun e w' => e = .returned (.int .i64 (cb : Int)) ∧ Below w.heap.size w w')) (HCS : Hid (IntKind.i64.wrap ((ca : Int) + (cb : Int)) = (ca : Int) + (cb : Int))) (HCC : Hid ((ca : Int) + (cb : Int) ≤ 59)) (HSA : Hid (SlT (fun _ => True) Wa sa ta.l)) (HSB : Hid (SlT (fun _ => True) Wa sb tb.l)) (HTA : Hid (cnt ta ≤ 60 ∧ cnt tb ≤ 60)) (HPA : Hid (∀ w, Below Wa.heap.size Wa w → Calls Tryd.prog 13 #[.agg (tcs ta sa).toArray] w fun e w' => e = .returned (.string (mkS la)) ∧ Below w.heap.size w w')) (HPB : Hid (∀ w, Below Wa.heap.size Wa w → Calls Tryd.prog 13 #[.agg (tcs tb sb).toArray] w fun e w' => e = .returned (.string (mkS lb)) ∧ Below w.heap.size w w')) (HS1 : Hid (∀ _ : Unit, mkS s1 = mkS [115, 101, 97, 108, 40] ++ mkS la ∧ (mkS [115, 101, 97, 108, 40]).size + (mkS la).size ≤ 1000000000)) (HS2 : Hid (∀ _ : Unit, mkS s2 = mkS s1 ++ mkS [44] ∧ (mkS s1).size + (mkS [44]).size ≤ 1000000000)) (HS3 : Hid (∀ _ : Unit, mkS s3 = mkS s2 ++ mkS lb ∧ (mkS s2).size + (mkS lb).size ≤ 1000000000)) (HS4 : Hid (∀ _ : Unit, mkS s4 = mkS s3 ++ mkS [41] ∧ (mkS s3).size + (mkS [41]).size ≤ 1000000000)) (HP1 : Hid (∀ _ : Unit, mkS p1 = mkS [40] ++ mkS la ∧ (mkS [40]).size + (mkS la).size ≤ 1000000000)) (HP2 : Hid (∀ _ : Unit, mkS p2 = mkS p1 ++ mkS [44] ∧ (mkS p1).size + (mkS [44]).size ≤ 1000000000)) (HP3 : Hid (∀ _ : Unit, mkS p3 = mkS p2 ++ mkS lb ∧ (mkS p2).size + (mkS lb).size ≤ 1000000000)) (HP4 : Hid (∀ _ : Unit, mkS p4 = mkS p3 ++ mkS [41] ∧ (mkS p3).size + (mkS [41]).size ≤ 1000000000)) (HD1 : Hid (∀ _ : Unit, mkS d1 = mkS [100] ++ mkS ld ∧ (mkS [100]).size + (mkS ld).size ≤ 1000000000)) (HD2 : Hid (∀ _ : Unit, mkS d2 = mkS d1 ++ mkS [40] ∧ (mkS d1).size + (mkS [40]).size ≤ 1000000000)) (HD3 : Hid (∀ _ : Unit, mkS d3 = mkS d2 ++ mkS la ∧ (mkS d2).size + (mkS la).size ≤ 1000000000)) (HD4 : Hid (∀ _ : Unit, mkS d4 = mkS d3 ++ mkS [41] ∧ (mkS d3).size + (mkS [41]).size ≤ 1000000000)) (HPS : Hid (∀ w, Below Wa.heap.size Wa w → Calls Tryd.prog 12 #[.string (mkS s4)] w fun e w' => ∃ (p : Option Addr) (c : Nat), e = .returned (.tuple #[.agg [.int .i64 3, .int .i64 0, .slice p 2 c].toArray, .int .i64 0]) ∧ UX w.heap.size w'.heap.size w' (.slice p 2 c) [ta, tb] ∧ Below w.heap.size w w')) (HPP : Hid (∀ w, Below Wa.heap.size Wa w → Calls Tryd.prog 12 #[.string (mkS p4)] w fun e w' => ∃ (p : Option Addr) (c : Nat), e = .returned (.tuple #[.agg [.int .i64 4, .int .i64 0, .slice p 2 c].toArray, .int .i64 0]) ∧ UX w.heap.size w'.heap.size w' (.slice p 2 c) [ta, tb] ∧ Below w.heap.size w w')) (HPD : Hid (∀ w, Below Wa.heap.size Wa w → Calls Tryd.prog 12 #[.string (mkS d4)] w fun e w' => ∃ (p : Option Addr) (c : Nat), e = .returned (.tuple #[.agg [.int .i64 5, .int .i64 (k : Int), .slice p 1 c].toArray, .int .i64 0]) ∧ UX w.heap.size w'.heap.size w' (.slice p 1 c) [ta] ∧ Below w.heap.size w w')) (HPN : Hid (∀ w, Below Wa.heap.size Wa w → Calls Tryd.prog 12 #[.string (mkS p3)] w fun e w' => e = .returned (.tuple #[.agg [.int .i64 0, .int .i64 0, .slice none 0 0].toArray, .int .i64 12]) ∧ Below w.heap.size w w')) (hkt : n.tmod 100 = (k : Int)) (hk : n % 100 = (k : Int)) (hkw : wrap64 (k : Int) = (k : Int)) (hca4 : ca ≤ 61) (hcb4 : cb ≤ 61) (hk99 : k ≤ 99) (HDS : Hid (∀ _ : Unit, strOf [c1'] = mkS ld)) (hm10 : (k : Int) % 10 = (k : Int)) (hm10t : Int.tmod (k : Int) 10 = (k : Int)) (hc48 : 48 + (k : Int) = c1') (hw1 : IntKind.i64.wrap c1' = c1') (hw2 : IntKind.u8.wrap c1' = c1') (hw1a : wrap64 c1' = c1') (hw2a : c1' % 256 = c1') (hgt : ¬ (9 : Int) < (k : Int)) :
    Calls Tryd.prog 4 #[.agg (tcs ta sa).toArray, .agg (tcs tb sb).toArray, .int .u8 n] Wa fun e w' => e = .returned (.bool true) ∧ Below Wa.heap.size Wa w' := by
  have h9u : ca ≤ 61 ∧ cb ≤ 61 ∧ k ≤ 99 := ⟨hca4, hcb4, hk99⟩
  have h9v := hw2a
  have h9w := hgt
  have h9x := hw1a
  clear h9u h9v h9w h9x
  have hm := Mem.start Wa
  go_enter Tryd.func4, Tryd.ntmps4
  go_wp2_with (first
    | ((with_reducible refine at_op (some 3) (.box 24 (.tmp 0)) ?_); go_must (refine wpl_box (tcs ta sa) rfl hm ?_); clear hm; intro w1 g1 hm)
    | ((with_reducible refine at_op (some 4) (.box 24 (.tmp 1)) ?_); go_must (refine wpl_box (tcs tb sb) rfl hm ?_); clear hm; intro w2 g2 hm)
    | (go_at_call 5; go_must (refine (HKN.out _ hm.below).mono ?_); rintro e wk ⟨he, hb⟩; subst he; replace hm := hm.call hb; clear hb))
  refine wp_ends0 ?_
  refine anyH_startB (T := fun W => Mem Wa [] W [(g2, tcs tb sb, 24), (g1, tcs ta sa, 24)]) (by kernel_rfl) hm ?_
  intro wc hbw hmw
  replace hm : Mem Wa [] wc [(g2, tcs tb sb, 24), (g1, tcs ta sa, 24)] := hmw
  clear hbw hmw
  refine anyH_take 0 (v := .agg (tcs ta sa).toArray) rfl (by kernel_rfl) (by kernel_rfl) (by kernel_rfl) rfl (fun W hW => exec_ldsG 0 (tcs ta sa) (Mem.get hW 1 rfl) rfl _ Tryd.underlying24 rfl 3 sz_term (Nat.le_refl _) rfl) hm ?_
  go_simp
  refine wpAnyH_all (rs := [1]) (by kernel_rfl) (by simp) ?_
  intro i hi
  simp only [List.mem_cons, List.not_mem_nil, or_false] at hi
  subst hi
  refine anyH_opW 1 rfl rfl ?_
  intro K hK
  go_wp2_with (go_at_call 6; refine (HFA.out _ hm.below).mono ?_; rintro e wd1 ⟨he, hb⟩; subst he; replace hm := hm.call hb; clear hb)
  refine hK _ _ hm ?_
  clear hK K
  go_simp
  refine anyH_take 2 (v := .bool false) rfl (by kernel_rfl) (by kernel_rfl) (by kernel_rfl) rfl (fun W _ => by go_simp) hm ?_
  go_simp
  refine anyH_take 3 (v := .bool false) rfl (by kernel_rfl) (by kernel_rfl) (by kernel_rfl) rfl (fun W _ => by go_simp) hm ?_
  go_simp
  refine anyH_takeG 4 (v := .agg (tcs tb sb).toArray) rfl (by kernel_rfl) (by kernel_rfl) (by kernel_rfl) rfl (fun W hW => exec_ldsG 0 (tcs tb sb) (Mem.get hW 0 rfl) rfl _ Tryd.underlying24 rfl 3 sz_term (Nat.le_refl _) rfl) hm ?_
  go_simp
  refine wpAnyH_all (rs := [5]) (by kernel_rfl) (by simp) ?_
  intro i hi
  simp only [List.mem_cons, List.not_mem_nil, or_false] at hi
  subst hi
  refine anyH_opW 5 rfl rfl ?_
  intro K hK
  go_wp2_with (go_at_call 6; refine (HFB.out _ hm.below).mono ?_; rintro e wd5 ⟨he, hb⟩; subst he; replace hm := hm.call hb; clear hb)
  refine hK _ _ hm ?_
  clear hK K
  go_simp
  refine anyH_takeG 6 (v := .bool false) rfl (by kernel_rfl) (by kernel_rfl) (by kernel_rfl) rfl (fun W _ => by go_simp) hm ?_
  go_simp
  refine anyH_take 7 (v := .bool false) rfl (by kernel_rfl) (by kernel_rfl) (by kernel_rfl) rfl (fun W _ => by go_simp) hm ?_
  go_simp
  refine anyH_take 8 (v := .bool false) rfl (by kernel_rfl) (by kernel_rfl) (by kernel_rfl) rfl (fun W _ => by go_simp) hm ?_
  go_simp
  refine anyH_takeG 9 (v := .agg (tcs ta sa).toArray) rfl (by kernel_rfl) (by kernel_rfl) (by kernel_rfl) rfl (fun W hW => exec_ldsG 0 (tcs ta sa) (Mem.get hW 1 rfl) rfl _ Tryd.underlying24 rfl 3 sz_term (Nat.le_refl _) rfl) hm ?_
  go_simp
  refine wpAnyH_all (rs := [10]) (by kernel_rfl) (by simp) ?_
  intro i hi
  simp only [List.mem_cons, List.not_mem_nil, or_false] at hi
  subst hi
  refine anyH_opW 10 rfl rfl ?_
  intro K hK
  go_wp2_with (go_at_call 7; refine (HIA.out _ hm.below).mono ?_; rintro e wd10 ⟨he, hb⟩; subst he; replace hm := hm.call hb; clear hb)
  refine hK _ _ hm ?_
  clear hK K
  go_simp
  refine anyH_takeG 11 (v := .bool false) rfl (by kernel_rfl) (by kernel_rfl) (by kernel_rfl) rfl (fun W _ => by go_simp) hm ?_
  go_simp
  refine anyH_take 12 (v := .bool false) rfl (by kernel_rfl) (by kernel_rfl) (by kernel_rfl) rfl (fun W _ => by go_simp) hm ?_
  go_simp
  refine anyH_take 13 (v := .bool false) rfl (by kernel_rfl) (by kernel_rfl) (by kernel_rfl) rfl (fun W _ => by go_simp) hm ?_
  go_simp
  refine anyH_takeG 14 (v := .agg (tcs tb sb).toArray) rfl (by kernel_rfl) (by kernel_rfl) (by kernel_rfl) rfl (fun W hW => exec_ldsG 0 (tcs tb sb) (Mem.get hW 0 rfl) rfl _ Tryd.underlying24 rfl 3 sz_term (Nat.le_refl _) rfl) hm ?_
  go_simp
  refine wpAnyH_all (rs := [15]) (by kernel_rfl) (by simp) ?_
  intro i hi
  simp only [List.mem_cons, List.not_mem_nil, or_false] at hi
  subst hi
  refine anyH_opW 15 rfl rfl ?_
  intro K hK
  go_wp2_with (go_at_call 7; refine (HIB.out _ hm.below).mono ?_; rintro e wd15 ⟨he, hb⟩; subst he; replace hm := hm.call hb; clear hb)
  refine hK _ _ hm ?_
  clear hK K
  go_simp
  refine anyH_takeG 16 (v := .bool false) rfl (by kernel_rfl) (by kernel_rfl) (by kernel_rfl) rfl (fun W _ => by go_simp) hm ?_
  go_simp
  refine anyH_take 17 (v := .bool false) rfl (by kernel_rfl) (by kernel_rfl) (by kernel_rfl) rfl (fun W _ => by go_simp) hm ?_
  go_simp
  refine anyH_take 18 (v := .bool false) rfl (by kernel_rfl) (by kernel_rfl) (by kernel_rfl) rfl (fun W _ => by go_simp) hm ?_
  go_simp
  refine anyH_takeG 19 (v := .agg (tcs ta sa).toArray) rfl (by kernel_rfl) (by kernel_rfl) (by kernel_rfl) rfl (fun W hW => exec_ldsG 0 (tcs ta sa) (Mem.get hW 1 rfl) rfl _ Tryd.underlying24 rfl 3 sz_term (Nat.le_refl _) rfl) hm ?_
  go_simp
  refine anyH_takeG 21 (v := .agg (tcs tb sb).toArray) rfl (by kernel_rfl) (by kernel_rfl) (by kernel_rfl) rfl (fun W hW => exec_ldsG 0 (tcs tb sb) (Mem.get hW 0 rfl) rfl _ Tryd.underlying24 rfl 3 sz_term (Nat.le_refl _) rfl) hm ?_
  go_simp
  refine wpAnyH_all (rs := [20]) (by kernel_rfl) (by simp) ?_
  intro i hi
  simp only [List.mem_cons, List.not_mem_nil, or_false] at hi
  subst hi
  refine anyH_opW 20 rfl rfl ?_
  intro K hK
  go_wp2_with (go_at_call 10; refine (HCA.out _ hm.below).mono ?_; rintro e wd20 ⟨he, hb⟩; subst he; replace hm := hm.call hb; clear hb)
  refine hK _ _ hm ?_
  clear hK K
  go_simp
  refine wpAnyH_all (rs := [22]) (by kernel_rfl) (by simp) ?_
  intro i hi
  simp only [List.mem_cons, List.not_mem_nil, or_false] at hi
  subst hi
  refine anyH_opW 22 rfl rfl ?_
  intro K hK
  go_wp2_with (go_at_call 10; refine (HCB.out _ hm.below).mono ?_; rintro e wd22 ⟨he, hb⟩; subst he; replace hm := hm.call hb; clear hb)
  refine hK _ _ hm ?_
  clear hK K
  go_simp
  refine anyH_takeG 23 (v := .int .i64 ((ca : Int) + (cb : Int))) rfl (by kernel_rfl) (by kernel_rfl) (by kernel_rfl) rfl (fun W _ => by go_simp; exact HCS.out) hm ?_
  go_simp
  refine anyH_takeG 24 (v := .bool false) rfl (by kernel_rfl) (by kernel_rfl) (by kernel_rfl) rfl (fun W _ => by go_simp; exact HCC.out) hm ?_
  go_simp
  refine anyH_take 25 (v := .bool false) rfl (by kernel_rfl) (by kernel_rfl) (by kernel_rfl) rfl (fun W _ => by go_simp) hm ?_
  go_simp
  refine wpAnyH_done (by kernel_rfl) ?_ _
  simp only [endsIn]
  go_wp2_with (first
    | ((with_reducible refine at_op (some 52) (.buildSlice 31 1 #[(0, .tmp 51)]) ?_); go_must (refine wpl_bsl1 rfl (.int .u8 0) (.int .u8 c1') un_u8ss info_u8 rfl rfl rfl hm ?_); clear hm; intro ws g5 hb5 hm; clear hb5)
    | ((with_reducible refine at_op (some 53) (.convert 31 9 (.tmp 52)) ?_); go_must (refine wpl_tostr un_u8ss un_u8 un_strT [c1'] 1 (hm.get 0 rfl) rfl rfl ?_); rw [HDS.out ()]))
  have HBB : Hid (Below Wa.heap.size Wa ws) := hm.below
  have HRA : Hid (Row ws g1 (tcs ta sa) 24) := hm.get 2 rfl
  have HRB : Hid (Row ws g2 (tcs tb sb) 24) := hm.get 1 rfl
  clear hm HKN HFA HFB HIA HIB HCA HCB HCS HCC hw1 hw2 hw1a hw2a hkt hkw hgt hm10t hc48 hm10
  have hm := Mem.start ws
  refine wp_ends0 ?_
  refine region_mid (fun a0 a' w' => ∃ (g : Nat) (p : Option Addr) (c : Nat), a' = putL a0 [(65, .agg (tcs ta sa).toArray), (66, .string (mkS la)), (67, .string (mkS s1)), (68, .string (mkS s2)), (69, .agg (tcs tb sb).toArray), (70, .string (mkS lb)), (71, .string (mkS s3)), (72, .string (mkS s4)), (73, (.tuple #[.agg [.int .i64 3, .int .i64 0, .slice p 2 c].toArray, .int .i64 0])), (64, (.tuple #[.agg [.int .i64 3, .int .i64 0, .slice p 2 c].toArray, .int .i64 0])), (74, .agg [.int .i64 3, .int .i64 0, .slice p 2 c].toArray), (75, .int .i64 0), (9, .pointer (some ⟨g, 0, none⟩)), (10, .int .i64 0)] ∧ Below ws.heap.size ws w' ∧ ws.heap.size ≤ g ∧ Row w' g [.int .i64 3, .int .i64 0, .slice p 2 c] 24 ∧ UX ws.heap.size w'.heap.size w' (.slice p 2 c) [ta, tb]) ?_ ?_
  · intro KM HKM
    refine anyH_startB (T := fun W => Below ws.heap.size ws W) (by kernel_rfl) hm ?_
    clear hm
    intro wc hbw hmw
    have hm : Below ws.heap.size ws wc := hbw
    clear hbw hmw
    refine anyH_take 0 (v := .agg (tcs ta sa).toArray) rfl (by kernel_rfl) (by kernel_rfl) (by kernel_rfl) rfl (fun W hW => exec_ldsG 0 (tcs ta sa) (HRA.out.below' hW) rfl _ Tryd.underlying24 rfl 3 sz_term (Nat.le_refl _) rfl) hm ?_
    go_simp
    refine anyH_take 4 (v := .agg (tcs tb sb).toArray) rfl (by kernel_rfl) (by kernel_rfl) (by kernel_rfl) rfl (fun W hW => exec_ldsG 0 (tcs tb sb) (HRB.out.below' hW) rfl _ Tryd.underlying24 rfl 3 sz_term (Nat.le_refl _) rfl) hm ?_
    go_simp
    refine anyH_two 1 12 (by kernel_rfl) rfl rfl rfl rfl ?_ ?_
    · intro K hK
      go_wp2_with (go_at_call 13; refine (HPA.out _ (HBB.out.trans (hm.mono HBB.out.size))).mono ?_; rintro e v1 ⟨he, hb⟩; subst he; replace hm := hm.trans (hb.mono hm.size); clear hb)
      refine hK _ _ hm ?_
      clear hK K
      go_simp
      refine anyH_take 2 (v := .string (mkS s1)) rfl (by kernel_rfl) (by kernel_rfl) (by kernel_rfl) rfl (fun W _ => exec_addB (mkS [115, 101, 97, 108, 40]) (mkS la) (mkS s1) (HS1.out ()).1 rfl rfl (HS1.out ()).2) hm ?_
      go_simp
      refine anyH_take 3 (v := .string (mkS s2)) rfl (by kernel_rfl) (by kernel_rfl) (by kernel_rfl) rfl (fun W _ => exec_addB (mkS s1) ⟨#[44]⟩ (mkS s2) (HS2.out ()).1 rfl rfl (HS2.out ()).2) hm ?_
      go_simp
      refine anyH_two 5 12 (by kernel_rfl) rfl rfl rfl rfl ?_ ?_
      · intro K hK
        go_wp2_with (go_at_call 13; refine (HPB.out _ (HBB.out.trans (hm.mono HBB.out.size))).mono ?_; rintro e v2 ⟨he, hb⟩; subst he; replace hm := hm.trans (hb.mono hm.size); clear hb)
        refine hK _ _ hm ?_
        clear hK K
        go_simp
        refine anyH_take 6 (v := .string (mkS s3)) rfl (by kernel_rfl) (by kernel_rfl) (by kernel_rfl) rfl (fun W _ => exec_addB (mkS s2) (mkS lb) (mkS s3) (HS3.out ()).1 rfl rfl (HS3.out ()).2) hm ?_
        go_simp
        refine anyH_take 7 (v := .string (mkS s4)) rfl (by kernel_rfl) (by kernel_rfl) (by kernel_rfl) rfl (fun W _ => exec_addB (mkS s3) ⟨#[41]⟩ (mkS s4) (HS4.out ()).1 rfl rfl (HS4.out ()).2) hm ?_
        go_simp
        refine anyH_two 8 12 (by kernel_rfl) rfl rfl rfl rfl ?_ ?_
        · intro K hK
          go_wp2_with (go_at_call 12; refine (HPS.out _ (HBB.out.trans (hm.mono HBB.out.size))).mono ?_; rintro e v3 hq; obtain ⟨p, c, he, hux, hb⟩ := hq; subst he; have HLO : Hid (ws.heap.size ≤ v2.heap.size) := hm.size; have HU : Hid (UX v2.heap.size v3.heap.size v3 (.slice p 2 c) [ta, tb]) := hux; clear hux; replace hm := hm.trans (hb.mono hm.size); clear hb)
          refine hK _ _ hm ?_
          clear hK K
          go_simp
          refine anyH_take 9 (v := (.tuple #[.agg [.int .i64 3, .int .i64 0, .slice p 2 c].toArray, .int .i64 0])) rfl (by kernel_rfl) (by kernel_rfl) (by kernel_rfl) rfl (fun W _ => by go_simp) hm ?_
          go_simp
          refine anyH_take 10 (v := .agg [.int .i64 3, .int .i64 0, .slice p 2 c].toArray) rfl (by kernel_rfl) (by kernel_rfl) (by kernel_rfl) rfl (fun W _ => by go_simp) hm ?_
          go_simp
          refine anyH_take 11 (v := .int .i64 0) rfl (by kernel_rfl) (by kernel_rfl) (by kernel_rfl) rfl (fun W _ => by go_simp) hm ?_
          go_simp
          refine wpAnyH_all (rs := [12]) (by kernel_rfl) (by simp) ?_
          intro i hi
          simp only [List.mem_cons, List.not_mem_nil, or_false] at hi
          subst hi
          refine anyH_opW 12 rfl rfl ?_
          intro K hK
          refine wpl_allocB _ zero_term (Mem.start v3) ?_
          intro v4 g hb hg hm2
          have HG : Hid (Row v4 g [.int .i64 0, .int .i64 0, .slice none 0 0] 24) := hm2.get 0 rfl
          have HGN : Hid (ws.heap.size ≤ g) := Nat.le_trans hm.size hg
          have HGA : Hid (v3.heap.size ≤ g) := hg
          have HUn : Hid (UX _ v3.heap.size v4 (.slice p 2 c) [ta, tb]) := HU.out.below hb
          have HSZ : Hid (v3.heap.size ≤ v4.heap.size) := hb.size
          clear HU
          replace hm := hm.trans (hb.mono hm.size)
          clear hb hg hm2
          refine wpList_nil ?_
          refine hK _ _ hm ?_
          clear hK K
          go_simp
          refine wpAnyH_all (rs := [13]) (by kernel_rfl) (by simp) ?_
          intro i hi
          simp only [List.mem_cons, List.not_mem_nil, or_false] at hi
          subst hi
          refine anyH_opW 13 rfl rfl ?_
          intro K hK
          refine wpl_stwU 0 [.int .i64 3, .int .i64 0, .slice p 2 c] (Mem.enter HG.out) rfl rfl rfl 3 sz_term rfl rfl (by intro z hz; simp only [List.mem_cons, List.not_mem_nil, or_false] at hz; rcases hz with rfl | rfl | rfl <;> rfl) ?_
          intro v5 hu hm2
          have HRN : Hid (Row v5 g [.int .i64 3, .int .i64 0, .slice p 2 c] 24) := hm2.get 0 rfl
          have HUF : Hid (UX ws.heap.size v5.heap.size v5 (.slice p 2 c) [ta, tb]) := (HUn.out.keep (fun b hb hl => hu.block b hl (fun he => by have h9 := HGA.out; have h8 := hb.2; omega))).weak (fun b hb => ⟨Nat.le_trans HLO.out hb.1, Nat.lt_of_lt_of_le hb.2 (Nat.le_trans HSZ.out hu.size)⟩)
          replace hm := below_upd hm hu HGN.out hm.size
          clear hu hm2
          refine wpList_nil ?_
          refine hK _ _ hm ?_
          clear hK K
          go_simp
          refine anyH_take 14 (v := .int .i64 0) rfl (by kernel_rfl) (by kernel_rfl) (by kernel_rfl) rfl (fun W _ => by go_simp) hm ?_
          go_simp
          refine wpAnyH_done (by kernel_rfl) ?_ _
          simp only [endsIn]
          exact HKM.out _ _ ⟨g, p, c, (by kernel_rfl), hm, HGN.out, HRN.out, HUF.out⟩
        · intro K hK
          refine wpl_allocB _ zero_term (Mem.start v2) ?_
          intro v6 g hb hg hm2
          have HG : Hid (Row v6 g [.int .i64 0, .int .i64 0, .slice none 0 0] 24) := hm2.get 0 rfl
          have HGN : Hid (ws.heap.size ≤ g) := Nat.le_trans hm.size hg
          replace hm := hm.trans (hb.mono hm.size)
          clear hb hg hm2
          refine wpList_nil ?_
          refine hK _ _ hm ?_
          clear hK K
          go_simp
          refine wpAnyH_all (rs := [8]) (by kernel_rfl) (by simp) ?_
          intro i hi
          simp only [List.mem_cons, List.not_mem_nil, or_false] at hi
          subst hi
          refine anyH_opW 8 rfl rfl ?_
          intro K hK
          go_wp2_with (go_at_call 12; refine (HPS.out _ (HBB.out.trans (hm.mono HBB.out.size))).mono ?_; rintro e v7 hq; obtain ⟨p, c, he, hux, hb⟩ := hq; subst he; have HLO : Hid (ws.heap.size ≤ v6.heap.size) := hm.size; have HU : Hid (UX v6.heap.size v7.heap.size v7 (.slice p 2 c) [ta, tb]) := hux; have HGL : Hid (g < v6.heap.size) := HG.out.lt; clear hux; have HGn : Hid (Row v7 g [.int .i64 0, .int .i64 0, .slice none 0 0] 24) := HG.out.below' hb; clear HG; have HG : Hid (Row v7 g [.int .i64 0, .int .i64 0, .slice none 0 0] 24) := HGn.out; clear HGn; replace hm := hm.trans (hb.mono hm.size); clear hb)
          refine hK _ _ hm ?_
          clear hK K
          go_simp
          refine anyH_take 9 (v := (.tuple #[.agg [.int .i64 3, .int .i64 0, .slice p 2 c].toArray, .int .i64 0])) rfl (by kernel_rfl) (by kernel_rfl) (by kernel_rfl) rfl (fun W _ => by go_simp) hm ?_
          go_simp
          refine anyH_take 10 (v := .agg [.int .i64 3, .int .i64 0, .slice p 2 c].toArray) rfl (by kernel_rfl) (by kernel_rfl) (by kernel_rfl) rfl (fun W _ => by go_simp) hm ?_
          go_simp
          refine anyH_take 11 (v := .int .i64 0) rfl (by kernel_rfl) (by kernel_rfl) (by kernel_rfl) rfl (fun W _ => by go_simp) hm ?_
          go_simp
          refine wpAnyH_all (rs := [13]) (by kernel_rfl) (by simp) ?_
          intro i hi
          simp only [List.mem_cons, List.not_mem_nil, or_false] at hi
          subst hi
          refine anyH_opW 13 rfl rfl ?_
          intro K hK
          refine wpl_stwU 0 [.int .i64 3, .int .i64 0, .slice p 2 c] (Mem.enter HG.out) rfl rfl rfl 3 sz_term rfl rfl (by intro z hz; simp only [List.mem_cons, List.not_mem_nil, or_false] at hz; rcases hz with rfl | rfl | rfl <;> rfl) ?_
          intro v8 hu hm2
          have HRN : Hid (Row v8 g [.int .i64 3, .int .i64 0, .slice p 2 c] 24) := hm2.get 0 rfl
          have HUF : Hid (UX ws.heap.size v8.heap.size v8 (.slice p 2 c) [ta, tb]) := (HU.out.keep (fun b hb hl => hu.block b hl (fun he => by have h9 := HGL.out; have h8 := hb.1; omega))).weak (fun b hb => ⟨Nat.le_trans HLO.out hb.1, Nat.lt_of_lt_of_le hb.2 hu.size⟩)
          replace hm := below_upd hm hu HGN.out hm.size
          clear hu hm2
          refine wpList_nil ?_
          refine hK _ _ hm ?_
          clear hK K
          go_simp
          refine anyH_take 14 (v := .int .i64 0) rfl (by kernel_rfl) (by kernel_rfl) (by kernel_rfl) rfl (fun W _ => by go_simp) hm ?_
          go_simp
          refine wpAnyH_done (by kernel_rfl) ?_ _
          simp only [endsIn]
          exact HKM.out _ _ ⟨g, p, c, (by kernel_rfl), hm, HGN.out, HRN.out, HUF.out⟩
      · intro K hK
        refine wpl_allocB _ zero_term (Mem.start v1) ?_
        intro v9 g hb hg hm2
        have HG : Hid (Row v9 g [.int .i64 0, .int .i64 0, .slice none 0 0] 24) := hm2.get 0 rfl
        have HGN : Hid (ws.heap.size ≤ g) := Nat.le_trans hm.size hg
        replace hm := hm.trans (hb.mono hm.size)
        clear hb hg hm2
        refine wpList_nil ?_
        refine hK _ _ hm ?_
        clear hK K
        go_simp
        refine wpAnyH_all (rs := [5]) (by kernel_rfl) (by simp) ?_
        intro i hi
        simp only [List.mem_cons, List.not_mem_nil, or_false] at hi
        subst hi
        refine anyH_opW 5 rfl rfl ?_
        intro K hK
        go_wp2_with (go_at_call 13; refine (HPB.out _ (HBB.out.trans (hm.mono HBB.out.size))).mono ?_; rintro e v10 ⟨he, hb⟩; subst he; have HGn : Hid (Row v10 g [.int .i64 0, .int .i64 0, .slice none 0 0] 24) := HG.out.below' hb; clear HG; have HG : Hid (Row v10 g [.int .i64 0, .int .i64 0, .slice none 0 0] 24) := HGn.out; clear HGn; replace hm := hm.trans (hb.mono hm.size); clear hb)
        refine hK _ _ hm ?_
        clear hK K
        go_simp
        refine anyH_take 6 (v := .string (mkS s3)) rfl (by kernel_rfl) (by kernel_rfl) (by kernel_rfl) rfl (fun W _ => exec_addB (mkS s2) (mkS lb) (mkS s3) (HS3.out ()).1 rfl rfl (HS3.out ()).2) hm ?_
        go_simp
        refine anyH_take 7 (v := .string (mkS s4)) rfl (by kernel_rfl) (by kernel_rfl) (by kernel_rfl) rfl (fun W _ => exec_addB (mkS s3) ⟨#[41]⟩ (mkS s4) (HS4.out ()).1 rfl rfl (HS4.out ()).2) hm ?_
        go_simp
        refine wpAnyH_all (rs := [8]) (by kernel_rfl) (by simp) ?_
        intro i hi
        simp only [List.mem_cons, List.not_mem_nil, or_false] at hi
        subst hi
        refine anyH_opW 8 rfl rfl ?_
        intro K hK
        go_wp2_with (go_at_call 12; refine (HPS.out _ (HBB.out.trans (hm.mono HBB.out.size))).mono ?_; rintro e v11 hq; obtain ⟨p, c, he, hux, hb⟩ := hq; subst he; have HLO : Hid (ws.heap.size ≤ v10.heap.size) := hm.size; have HU : Hid (UX v10.heap.size v11.heap.size v11 (.slice p 2 c) [ta, tb]) := hux; have HGL : Hid (g < v10.heap.size) := HG.out.lt; clear hux; have HGn : Hid (Row v11 g [.int .i64 0, .int .i64 0, .slice none 0 0] 24) := HG.out.below' hb; clear HG; have HG : Hid (Row v11 g [.int .i64 0, .int .i64 0, .slice none 0 0] 24) := HGn.out; clear HGn; replace hm := hm.trans (hb.mono hm.size); clear hb)
        refine hK _ _ hm ?_
        clear hK K
        go_simp
        refine anyH_take 9 (v := (.tuple #[.agg [.int .i64 3, .int .i64 0, .slice p 2 c].toArray, .int .i64 0])) rfl (by kernel_rfl) (by kernel_rfl) (by kernel_rfl) rfl (fun W _ => by go_simp) hm ?_
        go_simp
        refine anyH_take 10 (v := .agg [.int .i64 3, .int .i64 0, .slice p 2 c].toArray) rfl (by kernel_rfl) (by kernel_rfl) (by kernel_rfl) rfl (fun W _ => by go_simp) hm ?_
        go_simp
        refine anyH_take 11 (v := .int .i64 0) rfl (by kernel_rfl) (by kernel_rfl) (by kernel_rfl) rfl (fun W _ => by go_simp) hm ?_
        go_simp
        refine wpAnyH_all (rs := [13]) (by kernel_rfl) (by simp) ?_
        intro i hi
        simp only [List.mem_cons, List.not_mem_nil, or_false] at hi
        subst hi
        refine anyH_opW 13 rfl rfl ?_
        intro K hK
        refine wpl_stwU 0 [.int .i64 3, .int .i64 0, .slice p 2 c] (Mem.enter HG.out) rfl rfl rfl 3 sz_term rfl rfl (by intro z hz; simp only [List.mem_cons, List.not_mem_nil, or_false] at hz; rcases hz with rfl | rfl | rfl <;> rfl) ?_
        intro v12 hu hm2
        have HRN : Hid (Row v12 g [.int .i64 3, .int .i64 0, .slice p 2 c] 24) := hm2.get 0 rfl
        have HUF : Hid (UX ws.heap.size v12.heap.size v12 (.slice p 2 c) [ta, tb]) := (HU.out.keep (fun b hb hl => hu.block b hl (fun he => by have h9 := HGL.out; have h8 := hb.1; omega))).weak (fun b hb => ⟨Nat.le_trans HLO.out hb.1, Nat.lt_of_lt_of_le hb.2 hu.size⟩)
        replace hm := below_upd hm hu HGN.out hm.size
        clear hu hm2
        refine wpList_nil ?_
        refine hK _ _ hm ?_
        clear hK K
        go_simp
        refine anyH_take 14 (v := .int .i64 0) rfl (by kernel_rfl) (by kernel_rfl) (by kernel_rfl) rfl (fun W _ => by go_simp) hm ?_
        go_simp
        refine wpAnyH_done (by kernel_rfl) ?_ _
        simp only [endsIn]
        exact HKM.out _ _ ⟨g, p, c, (by kernel_rfl), hm, HGN.out, HRN.out, HUF.out⟩
    · intro K hK
      refine wpl_allocB _ zero_term (Mem.start wc) ?_
      intro v13 g hb hg hm2
      have HG : Hid (Row v13 g [.int .i64 0, .int .i64 0, .slice none 0 0] 24) := hm2.get 0 rfl
      have HGN : Hid (ws.heap.size ≤ g) := Nat.le_trans hm.size hg
      replace hm := hm.trans (hb.mono hm.size)
      clear hb hg hm2
      refine wpList_nil ?_
      refine hK _ _ hm ?_
      clear hK K
      go_simp
      refine wpAnyH_all (rs := [1]) (by kernel_rfl) (by simp) ?_
      intro i hi
      simp only [List.mem_cons, List.not_mem_nil, or_false] at hi
      subst hi
      refine anyH_opW 1 rfl rfl ?_
      intro K hK
      go_wp2_with (go_at_call 13; refine (HPA.out _ (HBB.out.trans (hm.mono HBB.out.size))).mono ?_; rintro e v14 ⟨he, hb⟩; subst he; have HGn : Hid (Row v14 g [.int .i64 0, .int .i64 0, .slice none 0 0] 24) := HG.out.below' hb; clear HG; have HG : Hid (Row v14 g [.int .i64 0, .int .i64 0, .slice none 0 0] 24) := HGn.out; clear HGn; replace hm := hm.trans (hb.mono hm.size); clear hb)
      refine hK _ _ hm ?_
      clear hK K
      go_simp
      refine anyH_take 2 (v := .string (mkS s1)) rfl (by kernel_rfl) (by kernel_rfl) (by kernel_rfl) rfl (fun W _ => exec_addB (mkS [115, 101, 97, 108, 40]) (mkS la) (mkS s1) (HS1.out ()).1 rfl rfl (HS1.out ()).2) hm ?_
      go_simp
      refine anyH_take 3 (v := .string (mkS s2)) rfl (by kernel_rfl) (by kernel_rfl) (by kernel_rfl) rfl (fun W _ => exec_addB (mkS s1) ⟨#[44]⟩ (mkS s2) (HS2.out ()).1 rfl rfl (HS2.out ()).2) hm ?_
      go_simp
      refine wpAnyH_all (rs := [5]) (by kernel_rfl) (by simp) ?_
      intro i hi
      simp only [List.mem_cons, List.not_mem_nil, or_false] at hi
      subst hi
      refine anyH_opW 5 rfl rfl ?_
      intro K hK
      go_wp2_with (go_at_call 13; refine (HPB.out _ (HBB.out.trans (hm.mono HBB.out.size))).mono ?_; rintro e v15 ⟨he, hb⟩; subst he; have HGn : Hid (Row v15 g [.int .i64 0, .int .i64 0, .slice none 0 0] 24) := HG.out.below' hb; clear HG; have HG : Hid (Row v15 g [.int .i64 0, .int .i64 0, .slice none 0 0] 24) := HGn.out; clear HGn; replace hm := hm.trans (hb.mono hm.size); clear hb)
      refine hK _ _ hm ?_
      clear hK K
      go_simp
      refine anyH_take 6 (v := .string (mkS s3)) rfl (by kernel_rfl) (by kernel_rfl) (by kernel_rfl) rfl (fun W _ => exec_addB (mkS s2) (mkS lb) (mkS s3) (HS3.out ()).1 rfl rfl (HS3.out ()).2) hm ?_
      go_simp
      refine anyH_take 7 (v := .string (mkS s4)) rfl (by kernel_rfl) (by kernel_rfl) (by kernel_rfl) rfl (fun W _ => exec_addB (mkS s3) ⟨#[41]⟩ (mkS s4) (HS4.out ()).1 rfl rfl (HS4.out ()).2) hm ?_
      go_simp
      refine wpAnyH_all (rs := [8]) (by kernel_rfl) (by simp) ?_
      intro i hi
      simp only [List.mem_cons, List.not_mem_nil, or_false] at hi
      subst hi
      refine anyH_opW 8 rfl rfl ?_
      intro K hK
      go_wp2_with (go_at_call 12; refine (HPS.out _ (HBB.out.trans (hm.mono HBB.out.size))).mono ?_; rintro e v16 hq; obtain ⟨p, c, he, hux, hb⟩ := hq; subst he; have HLO : Hid (ws.heap.size ≤ v15.heap.size) := hm.size; have HU : Hid (UX v15.heap.size v16.heap.size v16 (.slice p 2 c) [ta, tb]) := hux; have HGL : Hid (g < v15.heap.size) := HG.out.lt; clear hux; have HGn : Hid (Row v16 g [.int .i64 0, .int .i64 0, .slice none 0 0] 24) := HG.out.below' hb; clear HG; have HG : Hid (Row v16 g [.int .i64 0, .int .i64 0, .slice none 0 0] 24) := HGn.out; clear HGn; replace hm := hm.trans (hb.mono hm.size); clear hb)
      refine hK _ _ hm ?_
      clear hK K
      go_simp
      refine anyH_take 9 (v := (.tuple #[.agg [.int .i64 3, .int .i64 0, .slice p 2 c].toArray, .int .i64 0])) rfl (by kernel_rfl) (by kernel_rfl) (by kernel_rfl) rfl (fun W _ => by go_simp) hm ?_
      go_simp
      refine anyH_take 10 (v := .agg [.int .i64 3, .int .i64 0, .slice p 2 c].toArray) rfl (by kernel_rfl) (by kernel_rfl) (by kernel_rfl) rfl (fun W _ => by go_simp) hm ?_
      go_simp
      refine anyH_take 11 (v := .int .i64 0) rfl (by kernel_rfl) (by kernel_rfl) (by kernel_rfl) rfl (fun W _ => by go_simp) hm ?_
      go_simp
      refine wpAnyH_all (rs := [13]) (by kernel_rfl) (by simp) ?_
      intro i hi
      simp only [List.mem_cons, List.not_mem_nil, or_false] at hi
      subst hi
      refine anyH_opW 13 rfl rfl ?_
      intro K hK
      refine wpl_stwU 0 [.int .i64 3, .int .i64 0, .slice p 2 c] (Mem.enter HG.out) rfl rfl rfl 3 sz_term rfl rfl (by intro z hz; simp only [List.mem_cons, List.not_mem_nil, or_false] at hz; rcases hz with rfl | rfl | rfl <;> rfl) ?_
      intro v17 hu hm2
      have HRN : Hid (Row v17 g [.int .i64 3, .int .i64 0, .slice p 2 c] 24) := hm2.get 0 rfl
      have HUF : Hid (UX ws.heap.size v17.heap.size v17 (.slice p 2 c) [ta, tb]) := (HU.out.keep (fun b hb hl => hu.block b hl (fun he => by have h9 := HGL.out; have h8 := hb.1; omega))).weak (fun b hb => ⟨Nat.le_trans HLO.out hb.1, Nat.lt_of_lt_of_le hb.2 hu.size⟩)
      replace hm := below_upd hm hu HGN.out hm.size
      clear hu hm2
      refine wpList_nil ?_
      refine hK _ _ hm ?_
      clear hK K
      go_simp
      refine anyH_take 14 (v := .int .i64 0) rfl (by kernel_rfl) (by kernel_rfl) (by kernel_rfl) rfl (fun W _ => by go_simp) hm ?_
      go_simp
      refine wpAnyH_done (by kernel_rfl) ?_ _
      simp only [endsIn]
      exact HKM.out _ _ ⟨g, p, c, (by kernel_rfl), hm, HGN.out, HRN.out, HUF.out⟩
  rintro a' w9 ⟨g9, p9, c9, rfl, hb, hg, hr, hu⟩
  have HR9 : Hid (Row w9 g9 [.int .i64 3, .int .i64 0, .slice p9 2 c9] 24) := hr
  have HU9 : Hid (UX Wa.heap.size w9.heap.size w9 (.slice p9 2 c9) [ta, tb]) := hu.weak (fun b hb9 => ⟨Nat.le_trans HBB.out.size hb9.1, hb9.2⟩)
  replace HBB : Hid (Below Wa.heap.size Wa w9) := HBB.out.trans (hb.mono HBB.out.size)
  replace HRA : Hid (Row w9 g1 (tcs ta sa) 24) := HRA.out.below' hb
  replace HRB : Hid (Row w9 g2 (tcs tb sb) 24) := HRB.out.below' hb
  clear hb hg hr hu
  simp only [putL]
  go_simp
  have hm := Mem.start w9
  go_wp2_with fail
  refine wp_ends0 ?_
  refine region_mid (fun a0 a' w' => ∃ (g : Nat) (p : Option Addr) (c : Nat), a' = putL a0 [(77, .agg (tcs ta sa).toArray), (78, .string (mkS la)), (79, .string (mkS p1)), (80, .string (mkS p2)), (81, .agg (tcs tb sb).toArray), (82, .string (mkS lb)), (83, .string (mkS p3)), (84, .string (mkS p4)), (85, (.tuple #[.agg [.int .i64 4, .int .i64 0, .slice p 2 c].toArray, .int .i64 0])), (76, (.tuple #[.agg [.int .i64 4, .int .i64 0, .slice p 2 c].toArray, .int .i64 0])), (86, .agg [.int .i64 4, .int .i64 0, .slice p 2 c].toArray), (87, .int .i64 0), (11, .pointer (some ⟨g, 0, none⟩)), (12, .int .i64 0)] ∧ Below w9.heap.size w9 w' ∧ w9.heap.size ≤ g ∧ Row w' g [.int .i64 4, .int .i64 0, .slice p 2 c] 24 ∧ UX w9.heap.size w'.heap.size w' (.slice p 2 c) [ta, tb]) ?_ ?_
  · intro KM HKM
    refine anyH_startB (T := fun W => Below w9.heap.size w9 W) (by kernel_rfl) hm ?_
    clear hm
    intro wc hbw hmw
    have hm : Below w9.heap.size w9 wc := hbw
    clear hbw hmw
    refine anyH_take 0 (v := .agg (tcs ta sa).toArray) rfl (by kernel_rfl) (by kernel_rfl) (by kernel_rfl) rfl (fun W hW => exec_ldsG 0 (tcs ta sa) (HRA.out.below' hW) rfl _ Tryd.underlying24 rfl 3 sz_term (Nat.le_refl _) rfl) hm ?_
    go_simp
    refine anyH_take 4 (v := .agg (tcs tb sb).toArray) rfl (by kernel_rfl) (by kernel_rfl) (by kernel_rfl) rfl (fun W hW => exec_ldsG 0 (tcs tb sb) (HRB.out.below' hW) rfl _ Tryd.underlying24 rfl 3 sz_term (Nat.le_refl _) rfl) hm ?_
    go_simp
    refine anyH_two 1 12 (by kernel_rfl) rfl rfl rfl rfl ?_ ?_
    · intro K hK
      go_wp2_with (go_at_call 13; refine (HPA.out _ (HBB.out.trans (hm.mono HBB.out.size))).mono ?_; rintro e v1 ⟨he, hb⟩; subst he; replace hm := hm.trans (hb.mono hm.size); clear hb)
      refine hK _ _ hm ?_
      clear hK K
      go_simp
      refine anyH_take 2 (v := .string (mkS p1)) rfl (by kernel_rfl) (by kernel_rfl) (by kernel_rfl) rfl (fun W _ => exec_addB (mkS [40]) (mkS la) (mkS p1) (HP1.out ()).1 rfl rfl (HP1.out ()).2) hm ?_
      go_simp
      refine anyH_take 3 (v := .string (mkS p2)) rfl (by kernel_rfl) (by kernel_rfl) (by kernel_rfl) rfl (fun W _ => exec_addB (mkS p1) ⟨#[44]⟩ (mkS p2) (HP2.out ()).1 rfl rfl (HP2.out ()).2) hm ?_
      go_simp
      refine anyH_two 5 12 (by kernel_rfl) rfl rfl rfl rfl ?_ ?_
      · intro K hK
        go_wp2_with (go_at_call 13; refine (HPB.out _ (HBB.out.trans (hm.mono HBB.out.size))).mono ?_; rintro e v2 ⟨he, hb⟩; subst he; replace hm := hm.trans (hb.mono hm.size); clear hb)
        refine hK _ _ hm ?_
        clear hK K
        go_simp
        refine anyH_take 6 (v := .string (mkS p3)) rfl (by kernel_rfl) (by kernel_rfl) (by kernel_rfl) rfl (fun W _ => exec_addB (mkS p2) (mkS lb) (mkS p3) (HP3.out ()).1 rfl rfl (HP3.out ()).2) hm ?_
        go_simp
        refine anyH_take 7 (v := .string (mkS p4)) rfl (by kernel_rfl) (by kernel_rfl) (by kernel_rfl) rfl (fun W _ => exec_addB (mkS p3) ⟨#[41]⟩ (mkS p4) (HP4.out ()).1 rfl rfl (HP4.out ()).2) hm ?_
        go_simp
        refine anyH_two 8 12 (by kernel_rfl) rfl rfl rfl rfl ?_ ?_
        · intro K hK
          go_wp2_with (go_at_call 12; refine (HPP.out _ (HBB.out.trans (hm.mono HBB.out.size))).mono ?_; rintro e v3 hq; obtain ⟨p, c, he, hux, hb⟩ := hq; subst he; have HLO : Hid (w9.heap.size ≤ v2.heap.size) := hm.size; have HU : Hid (UX v2.heap.size v3.heap.size v3 (.slice p 2 c) [ta, tb]) := hux; clear hux; replace hm := hm.trans (hb.mono hm.size); clear hb)
          refine hK _ _ hm ?_
          clear hK K
          go_simp
          refine anyH_take 9 (v := (.tuple #[.agg [.int .i64 4, .int .i64 0, .slice p 2 c].toArray, .int .i64 0])) rfl (by kernel_rfl) (by kernel_rfl) (by kernel_rfl) rfl (fun W _ => by go_simp) hm ?_
          go_simp
          refine anyH_take 10 (v := .agg [.int .i64 4, .int .i64 0, .slice p 2 c].toArray) rfl (by kernel_rfl) (by kernel_rfl) (by kernel_rfl) rfl (fun W _ => by go_simp) hm ?_
          go_simp
          refine anyH_take 11 (v := .int .i64 0) rfl (by kernel_rfl) (by kernel_rfl) (by kernel_rfl) rfl (fun W _ => by go_simp) hm ?_
          go_simp
          refine wpAnyH_all (rs := [12]) (by kernel_rfl) (by simp) ?_
          intro i hi
          simp only [List.mem_cons, List.not_mem_nil, or_false] at hi
          subst hi
          refine anyH_opW 12 rfl rfl ?_
          intro K hK
          refine wpl_allocB _ zero_term (Mem.start v3) ?_
          intro v4 g hb hg hm2
          have HG : Hid (Row v4 g [.int .i64 0, .int .i64 0, .slice none 0 0] 24) := hm2.get 0 rfl
          have HGN : Hid (w9.heap.size ≤ g) := Nat.le_trans hm.size hg
          have HGA : Hid (v3.heap.size ≤ g) := hg
          have HUn : Hid (UX _ v3.heap.size v4 (.slice p 2 c) [ta, tb]) := HU.out.below hb
          have HSZ : Hid (v3.heap.size ≤ v4.heap.size) := hb.size
          clear HU
          replace hm := hm.trans (hb.mono hm.size)
          clear hb hg hm2
          refine wpList_nil ?_
          refine hK _ _ hm ?_
          clear hK K
          go_simp
          refine wpAnyH_all (rs := [13]) (by kernel_rfl) (by simp) ?_
          intro i hi
          simp only [List.mem_cons, List.not_mem_nil, or_false] at hi
          subst hi
          refine anyH_opW 13 rfl rfl ?_
          intro K hK
          refine wpl_stwU 0 [.int .i64 4, .int .i64 0, .slice p 2 c] (Mem.enter HG.out) rfl rfl rfl 3 sz_term rfl rfl (by intro z hz; simp only [List.mem_cons, List.not_mem_nil, or_false] at hz; rcases hz with rfl | rfl | rfl <;> rfl) ?_
          intro v5 hu hm2
          have HRN : Hid (Row v5 g [.int .i64 4, .int .i64 0, .slice p 2 c] 24) := hm2.get 0 rfl
          have HUF : Hid (UX w9.heap.size v5.heap.size v5 (.slice p 2 c) [ta, tb]) := (HUn.out.keep (fun b hb hl => hu.block b hl (fun he => by have h9 := HGA.out; have h8 := hb.2; omega))).weak (fun b hb => ⟨Nat.le_trans HLO.out hb.1, Nat.lt_of_lt_of_le hb.2 (Nat.le_trans HSZ.out hu.size)⟩)
          replace hm := below_upd hm hu HGN.out hm.size
          clear hu hm2
          refine wpList_nil ?_
          refine hK _ _ hm ?_
          clear hK K
          go_simp
          refine anyH_take 14 (v := .int .i64 0) rfl (by kernel_rfl) (by kernel_rfl) (by kernel_rfl) rfl (fun W _ => by go_simp) hm ?_
          go_simp
          refine wpAnyH_done (by kernel_rfl) ?_ _
          simp only [endsIn]
          exact HKM.out _ _ ⟨g, p, c, (by kernel_rfl), hm, HGN.out, HRN.out, HUF.out⟩
        · intro K hK
          refine wpl_allocB _ zero_term (Mem.start v2) ?_
          intro v6 g hb hg hm2
          have HG : Hid (Row v6 g [.int .i64 0, .int .i64 0, .slice none 0 0] 24) := hm2.get 0 rfl
          have HGN : Hid (w9.heap.size ≤ g) := Nat.le_trans hm.size hg
          replace hm := hm.trans (hb.mono hm.size)
          clear hb hg hm2
          refine wpList_nil ?_
          refine hK _ _ hm ?_
          clear hK K
          go_simp
          refine wpAnyH_all (rs := [8]) (by kernel_rfl) (by simp) ?_
          intro i hi
          simp only [List.mem_cons, List.not_mem_nil, or_false] at hi
          subst hi
          refine anyH_opW 8 rfl rfl ?_
          intro K hK
          go_wp2_with (go_at_call 12; refine (HPP.out _ (HBB.out.trans (hm.mono HBB.out.size))).mono ?_; rintro e v7 hq; obtain ⟨p, c, he, hux, hb⟩ := hq; subst he; have HLO : Hid (w9.heap.size ≤ v6.heap.size) := hm.size; have HU : Hid (UX v6.heap.size v7.heap.size v7 (.slice p 2 c) [ta, tb]) := hux; have HGL : Hid (g < v6.heap.size) := HG.out.lt; clear hux; have HGn : Hid (Row v7 g [.int .i64 0, .int .i64 0, .slice none 0 0] 24) := HG.out.below' hb; clear HG; have HG : Hid (Row v7 g [.int .i64 0, .int .i64 0, .slice none 0 0] 24) := HGn.out; clear HGn; replace hm := hm.trans (hb.mono hm.size); clear hb)
          refine hK _ _ hm ?_
          clear hK K
          go_simp
          refine anyH_take 9 (v := (.tuple #[.agg [.int .i64 4, .int .i64 0, .slice p 2 c].toArray, .int .i64 0])) rfl (by kernel_rfl) (by kernel_rfl) (by kernel_rfl) rfl (fun W _ => by go_simp) hm ?_
          go_simp
          refine anyH_take 10 (v := .agg [.int .i64 4, .int .i64 0, .slice p 2 c].toArray) rfl (by kernel_rfl) (by kernel_rfl) (by kernel_rfl) rfl (fun W _ => by go_simp) hm ?_
          go_simp
          refine anyH_take 11 (v := .int .i64 0) rfl (by kernel_rfl) (by kernel_rfl) (by kernel_rfl) rfl (fun W _ => by go_simp) hm ?_
          go_simp
          refine wpAnyH_all (rs := [13]) (by kernel_rfl) (by simp) ?_
          intro i hi
          simp only [List.mem_cons, List.not_mem_nil, or_false] at hi
          subst hi
          refine anyH_opW 13 rfl rfl ?_
          intro K hK
          refine wpl_stwU 0 [.int .i64 4, .int .i64 0, .slice p 2 c] (Mem.enter HG.out) rfl rfl rfl 3 sz_term rfl rfl (by intro z hz; simp only [List.mem_cons, List.not_mem_nil, or_false] at hz; rcases hz with rfl | rfl | rfl <;> rfl) ?_
          intro v8 hu hm2
          have HRN : Hid (Row v8 g [.int .i64 4, .int .i64 0, .slice p 2 c] 24) := hm2.get 0 rfl
          have HUF : Hid (UX w9.heap.size v8.heap.size v8 (.slice p 2 c) [ta, tb]) := (HU.out.keep (fun b hb hl => hu.block b hl (fun he => by have h9 := HGL.out; have h8 := hb.1; omega))).weak (fun b hb => ⟨Nat.le_trans HLO.out hb.1, Nat.lt_of_lt_of_le hb.2 hu.size⟩)
          replace hm := below_upd hm hu HGN.out hm.size
          clear hu hm2
          refine wpList_nil ?_
          refine hK _ _ hm ?_
          clear hK K
          go_simp
          refine anyH_take 14 (v := .int .i64 0) rfl (by kernel_rfl) (by kernel_rfl) (by kernel_rfl) rfl (fun W _ => by go_simp) hm ?_
          go_simp
          refine wpAnyH_done (by kernel_rfl) ?_ _
          simp only [endsIn]
          exact HKM.out _ _ ⟨g, p, c, (by kernel_rfl), hm, HGN.out, HRN.out, HUF.out⟩
      · intro K hK
        refine wpl_allocB _ zero_term (Mem.start v1) ?_
        intro v9 g hb hg hm2
        have HG : Hid (Row v9 g [.int .i64 0, .int .i64 0, .slice none 0 0] 24) := hm2.get 0 rfl
        have HGN : Hid (w9.heap.size ≤ g) := Nat.le_trans hm.size hg
        replace hm := hm.trans (hb.mono hm.size)
        clear hb hg hm2
        refine wpList_nil ?_
        refine hK _ _ hm ?_
        clear hK K
        go_simp
        refine wpAnyH_all (rs := [5]) (by kernel_rfl) (by simp) ?_
        intro i hi
        simp only [List.mem_cons, List.not_mem_nil, or_false] at hi
        subst hi
        refine anyH_opW 5 rfl rfl ?_
        intro K hK
        go_wp2_with (go_at_call 13; refine (HPB.out _ (HBB.out.trans (hm.mono HBB.out.size))).mono ?_; rintro e v10 ⟨he, hb⟩; subst he; have HGn : Hid (Row v10 g [.int .i64 0, .int .i64 0, .slice none 0 0] 24) := HG.out.below' hb; clear HG; have HG : Hid (Row v10 g [.int .i64 0, .int .i64 0, .slice none 0 0] 24) := HGn.out; clear HGn; replace hm := hm.trans (hb.mono hm.size); clear hb)
        refine hK _ _ hm ?_
        clear hK K
        go_simp
        refine anyH_take 6 (v := .string (mkS p3)) rfl (by kernel_rfl) (by kernel_rfl) (by kernel_rfl) rfl (fun W _ => exec_addB (mkS p2) (mkS lb) (mkS p3) (HP3.out ()).1 rfl rfl (HP3.out ()).2) hm ?_
        go_simp
        refine anyH_take 7 (v := .string (mkS p4)) rfl (by kernel_rfl) (by kernel_rfl) (by kernel_rfl) rfl (fun W _ => exec_addB (mkS p3) ⟨#[41]⟩ (mkS p4) (HP4.out ()).1 rfl rfl (HP4.out ()).2) hm ?_
        go_simp
        refine wpAnyH_all (rs := [8]) (by kernel_rfl) (by simp) ?_
        intro i hi
        simp only [List.mem_cons, List.not_mem_nil, or_false] at hi
        subst hi
        refine anyH_opW 8 rfl rfl ?_
        intro K hK
        go_wp2_with (go_at_call 12; refine (HPP.out _ (HBB.out.trans (hm.mono HBB.out.size))).mono ?_; rintro e v11 hq; obtain ⟨p, c, he, hux, hb⟩ := hq; subst he; have HLO : Hid (w9.heap.size ≤ v10.heap.size) := hm.size; have HU : Hid (UX v10.heap.size v11.heap.size v11 (.slice p 2 c) [ta, tb]) := hux; have HGL : Hid (g < v10.heap.size) := HG.out.lt; clear hux; have HGn : Hid (Row v11 g [.int .i64 0, .int .i64 0, .slice none 0 0] 24) := HG.out.below' hb; clear HG; have HG : Hid (Row v11 g [.int .i64 0, .int .i64 0, .slice none 0 0] 24) := HGn.out; clear HGn; replace hm := hm.trans (hb.mono hm.size); clear hb)
        refine hK _ _ hm ?_
        clear hK K
        go_simp
        refine anyH_take 9 (v := (.tuple #[.agg [.int .i64 4, .int .i64 0, .slice p 2 c].toArray, .int .i64 0])) rfl (by kernel_rfl) (by kernel_rfl) (by kernel_rfl) rfl (fun W _ => by go_simp) hm ?_
        go_simp
        refine anyH_take 10 (v := .agg [.int .i64 4, .int .i64 0, .slice p 2 c].toArray) rfl (by kernel_rfl) (by kernel_rfl) (by kernel_rfl) rfl (fun W _ => by go_simp) hm ?_
        go_simp
        refine anyH_take 11 (v := .int .i64 0) rfl (by kernel_rfl) (by kernel_rfl) (by kernel_rfl) rfl (fun W _ => by go_simp) hm ?_
        go_simp
        refine wpAnyH_all (rs := [13]) (by kernel_rfl) (by simp) ?_
        intro i hi
        simp only [List.mem_cons, List.not_mem_nil, or_false] at hi
        subst hi
        refine anyH_opW 13 rfl rfl ?_
        intro K hK
        refine wpl_stwU 0 [.int .i64 4, .int .i64 0, .slice p 2 c] (Mem.enter HG.out) rfl rfl rfl 3 sz_term rfl rfl (by intro z hz; simp only [List.mem_cons, List.not_mem_nil, or_false] at hz; rcases hz with rfl | rfl | rfl <;> rfl) ?_
        intro v12 hu hm2
        have HRN : Hid (Row v12 g [.int .i64 4, .int .i64 0, .slice p 2 c] 24) := hm2.get 0 rfl
        have HUF : Hid (UX w9.heap.size v12.heap.size v12 (.slice p 2 c) [ta, tb]) := (HU.out.keep (fun b hb hl => hu.block b hl (fun he => by have h9 := HGL.out; have h8 := hb.1; omega))).weak (fun b hb => ⟨Nat.le_trans HLO.out hb.1, Nat.lt_of_lt_of_le hb.2 hu.size⟩)
        replace hm := below_upd hm hu HGN.out hm.size
        clear hu hm2
        refine wpList_nil ?_
        refine hK _ _ hm ?_
        clear hK K
        go_simp
        refine anyH_take 14 (v := .int .i64 0) rfl (by kernel_rfl) (by kernel_rfl) (by kernel_rfl) rfl (fun W _ => by go_simp) hm ?_
        go_simp
        refine wpAnyH_done (by kernel_rfl) ?_ _
        simp only [endsIn]
        exact HKM.out _ _ ⟨g, p, c, (by kernel_rfl), hm, HGN.out, HRN.out, HUF.out⟩
    · intro K hK
      refine wpl_allocB _ zero_term (Mem.start wc) ?_
      intro v13 g hb hg hm2
      have HG : Hid (Row v13 g [.int .i64 0, .int .i64 0, .slice none 0 0] 24) := hm2.get 0 rfl
      have HGN : Hid (w9.heap.size ≤ g) := Nat.le_trans hm.size hg
      replace hm := hm.trans (hb.mono hm.size)
      clear hb hg hm2
      refine wpList_nil ?_
      refine hK _ _ hm ?_
      clear hK K
      go_simp
      refine wpAnyH_all (rs := [1]) (by kernel_rfl) (by simp) ?_
      intro i hi
      simp only [List.mem_cons, List.not_mem_nil, or_false] at hi
      subst hi
      refine anyH_opW 1 rfl rfl ?_
      intro K hK
      go_wp2_with (go_at_call 13; refine (HPA.out _ (HBB.out.trans (hm.mono HBB.out.size))).mono ?_; rintro e v14 ⟨he, hb⟩; subst he; have HGn : Hid (Row v14 g [.int .i64 0, .int .i64 0, .slice none 0 0] 24) := HG.out.below' hb; clear HG; have HG : Hid (Row v14 g [.int .i64 0, .int .i64 0, .slice none 0 0] 24) := HGn.out; clear HGn; replace hm := hm.trans (hb.mono hm.size); clear hb)
      refine hK _ _ hm ?_
      clear hK K
      go_simp
      refine anyH_take 2 (v := .string (mkS p1)) rfl (by kernel_rfl) (by kernel_rfl) (by kernel_rfl) rfl (fun W _ => exec_addB (mkS [40]) (mkS la) (mkS p1) (HP1.out ()).1 rfl rfl (HP1.out ()).2) hm ?_
      go_simp
      refine anyH_take 3 (v := .string (mkS p2)) rfl (by kernel_rfl) (by kernel_rfl) (by kernel_rfl) rfl (fun W _ => exec_addB (mkS p1) ⟨#[44]⟩ (mkS p2) (HP2.out ()).1 rfl rfl (HP2.out ()).2) hm ?_
      go_simp
      refine wpAnyH_all (rs := [5]) (by kernel_rfl) (by simp) ?_
      intro i hi
      simp only [List.mem_cons, List.not_mem_nil, or_false] at hi
      subst hi
      refine anyH_opW 5 rfl rfl ?_
      intro K hK
      go_wp2_with (go_at_call 13; refine (HPB.out _ (HBB.out.trans (hm.mono HBB.out.size))).mono ?_; rintro e v15 ⟨he, hb⟩; subst he; have HGn : Hid (Row v15 g [.int .i64 0, .int .i64 0, .slice none 0 0] 24) := HG.out.below' hb; clear HG; have HG : Hid (Row v15 g [.int .i64 0, .int .i64 0, .slice none 0 0] 24) := HGn.out; clear HGn; replace hm := hm.trans (hb.mono hm.size); clear hb)
      refine hK _ _ hm ?_
      clear hK K
      go_simp
      refine anyH_take 6 (v := .string (mkS p3)) rfl (by kernel_rfl) (by kernel_rfl) (by kernel_rfl) rfl (fun W _ => exec_addB (mkS p2) (mkS lb) (mkS p3) (HP3.out ()).1 rfl rfl (HP3.out ()).2) hm ?_
      go_simp
      refine anyH_take 7 (v := .string (mkS p4)) rfl (by kernel_rfl) (by kernel_rfl) (by kernel_rfl) rfl (fun W _ => exec_addB (mkS p3) ⟨#[41]⟩ (mkS p4) (HP4.out ()).1 rfl rfl (HP4.out ()).2) hm ?_
      go_simp
      refine wpAnyH_all (rs := [8]) (by kernel_rfl) (by simp) ?_
      intro i hi
      simp only [List.mem_cons, List.not_mem_nil, or_false] at hi
      subst hi
      refine anyH_opW 8 rfl rfl ?_
      intro K hK
      go_wp2_with (go_at_call 12; refine (HPP.out _ (HBB.out.trans (hm.mono HBB.out.size))).mono ?_; rintro e v16 hq; obtain ⟨p, c, he, hux, hb⟩ := hq; subst he; have HLO : Hid (w9.heap.size ≤ v15.heap.size) := hm.size; have HU : Hid (UX v15.heap.size v16.heap.size v16 (.slice p 2 c) [ta, tb]) := hux; have HGL : Hid (g < v15.heap.size) := HG.out.lt; clear hux; have HGn : Hid (Row v16 g [.int .i64 0, .int .i64 0, .slice none 0 0] 24) := HG.out.below' hb; clear HG; have HG : Hid (Row v16 g [.int .i64 0, .int .i64 0, .slice none 0 0] 24) := HGn.out; clear HGn; replace hm := hm.trans (hb.mono hm.size); clear hb)
      refine hK _ _ hm ?_
      clear hK K
      go_simp
      refine anyH_take 9 (v := (.tuple #[.agg [.int .i64 4, .int .i64 0, .slice p 2 c].toArray, .int .i64 0])) rfl (by kernel_rfl) (by kernel_rfl) (by kernel_rfl) rfl (fun W _ => by go_simp) hm ?_
      go_simp
      refine anyH_take 10 (v := .agg [.int .i64 4, .int .i64 0, .slice p 2 c].toArray) rfl (by kernel_rfl) (by kernel_rfl) (by kernel_rfl) rfl (fun W _ => by go_simp) hm ?_
      go_simp
      refine anyH_take 11 (v := .int .i64 0) rfl (by kernel_rfl) (by kernel_rfl) (by kernel_rfl) rfl (fun W _ => by go_simp) hm ?_
      go_simp
      refine wpAnyH_all (rs := [13]) (by kernel_rfl) (by simp) ?_
      intro i hi
      simp only [List.mem_cons, List.not_mem_nil, or_false] at hi
      subst hi
      refine anyH_opW 13 rfl rfl ?_
      intro K hK
      refine wpl_stwU 0 [.int .i64 4, .int .i64 0, .slice p 2 c] (Mem.enter HG.out) rfl rfl rfl 3 sz_term rfl rfl (by intro z hz; simp only [List.mem_cons, List.not_mem_nil, or_false] at hz; rcases hz with rfl | rfl | rfl <;> rfl) ?_
      intro v17 hu hm2
      have HRN : Hid (Row v17 g [.int .i64 4, .int .i64 0, .slice p 2 c] 24) := hm2.get 0 rfl
      have HUF : Hid (UX w9.heap.size v17.heap.size v17 (.slice p 2 c) [ta, tb]) := (HU.out.keep (fun b hb hl => hu.block b hl (fun he => by have h9 := HGL.out; have h8 := hb.1; omega))).weak (fun b hb => ⟨Nat.le_trans HLO.out hb.1, Nat.lt_of_lt_of_le hb.2 hu.size⟩)
      replace hm := below_upd hm hu HGN.out hm.size
      clear hu hm2
      refine wpList_nil ?_
      refine hK _ _ hm ?_
      clear hK K
      go_simp
      refine anyH_take 14 (v := .int .i64 0) rfl (by kernel_rfl) (by kernel_rfl) (by kernel_rfl) rfl (fun W _ => by go_simp) hm ?_
      go_simp
      refine wpAnyH_done (by kernel_rfl) ?_ _
      simp only [endsIn]
      exact HKM.out _ _ ⟨g, p, c, (by kernel_rfl), hm, HGN.out, HRN.out, HUF.out⟩
  rintro a' w11 ⟨g11, p11, c11, rfl, hb, hg, hr, hu⟩
  have HR11 : Hid (Row w11 g11 [.int .i64 4, .int .i64 0, .slice p11 2 c11] 24) := hr
  have HU11 : Hid (UX Wa.heap.size w11.heap.size w11 (.slice p11 2 c11) [ta, tb]) := hu.weak (fun b hb9 => ⟨Nat.le_trans HBB.out.size hb9.1, hb9.2⟩)
  replace HBB : Hid (Below Wa.heap.size Wa w11) := HBB.out.trans (hb.mono HBB.out.size)
  replace HRA : Hid (Row w11 g1 (tcs ta sa) 24) := HRA.out.below' hb
  replace HRB : Hid (Row w11 g2 (tcs tb sb) 24) := HRB.out.below' hb
  replace HR9 : Hid (Row w11 g9 [.int .i64 3, .int .i64 0, .slice p9 2 c9] 24) := HR9.out.below' hb
  replace HU9 : Hid (UX Wa.heap.size w9.heap.size w11 (.slice p9 2 c9) [ta, tb]) := HU9.out.below hb
  clear hb hg hr hu
  simp only [putL]
  go_simp
  have hm := Mem.start w11
  go_wp2_with (first
    | ((with_reducible refine at_op (some 90) (.binOp .add 9 (.const (.string { data := #[100] })) (.tmp 89) 9) ?_); go_must (refine wpl_execG (.string (mkS d1)) rfl (exec_addB (mkS [100]) (mkS ld) (mkS d1) (HD1.out ()).1 rfl rfl (HD1.out ()).2) ?_))
    | ((with_reducible refine at_op (some 91) (.binOp .add 9 (.tmp 90) (.const (.string { data := #[40] })) 9) ?_); go_must (refine wpl_execG (.string (mkS d2)) rfl (exec_addB (mkS d1) (mkS [40]) (mkS d2) (HD2.out ()).1 rfl rfl (HD2.out ()).2) ?_))
    | ((with_reducible refine at_op (some 92) (.load 24 (.tmp 3)) ?_); go_must (refine wpl_execG (.agg (tcs ta sa).toArray) rfl (exec_ldsG 0 (tcs ta sa) (HRA.out.below' hm.below) rfl _ Tryd.underlying24 rfl 3 sz_term (Nat.le_refl _) rfl) ?_))
    | (go_at_call 13; go_must (refine (HPA.out _ (HBB.out.trans (hm.below.mono HBB.out.size))).mono ?_); rintro e wq ⟨he, hb⟩; subst he; replace hm := hm.call hb; clear hb)
    | ((with_reducible refine at_op (some 94) (.binOp .add 9 (.tmp 91) (.tmp 93) 9) ?_); go_must (refine wpl_execG (.string (mkS d3)) rfl (exec_addB (mkS d2) (mkS la) (mkS d3) (HD3.out ()).1 rfl rfl (HD3.out ()).2) ?_))
    | ((with_reducible refine at_op (some 95) (.binOp .add 9 (.tmp 94) (.const (.string { data := #[41] })) 9) ?_); go_must (refine wpl_execG (.string (mkS d4)) rfl (exec_addB (mkS d3) (mkS [41]) (mkS d4) (HD4.out ()).1 rfl rfl (HD4.out ()).2) ?_))
    | (go_at_call 12; go_must (refine (HPD.out _ (HBB.out.trans (hm.below.mono HBB.out.size))).mono ?_); rintro e wp ⟨p13, c13, he, hux, hb⟩; subst he; have HLO : Hid (Wa.heap.size ≤ wq.heap.size) := Nat.le_trans HBB.out.size hm.size; have HU13a : Hid (UX wq.heap.size wp.heap.size wp (.slice p13 1 c13) [ta]) := hux; replace hm := hm.call hb; clear hb hux)
    | ((with_reducible refine at_op (some 13) (.alloc 24) ?_); go_must (refine wpl_allocB _ zero_term hm ?_); clear hm; intro wa g13 hb13 hg13 hm; have HU13b : Hid (UX wq.heap.size wp.heap.size wa (.slice p13 1 c13) [ta]) := HU13a.out.below hb13; have HGA : Hid (wp.heap.size ≤ g13) := hg13; have HSZ : Hid (wp.heap.size ≤ wa.heap.size) := hb13.size; clear hb13 hg13 HU13a)
    | ((with_reducible refine at_op none (.store 24 (.tmp 13) (.tmp 97)) ?_); go_must (refine wpl_stwU 0 [.int .i64 5, .int .i64 (k : Int), .slice p13 1 c13] hm rfl rfl rfl 3 sz_term rfl rfl (by intro z hz; simp only [List.mem_cons, List.not_mem_nil, or_false] at hz; rcases hz with rfl | rfl | rfl <;> rfl) ?_); clear hm; intro w13 hu hm; have HU13 : Hid (UX Wa.heap.size w13.heap.size w13 (.slice p13 1 c13) [ta]) := (HU13b.out.keep (fun b hb hl => hu.block b hl (fun he => by have h9 := HGA.out; have h8 := hb.2; omega))).weak (fun b hb => ⟨Nat.le_trans HLO.out hb.1, Nat.lt_of_lt_of_le hb.2 (Nat.le_trans HSZ.out hu.size)⟩); clear hu HU13b HGA HLO HSZ))
  have hb : Below w11.heap.size w11 w13 := hm.below
  have HR13 : Hid (Row w13 g13 [.int .i64 5, .int .i64 (k : Int), .slice p13 1 c13] 24) := hm.get 0 rfl
  replace HBB : Hid (Below Wa.heap.size Wa w13) := HBB.out.trans (hb.mono HBB.out.size)
  replace HRA : Hid (Row w13 g1 (tcs ta sa) 24) := HRA.out.below' hb
  replace HRB : Hid (Row w13 g2 (tcs tb sb) 24) := HRB.out.below' hb
  replace HR9 : Hid (Row w13 g9 [.int .i64 3, .int .i64 0, .slice p9 2 c9] 24) := HR9.out.below' hb
  replace HU9 : Hid (UX Wa.heap.size w9.heap.size w13 (.slice p9 2 c9) [ta, tb]) := HU9.out.below hb
  replace HR11 : Hid (Row w13 g11 [.int .i64 4, .int .i64 0, .slice p11 2 c11] 24) := HR11.out.below' hb
  replace HU11 : Hid (UX Wa.heap.size w11.heap.size w13 (.slice p11 2 c11) [ta, tb]) := HU11.out.below hb
  clear hb hm
  have hm := Mem.start w13
  refine wp_ends0 ?_
  refine region_mid (fun a0 a' w' => ∃ g : Nat, a' = putL a0 [(100, .agg (tcs ta sa).toArray), (101, .string (mkS la)), (102, .string (mkS p1)), (103, .string (mkS p2)), (104, .agg (tcs tb sb).toArray), (105, .string (mkS lb)), (106, .string (mkS p3)), (107, (.tuple #[.agg [.int .i64 0, .int .i64 0, .slice none 0 0].toArray, .int .i64 12])), (99, (.tuple #[.agg [.int .i64 0, .int .i64 0, .slice none 0 0].toArray, .int .i64 12])), (108, .agg [.int .i64 0, .int .i64 0, .slice none 0 0].toArray), (109, .int .i64 12), (15, .pointer (some ⟨g, 0, none⟩)), (16, .int .i64 12)] ∧ Below w13.heap.size w13 w' ∧ w13.heap.size ≤ g ∧ Row w' g [.int .i64 0, .int .i64 0, .slice none 0 0] 24) ?_ ?_
  · intro KM HKM
    refine anyH_startB (T := fun W => Below w13.heap.size w13 W) (by kernel_rfl) hm ?_
    clear hm
    intro wc hbw hmw
    have hm : Below w13.heap.size w13 wc := hbw
    clear hbw hmw
    refine anyH_take 0 (v := .agg (tcs ta sa).toArray) rfl (by kernel_rfl) (by kernel_rfl) (by kernel_rfl) rfl (fun W hW => exec_ldsG 0 (tcs ta sa) (HRA.out.below' hW) rfl _ Tryd.underlying24 rfl 3 sz_term (Nat.le_refl _) rfl) hm ?_
    go_simp
    refine anyH_take 4 (v := .agg (tcs tb sb).toArray) rfl (by kernel_rfl) (by kernel_rfl) (by kernel_rfl) rfl (fun W hW => exec_ldsG 0 (tcs tb sb) (HRB.out.below' hW) rfl _ Tryd.underlying24 rfl 3 sz_term (Nat.le_refl _) rfl) hm ?_
    go_simp
    refine anyH_two 1 11 (by kernel_rfl) rfl rfl rfl rfl ?_ ?_
    · intro K hK
      go_wp2_with (go_at_call 13; refine (HPA.out _ (HBB.out.trans (hm.mono HBB.out.size))).mono ?_; rintro e v1 ⟨he, hb⟩; subst he; replace hm := hm.trans (hb.mono hm.size); clear hb)
      refine hK _ _ hm ?_
      clear hK K
      go_simp
      refine anyH_take 2 (v := .string (mkS p1)) rfl (by kernel_rfl) (by kernel_rfl) (by kernel_rfl) rfl (fun W _ => exec_addB (mkS [40]) (mkS la) (mkS p1) (HP1.out ()).1 rfl rfl (HP1.out ()).2) hm ?_
      go_simp
      refine anyH_take 3 (v := .string (mkS p2)) rfl (by kernel_rfl) (by kernel_rfl) (by kernel_rfl) rfl (fun W _ => exec_addB (mkS p1) ⟨#[44]⟩ (mkS p2) (HP2.out ()).1 rfl rfl (HP2.out ()).2) hm ?_
      go_simp
      refine anyH_two 5 11 (by kernel_rfl) rfl rfl rfl rfl ?_ ?_
      · intro K hK
        go_wp2_with (go_at_call 13; refine (HPB.out _ (HBB.out.trans (hm.mono HBB.out.size))).mono ?_; rintro e v2 ⟨he, hb⟩; subst he; replace hm := hm.trans (hb.mono hm.size); clear hb)
        refine hK _ _ hm ?_
        clear hK K
        go_simp
        refine anyH_take 6 (v := .string (mkS p3)) rfl (by kernel_rfl) (by kernel_rfl) (by kernel_rfl) rfl (fun W _ => exec_addB (mkS p2) (mkS lb) (mkS p3) (HP3.out ()).1 rfl rfl (HP3.out ()).2) hm ?_
        go_simp
        refine anyH_two 7 11 (by kernel_rfl) rfl rfl rfl rfl ?_ ?_
        · intro K hK
          go_wp2_with (go_at_call 12; refine (HPN.out _ (HBB.out.trans (hm.mono HBB.out.size))).mono ?_; rintro e v3 hq; obtain ⟨he, hb⟩ := hq; subst he; replace hm := hm.trans (hb.mono hm.size); clear hb)
          refine hK _ _ hm ?_
          clear hK K
          go_simp
          refine anyH_take 8 (v := (.tuple #[.agg [.int .i64 0, .int .i64 0, .slice none 0 0].toArray, .int .i64 12])) rfl (by kernel_rfl) (by kernel_rfl) (by kernel_rfl) rfl (fun W _ => by go_simp) hm ?_
          go_simp
          refine anyH_take 9 (v := .agg [.int .i64 0, .int .i64 0, .slice none 0 0].toArray) rfl (by kernel_rfl) (by kernel_rfl) (by kernel_rfl) rfl (fun W _ => by go_simp) hm ?_
          go_simp
          refine anyH_take 10 (v := .int .i64 12) rfl (by kernel_rfl) (by kernel_rfl) (by kernel_rfl) rfl (fun W _ => by go_simp) hm ?_
          go_simp
          refine wpAnyH_all (rs := [11]) (by kernel_rfl) (by simp) ?_
          intro i hi
          simp only [List.mem_cons, List.not_mem_nil, or_false] at hi
          subst hi
          refine anyH_opW 11 rfl rfl ?_
          intro K hK
          refine wpl_allocB _ zero_term (Mem.start v3) ?_
          intro v4 g hb hg hm2
          have HG : Hid (Row v4 g [.int .i64 0, .int .i64 0, .slice none 0 0] 24) := hm2.get 0 rfl
          have HGN : Hid (w13.heap.size ≤ g) := Nat.le_trans hm.size hg
          replace hm := hm.trans (hb.mono hm.size)
          clear hb hg hm2
          refine wpList_nil ?_
          refine hK _ _ hm ?_
          clear hK K
          go_simp
          refine wpAnyH_all (rs := [12]) (by kernel_rfl) (by simp) ?_
          intro i hi
          simp only [List.mem_cons, List.not_mem_nil, or_false] at hi
          subst hi
          refine anyH_opW 12 rfl rfl ?_
          intro K hK
          refine wpl_stwU 0 [.int .i64 0, .int .i64 0, .slice none 0 0] (Mem.enter HG.out) rfl rfl rfl 3 sz_term rfl rfl (by intro z hz; simp only [List.mem_cons, List.not_mem_nil, or_false] at hz; rcases hz with rfl | rfl | rfl <;> rfl) ?_
          intro v5 hu hm2
          have HRN : Hid (Row v5 g [.int .i64 0, .int .i64 0, .slice none 0 0] 24) := hm2.get 0 rfl
          replace hm := below_upd hm hu HGN.out hm.size
          clear hu hm2
          refine wpList_nil ?_
          refine hK _ _ hm ?_
          clear hK K
          go_simp
          refine anyH_take 13 (v := .int .i64 12) rfl (by kernel_rfl) (by kernel_rfl) (by kernel_rfl) rfl (fun W _ => by go_simp) hm ?_
          go_simp
          refine wpAnyH_done (by kernel_rfl) ?_ _
          simp only [endsIn]
          exact HKM.out _ _ ⟨g, (by kernel_rfl), hm, HGN.out, HRN.out⟩
        · intro K hK
          refine wpl_allocB _ zero_term (Mem.start v2) ?_
          intro v6 g hb hg hm2
          have HG : Hid (Row v6 g [.int .i64 0, .int .i64 0, .slice none 0 0] 24) := hm2.get 0 rfl
          have HGN : Hid (w13.heap.size ≤ g) := Nat.le_trans hm.size hg
          replace hm := hm.trans (hb.mono hm.size)
          clear hb hg hm2
          refine wpList_nil ?_
          refine hK _ _ hm ?_
          clear hK K
          go_simp
          refine wpAnyH_all (rs := [7]) (by kernel_rfl) (by simp) ?_
          intro i hi
          simp only [List.mem_cons, List.not_mem_nil, or_false] at hi
          subst hi
          refine anyH_opW 7 rfl rfl ?_
          intro K hK
          go_wp2_with (go_at_call 12; refine (HPN.out _ (HBB.out.trans (hm.mono HBB.out.size))).mono ?_; rintro e v7 hq; obtain ⟨he, hb⟩ := hq; subst he; have HGn : Hid (Row v7 g [.int .i64 0, .int .i64 0, .slice none 0 0] 24) := HG.out.below' hb; clear HG; have HG : Hid (Row v7 g [.int .i64 0, .int .i64 0, .slice none 0 0] 24) := HGn.out; clear HGn; replace hm := hm.trans (hb.mono hm.size); clear hb)
          refine hK _ _ hm ?_
          clear hK K
          go_simp
          refine anyH_take 8 (v := (.tuple #[.agg [.int .i64 0, .int .i64 0, .slice none 0 0].toArray, .int .i64 12])) rfl (by kernel_rfl) (by kernel_rfl) (by kernel_rfl) rfl (fun W _ => by go_simp) hm ?_
          go_simp
          refine anyH_take 9 (v := .agg [.int .i64 0, .int .i64 0, .slice none 0 0].toArray) rfl (by kernel_rfl) (by kernel_rfl) (by kernel_rfl) rfl (fun W _ => by go_simp) hm ?_
          go_simp
          refine anyH_take 10 (v := .int .i64 12) rfl (by kernel_rfl) (by kernel_rfl) (by kernel_rfl) rfl (fun W _ => by go_simp) hm ?_
          go_simp
          refine wpAnyH_all (rs := [12]) (by kernel_rfl) (by simp) ?_
          intro i hi
          simp only [List.mem_cons, List.not_mem_nil, or_false] at hi
          subst hi
          refine anyH_opW 12 rfl rfl ?_
          intro K hK
          refine wpl_stwU 0 [.int .i64 0, .int .i64 0, .slice none 0 0] (Mem.enter HG.out) rfl rfl rfl 3 sz_term rfl rfl (by intro z hz; simp only [List.mem_cons, List.not_mem_nil, or_false] at hz; rcases hz with rfl | rfl | rfl <;> rfl) ?_
          intro v8 hu hm2
          have HRN : Hid (Row v8 g [.int .i64 0, .int .i64 0, .slice none 0 0] 24) := hm2.get 0 rfl
          replace hm := below_upd hm hu HGN.out hm.size
          clear hu hm2
          refine wpList_nil ?_
          refine hK _ _ hm ?_
          clear hK K
          go_simp
          refine anyH_take 13 (v := .int .i64 12) rfl (by kernel_rfl) (by kernel_rfl) (by kernel_rfl) rfl (fun W _ => by go_simp) hm ?_
          go_simp
          refine wpAnyH_done (by kernel_rfl) ?_ _
          simp only [endsIn]
          exact HKM.out _ _ ⟨g, (by kernel_rfl), hm, HGN.out, HRN.out⟩
      · intro K hK
        refine wpl_allocB _ zero_term (Mem.start v1) ?_
        intro v9 g hb hg hm2
        have HG : Hid (Row v9 g [.int .i64 0, .int .i64 0, .slice none 0 0] 24) := hm2.get 0 rfl
        have HGN : Hid (w13.heap.size ≤ g) := Nat.le_trans hm.size hg
        replace hm := hm.trans (hb.mono hm.size)
        clear hb hg hm2
        refine wpList_nil ?_
        refine hK _ _ hm ?_
        clear hK K
        go_simp
        refine wpAnyH_all (rs := [5]) (by kernel_rfl) (by simp) ?_
        intro i hi
        simp only [List.mem_cons, List.not_mem_nil, or_false] at hi
        subst hi
        refine anyH_opW 5 rfl rfl ?_
        intro K hK
        go_wp2_with (go_at_call 13; refine (HPB.out _ (HBB.out.trans (hm.mono HBB.out.size))).mono ?_; rintro e v10 ⟨he, hb⟩; subst he; have HGn : Hid (Row v10 g [.int .i64 0, .int .i64 0, .slice none 0 0] 24) := HG.out.below' hb; clear HG; have HG : Hid (Row v10 g [.int .i64 0, .int .i64 0, .slice none 0 0] 24) := HGn.out; clear HGn; replace hm := hm.trans (hb.mono hm.size); clear hb)
        refine hK _ _ hm ?_
        clear hK K
        go_simp
        refine anyH_take 6 (v := .string (mkS p3)) rfl (by kernel_rfl) (by kernel_rfl) (by kernel_rfl) rfl (fun W _ => exec_addB (mkS p2) (mkS lb) (mkS p3) (HP3.out ()).1 rfl rfl (HP3.out ()).2) hm ?_
        go_simp
        refine wpAnyH_all (rs := [7]) (by kernel_rfl) (by simp) ?_
        intro i hi
        simp only [List.mem_cons, List.not_mem_nil, or_false] at hi
        subst hi
        refine anyH_opW 7 rfl rfl ?_
        intro K hK
        go_wp2_with (go_at_call 12; refine (HPN.out _ (HBB.out.trans (hm.mono HBB.out.size))).mono ?_; rintro e v11 hq; obtain ⟨he, hb⟩ := hq; subst he; have HGn : Hid (Row v11 g [.int .i64 0, .int .i64 0, .slice none 0 0] 24) := HG.out.below' hb; clear HG; have HG : Hid (Row v11 g [.int .i64 0, .int .i64 0, .slice none 0 0] 24) := HGn.out; clear HGn; replace hm := hm.trans (hb.mono hm.size); clear hb)
        refine hK _ _ hm ?_
        clear hK K
        go_simp
        refine anyH_take 8 (v := (.tuple #[.agg [.int .i64 0, .int .i64 0, .slice none 0 0].toArray, .int .i64 12])) rfl (by kernel_rfl) (by kernel_rfl) (by kernel_rfl) rfl (fun W _ => by go_simp) hm ?_
        go_simp
        refine anyH_take 9 (v := .agg [.int .i64 0, .int .i64 0, .slice none 0 0].toArray) rfl (by kernel_rfl) (by kernel_rfl) (by kernel_rfl) rfl (fun W _ => by go_simp) hm ?_
        go_simp
        refine anyH_take 10 (v := .int .i64 12) rfl (by kernel_rfl) (by kernel_rfl) (by kernel_rfl) rfl (fun W _ => by go_simp) hm ?_
        go_simp
        refine wpAnyH_all (rs := [12]) (by kernel_rfl) (by simp) ?_
        intro i hi
        simp only [List.mem_cons, List.not_mem_nil, or_false] at hi
        subst hi
        refine anyH_opW 12 rfl rfl ?_
        intro K hK
        refine wpl_stwU 0 [.int .i64 0, .int .i64 0, .slice none 0 0] (Mem.enter HG.out) rfl rfl rfl 3 sz_term rfl rfl (by intro z hz; simp only [List.mem_cons, List.not_mem_nil, or_false] at hz; rcases hz with rfl | rfl | rfl <;> rfl) ?_
        intro v12 hu hm2
        have HRN : Hid (Row v12 g [.int .i64 0, .int .i64 0, .slice none 0 0] 24) := hm2.get 0 rfl
        replace hm := below_upd hm hu HGN.out hm.size
        clear hu hm2
        refine wpList_nil ?_
        refine hK _ _ hm ?_
        clear hK K
        go_simp
        refine anyH_take 13 (v := .int .i64 12) rfl (by kernel_rfl) (by kernel_rfl) (by kernel_rfl) rfl (fun W _ => by go_simp) hm ?_
        go_simp
        refine wpAnyH_done (by kernel_rfl) ?_ _
        simp only [endsIn]
        exact HKM.out _ _ ⟨g, (by kernel_rfl), hm, HGN.out, HRN.out⟩
    · intro K hK
      refine wpl_allocB _ zero_term (Mem.start wc) ?_
      intro v13 g hb hg hm2
      have HG : Hid (Row v13 g [.int .i64 0, .int .i64 0, .slice none 0 0] 24) := hm2.get 0 rfl
      have HGN : Hid (w13.heap.size ≤ g) := Nat.le_trans hm.size hg
      replace hm := hm.trans (hb.mono hm.size)
      clear hb hg hm2
      refine wpList_nil ?_
      refine hK _ _ hm ?_
      clear hK K
      go_simp
      refine wpAnyH_all (rs := [1]) (by kernel_rfl) (by simp) ?_
      intro i hi
      simp only [List.mem_cons, List.not_mem_nil, or_false] at hi
      subst hi
      refine anyH_opW 1 rfl rfl ?_
      intro K hK
      go_wp2_with (go_at_call 13; refine (HPA.out _ (HBB.out.trans (hm.mono HBB.out.size))).mono ?_; rintro e v14 ⟨he, hb⟩; subst he; have HGn : Hid (Row v14 g [.int .i64 0, .int .i64 0, .slice none 0 0] 24) := HG.out.below' hb; clear HG; have HG : Hid (Row v14 g [.int .i64 0, .int .i64 0, .slice none 0 0] 24) := HGn.out; clear HGn; replace hm := hm.trans (hb.mono hm.size); clear hb)
      refine hK _ _ hm ?_
      clear hK K
      go_simp
      refine anyH_take 2 (v := .string (mkS p1)) rfl (by kernel_rfl) (by kernel_rfl) (by kernel_rfl) rfl (fun W _ => exec_addB (mkS [40]) (mkS la) (mkS p1) (HP1.out ()).1 rfl rfl (HP1.out ()).2) hm ?_
      go_simp
      refine anyH_take 3 (v := .string (mkS p2)) rfl (by kernel_rfl) (by kernel_rfl) (by kernel_rfl) rfl (fun W _ => exec_addB (mkS p1) ⟨#[44]⟩ (mkS p2) (HP2.out ()).1 rfl rfl (HP2.out ()).2) hm ?_
      go_simp
      refine wpAnyH_all (rs := [5]) (by kernel_rfl) (by simp) ?_
      intro i hi
      simp only [List.mem_cons, List.not_mem_nil, or_false] at hi
      subst hi
      refine anyH_opW 5 rfl rfl ?_
      intro K hK
      go_wp2_with (go_at_call 13; refine (HPB.out _ (HBB.out.trans (hm.mono HBB.out.size))).mono ?_; rintro e v15 ⟨he, hb⟩; subst he; have HGn : Hid (Row v15 g [.int .i64 0, .int .i64 0, .slice none 0 0] 24) := HG.out.below' hb; clear HG; have HG : Hid (Row v15 g [.int .i64 0, .int .i64 0, .slice none 0 0] 24) := HGn.out; clear HGn; replace hm := hm.trans (hb.mono hm.size); clear hb)
      refine hK _ _ hm ?_
      clear hK K
      go_simp
      refine anyH_take 6 (v := .string (mkS p3)) rfl (by kernel_rfl) (by kernel_rfl) (by kernel_rfl) rfl (fun W _ => exec_addB (mkS p2) (mkS lb) (mkS p3) (HP3.out ()).1 rfl rfl (HP3.out ()).2) hm ?_
      go_simp
      refine wpAnyH_all (rs := [7]) (by kernel_rfl) (by simp) ?_
      intro i hi
      simp only [List.mem_cons, List.not_mem_nil, or_false] at hi
      subst hi
      refine anyH_opW 7 rfl rfl ?_
      intro K hK
      go_wp2_with (go_at_call 12; refine (HPN.out _ (HBB.out.trans (hm.mono HBB.out.size))).mono ?_; rintro e v16 hq; obtain ⟨he, hb⟩ := hq; subst he; have HGn : Hid (Row v16 g [.int .i64 0, .int .i64 0, .slice none 0 0] 24) := HG.out.below' hb; clear HG; have HG : Hid (Row v16 g [.int .i64 0, .int .i64 0, .slice none 0 0] 24) := HGn.out; clear HGn; replace hm := hm.trans (hb.mono hm.size); clear hb)
      refine hK _ _ hm ?_
      clear hK K
      go_simp
      refine anyH_take 8 (v := (.tuple #[.agg [.int .i64 0, .int .i64 0, .slice none 0 0].toArray, .int .i64 12])) rfl (by kernel_rfl) (by kernel_rfl) (by kernel_rfl) rfl (fun W _ => by go_simp) hm ?_
      go_simp
      refine anyH_take 9 (v := .agg [.int .i64 0, .int .i64 0, .slice none 0 0].toArray) rfl (by kernel_rfl) (by kernel_rfl) (by kernel_rfl) rfl (fun W _ => by go_simp) hm ?_
      go_simp
      refine anyH_take 10 (v := .int .i64 12) rfl (by kernel_rfl) (by kernel_rfl) (by kernel_rfl) rfl (fun W _ => by go_simp) hm ?_
      go_simp
      refine wpAnyH_all (rs := [12]) (by kernel_rfl) (by simp) ?_
      intro i hi
      simp only [List.mem_cons, List.not_mem_nil, or_false] at hi
      subst hi
      refine anyH_opW 12 rfl rfl ?_
      intro K hK
      refine wpl_stwU 0 [.int .i64 0, .int .i64 0, .slice none 0 0] (Mem.enter HG.out) rfl rfl rfl 3 sz_term rfl rfl (by intro z hz; simp only [List.mem_cons, List.not_mem_nil, or_false] at hz; rcases hz with rfl | rfl | rfl <;> rfl) ?_
      intro v17 hu hm2
      have HRN : Hid (Row v17 g [.int .i64 0, .int .i64 0, .slice none 0 0] 24) := hm2.get 0 rfl
      replace hm := below_upd hm hu HGN.out hm.size
      clear hu hm2
      refine wpList_nil ?_
      refine hK _ _ hm ?_
      clear hK K
      go_simp
      refine anyH_take 13 (v := .int .i64 12) rfl (by kernel_rfl) (by kernel_rfl) (by kernel_rfl) rfl (fun W _ => by go_simp) hm ?_
      go_simp
      refine wpAnyH_done (by kernel_rfl) ?_ _
      simp only [endsIn]
      exact HKM.out _ _ ⟨g, (by kernel_rfl), hm, HGN.out, HRN.out⟩
  rintro a' w15 ⟨g15, rfl, hb, hg, hr⟩
  have HR15 : Hid (Row w15 g15 [.int .i64 0, .int .i64 0, .slice none 0 0] 24) := hr
  replace HBB : Hid (Below Wa.heap.size Wa w15) := HBB.out.trans (hb.mono HBB.out.size)
  replace HRA : Hid (Row w15 g1 (tcs ta sa) 24) := HRA.out.below' hb
  replace HRB : Hid (Row w15 g2 (tcs tb sb) 24) := HRB.out.below' hb
  replace HR9 : Hid (Row w15 g9 [.int .i64 3, .int .i64 0, .slice p9 2 c9] 24) := HR9.out.below' hb
  replace HU9 : Hid (UX Wa.heap.size w9.heap.size w15 (.slice p9 2 c9) [ta, tb]) := HU9.out.below hb
  replace HR11 : Hid (Row w15 g11 [.int .i64 4, .int .i64 0, .slice p11 2 c11] 24) := HR11.out.below' hb
  replace HU11 : Hid (UX Wa.heap.size w11.heap.size w15 (.slice p11 2 c11) [ta, tb]) := HU11.out.below hb
  replace HR13 : Hid (Row w15 g13 [.int .i64 5, .int .i64 (k : Int), .slice p13 1 c13] 24) := HR13.out.below' hb
  replace HU13 : Hid (UX Wa.heap.size w13.heap.size w15 (.slice p13 1 c13) [ta]) := HU13.out.below hb
  clear hb hg hr
  simp only [putL]
  go_simp
  have hm := Mem.start w15
  obtain ⟨b9, q0, m0, e0, hp9, hx0, hs0⟩ := built_elem HU9.out (Nat.le_refl _) HBB.out (i := 0) (t := ta) rfl HTA.out.1 HSA.out
  obtain ⟨b9', q1, m1, e1, hp9', hx1, hs1⟩ := built_elem HU9.out (Nat.le_refl _) HBB.out (i := 1) (t := tb) rfl HTA.out.2 HSB.out
  obtain ⟨b13, q3, m3, e3, hp13, hx3, hs3⟩ := built_elem HU13.out (Nat.le_refl _) HBB.out (i := 0) (t := ta) rfl HTA.out.1 HSA.out
  subst hp9 hp13
  obtain rfl : b9 = b9' := by
    simp only [Option.some.injEq, Addr.mk.injEq] at hp9'
    exact hp9'.1
  clear hp9'
  have HX0 : Hid (∀ w', Below w15.heap.size w15 w' → w'.cell? ⟨b9, 0 * 3, none⟩ = some (.int .i64 ta.k) ∧ w'.cell? ⟨b9, 0 * 3 + 1, none⟩ = some (.int .i64 ta.n) ∧ w'.cell? ⟨b9, 0 * 3 + 2, none⟩ = some (.slice q0 m0 e0)) := hx0
  have HSM0 : Hid (∀ w', Below w15.heap.size w15 w' → Calls Tryd.prog 9 #[.agg (tcs ta (.slice q0 m0 e0)).toArray, .agg (tcs ta sa).toArray] w' fun e w'' => e = .returned (.bool true) ∧ Below w'.heap.size w' w'') := hs0
  have HX1 : Hid (∀ w', Below w15.heap.size w15 w' → w'.cell? ⟨b9, 1 * 3, none⟩ = some (.int .i64 tb.k) ∧ w'.cell? ⟨b9, 1 * 3 + 1, none⟩ = some (.int .i64 tb.n) ∧ w'.cell? ⟨b9, 1 * 3 + 2, none⟩ = some (.slice q1 m1 e1)) := hx1
  have HSM1 : Hid (∀ w', Below w15.heap.size w15 w' → Calls Tryd.prog 9 #[.agg (tcs tb (.slice q1 m1 e1)).toArray, .agg (tcs tb sb).toArray] w' fun e w'' => e = .returned (.bool true) ∧ Below w'.heap.size w' w'') := hs1
  have HX3 : Hid (∀ w', Below w15.heap.size w15 w' → w'.cell? ⟨b13, 0 * 3, none⟩ = some (.int .i64 ta.k) ∧ w'.cell? ⟨b13, 0 * 3 + 1, none⟩ = some (.int .i64 ta.n) ∧ w'.cell? ⟨b13, 0 * 3 + 2, none⟩ = some (.slice q3 m3 e3)) := hx3
  have HSM3 : Hid (∀ w', Below w15.heap.size w15 w' → Calls Tryd.prog 9 #[.agg (tcs ta (.slice q3 m3 e3)).toArray, .agg (tcs ta sa).toArray] w' fun e w'' => e = .returned (.bool true) ∧ Below w'.heap.size w' w'') := hs3
  clear hx0 hs0 hx1 hs1 hx3 hs3
  go_wp2_with fail
  refine wp_ends0 ?_
  refine anyH_startB (T := fun W => Below w15.heap.size w15 W) (by kernel_rfl) hm ?_
  intro wc hbw hmw
  replace hm : Below w15.heap.size w15 wc := hbw
  clear hbw hmw
  refine anyH_take 0 (v := .int .i64 0) rfl (by kernel_rfl) (by kernel_rfl) (by kernel_rfl) rfl (fun W _ => by go_simp) hm ?_
  go_simp
  refine anyH_take 1 (v := .bool true) rfl (by kernel_rfl) (by kernel_rfl) (by kernel_rfl) rfl (fun W _ => by go_simp) hm ?_
  go_simp
  refine anyH_take 2 (v := .bool true) rfl (by kernel_rfl) (by kernel_rfl) (by kernel_rfl) rfl (fun W _ => by go_simp) hm ?_
  go_simp
  refine anyH_takeG 3 (v := .pointer (some ⟨g9, 0, none⟩)) rfl (by kernel_rfl) (by kernel_rfl) (by kernel_rfl) rfl (fun W _ => by go_simp) hm ?_
  go_simp
  refine anyH_takeG 4 (v := .int .i64 3) rfl (by kernel_rfl) (by kernel_rfl) (by kernel_rfl) rfl (fun W hW => exec_ldx (.int .i64 3) ((HR9.out.below' hW).cell 0) rfl ag_int) hm ?_
  go_simp
  refine anyH_takeG 5 (v := .bool true) rfl (by kernel_rfl) (by kernel_rfl) (by kernel_rfl) rfl (fun W _ => by go_simp) hm ?_
  go_simp
  refine anyH_take 6 (v := .bool true) rfl (by kernel_rfl) (by kernel_rfl) (by kernel_rfl) rfl (fun W _ => by go_simp) hm ?_
  go_simp
  refine anyH_take 7 (v := .bool true) rfl (by kernel_rfl) (by kernel_rfl) (by kernel_rfl) rfl (fun W _ => by go_simp) hm ?_
  go_simp
  refine anyH_takeG 8 (v := .pointer (some ⟨g9, 2, none⟩)) rfl (by kernel_rfl) (by kernel_rfl) (by kernel_rfl) rfl (fun W _ => by go_simp) hm ?_
  go_simp
  refine anyH_takeG 9 (v := .slice (some ⟨b9, 0, none⟩) 2 c9) rfl (by kernel_rfl) (by kernel_rfl) (by kernel_rfl) rfl (fun W hW => exec_ldx (.slice (some ⟨b9, 0, none⟩) 2 c9) ((HR9.out.below' hW).cell 2) rfl ag_terms) hm ?_
  go_simp
  refine anyH_takeG 10 (v := .pointer (some ⟨b9, 0 * 3, none⟩)) rfl (by kernel_rfl) (by kernel_rfl) (by kernel_rfl) rfl (fun W _ => exec_ixT0 0 rfl rfl rfl (by decide)) hm ?_
  go_simp
  refine anyH_takeG 11 (v := .agg (tcs ta (.slice q0 m0 e0)).toArray) rfl (by kernel_rfl) (by kernel_rfl) (by kernel_rfl) rfl (fun W hW => exec_ldT rfl (HX0.out W hW).1 (HX0.out W hW).2.1 (HX0.out W hW).2.2) hm ?_
  go_simp
  refine anyH_takeG 12 (v := .agg (tcs ta sa).toArray) rfl (by kernel_rfl) (by kernel_rfl) (by kernel_rfl) rfl (fun W hW => exec_ldsG 0 (tcs ta sa) (HRA.out.below' hW) rfl _ Tryd.underlying24 rfl 3 sz_term (Nat.le_refl _) rfl) hm ?_
  go_simp
  refine wpAnyH_all (rs := [13]) (by kernel_rfl) (by simp) ?_
  intro i hi
  simp only [List.mem_cons, List.not_mem_nil, or_false] at hi
  subst hi
  refine anyH_opW 13 rfl rfl ?_
  intro K hK
  go_wp2_with (go_at_call 9; refine (HSM0.out _ hm).mono ?_; rintro e wz13 ⟨he, hb⟩; subst he; replace hm := hm.trans (hb.mono hm.size); clear hb)
  refine hK _ _ hm ?_
  clear hK K
  go_simp
  refine anyH_take 14 (v := .bool true) rfl (by kernel_rfl) (by kernel_rfl) (by kernel_rfl) rfl (fun W _ => by go_simp) hm ?_
  go_simp
  refine anyH_take 15 (v := .bool true) rfl (by kernel_rfl) (by kernel_rfl) (by kernel_rfl) rfl (fun W _ => by go_simp) hm ?_
  go_simp
  refine anyH_takeG 16 (v := .pointer (some ⟨g9, 2, none⟩)) rfl (by kernel_rfl) (by kernel_rfl) (by kernel_rfl) rfl (fun W _ => by go_simp) hm ?_
  go_simp
  refine anyH_takeG 17 (v := .slice (some ⟨b9, 0, none⟩) 2 c9) rfl (by kernel_rfl) (by kernel_rfl) (by kernel_rfl) rfl (fun W hW => exec_ldx (.slice (some ⟨b9, 0, none⟩) 2 c9) ((HR9.out.below' hW).cell 2) rfl ag_terms) hm ?_
  go_simp
  refine anyH_takeG 18 (v := .pointer (some ⟨b9, 1 * 3, none⟩)) rfl (by kernel_rfl) (by kernel_rfl) (by kernel_rfl) rfl (fun W _ => exec_ixT0 1 rfl rfl rfl (by decide)) hm ?_
  go_simp
  refine anyH_takeG 19 (v := .agg (tcs tb (.slice q1 m1 e1)).toArray) rfl (by kernel_rfl) (by kernel_rfl) (by kernel_rfl) rfl (fun W hW => exec_ldT rfl (HX1.out W hW).1 (HX1.out W hW).2.1 (HX1.out W hW).2.2) hm ?_
  go_simp
  refine anyH_takeG 20 (v := .agg (tcs tb sb).toArray) rfl (by kernel_rfl) (by kernel_rfl) (by kernel_rfl) rfl (fun W hW => exec_ldsG 0 (tcs tb sb) (HRB.out.below' hW) rfl _ Tryd.underlying24 rfl 3 sz_term (Nat.le_refl _) rfl) hm ?_
  go_simp
  refine wpAnyH_all (rs := [21]) (by kernel_rfl) (by simp) ?_
  intro i hi
  simp only [List.mem_cons, List.not_mem_nil, or_false] at hi
  subst hi
  refine anyH_opW 21 rfl rfl ?_
  intro K hK
  go_wp2_with (go_at_call 9; refine (HSM1.out _ hm).mono ?_; rintro e wz21 ⟨he, hb⟩; subst he; replace hm := hm.trans (hb.mono hm.size); clear hb)
  refine hK _ _ hm ?_
  clear hK K
  go_simp
  refine anyH_take 22 (v := .bool true) rfl (by kernel_rfl) (by kernel_rfl) (by kernel_rfl) rfl (fun W _ => by go_simp) hm ?_
  go_simp
  refine anyH_take 23 (v := .bool true) rfl (by kernel_rfl) (by kernel_rfl) (by kernel_rfl) rfl (fun W _ => by go_simp) hm ?_
  go_simp
  refine anyH_takeG 24 (v := .int .i64 0) rfl (by kernel_rfl) (by kernel_rfl) (by kernel_rfl) rfl (fun W _ => by go_simp) hm ?_
  go_simp
  refine anyH_takeG 25 (v := .bool true) rfl (by kernel_rfl) (by kernel_rfl) (by kernel_rfl) rfl (fun W _ => by go_simp) hm ?_
  go_simp
  refine anyH_take 26 (v := .bool true) rfl (by kernel_rfl) (by kernel_rfl) (by kernel_rfl) rfl (fun W _ => by go_simp) hm ?_
  go_simp
  refine anyH_take 27 (v := .bool true) rfl (by kernel_rfl) (by kernel_rfl) (by kernel_rfl) rfl (fun W _ => by go_simp) hm ?_
  go_simp
  refine anyH_takeG 28 (v := .pointer (some ⟨g11, 0, none⟩)) rfl (by kernel_rfl) (by kernel_rfl) (by kernel_rfl) rfl (fun W _ => by go_simp) hm ?_
  go_simp
  refine anyH_takeG 29 (v := .int .i64 4) rfl (by kernel_rfl) (by kernel_rfl) (by kernel_rfl) rfl (fun W hW => exec_ldx (.int .i64 4) ((HR11.out.below' hW).cell 0) rfl ag_int) hm ?_
  go_simp
  refine anyH_takeG 30 (v := .bool true) rfl (by kernel_rfl) (by kernel_rfl) (by kernel_rfl) rfl (fun W _ => by go_simp) hm ?_
  go_simp
  refine anyH_take 31 (v := .bool true) rfl (by kernel_rfl) (by kernel_rfl) (by kernel_rfl) rfl (fun W _ => by go_simp) hm ?_
  go_simp
  refine anyH_take 32 (v := .bool true) rfl (by kernel_rfl) (by kernel_rfl) (by kernel_rfl) rfl (fun W _ => by go_simp) hm ?_
  go_simp
  refine anyH_takeG 33 (v := .int .i64 0) rfl (by kernel_rfl) (by kernel_rfl) (by kernel_rfl) rfl (fun W _ => by go_simp) hm ?_
  go_simp
  refine anyH_takeG 34 (v := .bool true) rfl (by kernel_rfl) (by kernel_rfl) (by kernel_rfl) rfl (fun W _ => by go_simp) hm ?_
  go_simp
  refine anyH_take 35 (v := .bool true) rfl (by kernel_rfl) (by kernel_rfl) (by kernel_rfl) rfl (fun W _ => by go_simp) hm ?_
  go_simp
  refine anyH_take 36 (v := .bool true) rfl (by kernel_rfl) (by kernel_rfl) (by kernel_rfl) rfl (fun W _ => by go_simp) hm ?_
  go_simp
  refine anyH_takeG 37 (v := .pointer (some ⟨g13, 0, none⟩)) rfl (by kernel_rfl) (by kernel_rfl) (by kernel_rfl) rfl (fun W _ => by go_simp) hm ?_
  go_simp
  refine anyH_takeG 38 (v := .int .i64 5) rfl (by kernel_rfl) (by kernel_rfl) (by kernel_rfl) rfl (fun W hW => exec_ldx (.int .i64 5) ((HR13.out.below' hW).cell 0) rfl ag_int) hm ?_
  go_simp
  refine anyH_takeG 39 (v := .bool true) rfl (by kernel_rfl) (by kernel_rfl) (by kernel_rfl) rfl (fun W _ => by go_simp) hm ?_
  go_simp
  refine anyH_take 40 (v := .bool true) rfl (by kernel_rfl) (by kernel_rfl) (by kernel_rfl) rfl (fun W _ => by go_simp) hm ?_
  go_simp
  refine anyH_take 41 (v := .bool true) rfl (by kernel_rfl) (by kernel_rfl) (by kernel_rfl) rfl (fun W _ => by go_simp) hm ?_
  go_simp
  refine anyH_takeG 42 (v := .pointer (some ⟨g13, 1, none⟩)) rfl (by kernel_rfl) (by kernel_rfl) (by kernel_rfl) rfl (fun W _ => by go_simp) hm ?_
  go_simp
  refine anyH_takeG 43 (v := .int .i64 (k : Int)) rfl (by kernel_rfl) (by kernel_rfl) (by kernel_rfl) rfl (fun W hW => exec_ldx (.int .i64 (k : Int)) ((HR13.out.below' hW).cell 1) rfl ag_int) hm ?_
  go_simp
  refine anyH_takeG 44 (v := .int .i64 (k : Int)) rfl (by kernel_rfl) (by kernel_rfl) (by kernel_rfl) rfl (fun W _ => by go_simp) hm ?_
  go_simp
  refine anyH_takeG 45 (v := .bool true) rfl (by kernel_rfl) (by kernel_rfl) (by kernel_rfl) rfl (fun W _ => by go_simp) hm ?_
  go_simp
  refine anyH_take 46 (v := .bool true) rfl (by kernel_rfl) (by kernel_rfl) (by kernel_rfl) rfl (fun W _ => by go_simp) hm ?_
  go_simp
  refine anyH_take 47 (v := .bool true) rfl (by kernel_rfl) (by kernel_rfl) (by kernel_rfl) rfl (fun W _ => by go_simp) hm ?_
  go_simp
  refine anyH_takeG 48 (v := .pointer (some ⟨g13, 2, none⟩)) rfl (by kernel_rfl) (by kernel_rfl) (by kernel_rfl) rfl (fun W _ => by go_simp) hm ?_
  go_simp
  refine anyH_takeG 49 (v := .slice (some ⟨b13, 0, none⟩) 1 c13) rfl (by kernel_rfl) (by kernel_rfl) (by kernel_rfl) rfl (fun W hW => exec_ldx (.slice (some ⟨b13, 0, none⟩) 1 c13) ((HR13.out.below' hW).cell 2) rfl ag_terms) hm ?_
  go_simp
  refine anyH_takeG 50 (v := .pointer (some ⟨b13, 0 * 3, none⟩)) rfl (by kernel_rfl) (by kernel_rfl) (by kernel_rfl) rfl (fun W _ => exec_ixT0 0 rfl rfl rfl (by decide)) hm ?_
  go_simp
  refine anyH_takeG 51 (v := .agg (tcs ta (.slice q3 m3 e3)).toArray) rfl (by kernel_rfl) (by kernel_rfl) (by kernel_rfl) rfl (fun W hW => exec_ldT rfl (HX3.out W hW).1 (HX3.out W hW).2.1 (HX3.out W hW).2.2) hm ?_
  go_simp
  refine anyH_takeG 52 (v := .agg (tcs ta sa).toArray) rfl (by kernel_rfl) (by kernel_rfl) (by kernel_rfl) rfl (fun W hW => exec_ldsG 0 (tcs ta sa) (HRA.out.below' hW) rfl _ Tryd.underlying24 rfl 3 sz_term (Nat.le_refl _) rfl) hm ?_
  go_simp
  refine wpAnyH_all (rs := [53]) (by kernel_rfl) (by simp) ?_
  intro i hi
  simp only [List.mem_cons, List.not_mem_nil, or_false] at hi
  subst hi
  refine anyH_opW 53 rfl rfl ?_
  intro K hK
  go_wp2_with (go_at_call 9; refine (HSM3.out _ hm).mono ?_; rintro e wz53 ⟨he, hb⟩; subst he; replace hm := hm.trans (hb.mono hm.size); clear hb)
  refine hK _ _ hm ?_
  clear hK K
  go_simp
  refine anyH_take 54 (v := .bool true) rfl (by kernel_rfl) (by kernel_rfl) (by kernel_rfl) rfl (fun W _ => by go_simp) hm ?_
  go_simp
  refine anyH_take 55 (v := .bool true) rfl (by kernel_rfl) (by kernel_rfl) (by kernel_rfl) rfl (fun W _ => by go_simp) hm ?_
  go_simp
  refine anyH_takeG 56 (v := .int .i64 12) rfl (by kernel_rfl) (by kernel_rfl) (by kernel_rfl) rfl (fun W _ => by go_simp) hm ?_
  go_simp
  refine anyH_takeG 57 (v := .bool true) rfl (by kernel_rfl) (by kernel_rfl) (by kernel_rfl) rfl (fun W _ => by go_simp) hm ?_
  go_simp
  refine anyH_take 58 (v := .bool true) rfl (by kernel_rfl) (by kernel_rfl) (by kernel_rfl) rfl (fun W _ => by go_simp) hm ?_
  go_simp
  refine anyH_take 59 (v := .bool true) rfl (by kernel_rfl) (by kernel_rfl) (by kernel_rfl) rfl (fun W _ => by go_simp) hm ?_
  go_simp
  refine wpAnyH_done (by kernel_rfl) ?_ _
  simp only [endsIn]
  go_wp2_with fail
  go_ret
  exact ⟨rfl, HBB.out.trans (hm.mono HBB.out.size)⟩
end Go.Proofs.YtbiinchmbclmcaaDoor
