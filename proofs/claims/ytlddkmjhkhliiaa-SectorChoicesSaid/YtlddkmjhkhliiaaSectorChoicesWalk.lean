/- The walk of SectorChoices. -/
import Derived.Test.YtlddkmjhkhliiaaSecChoices
namespace Go.Proofs.Ytlddkmjhkhliiaa
open Go Go.RowKit Go.Maps
set_option maxHeartbeats 4000000 in
set_option maxRecDepth 100000 in
theorem sectorChoices_walk (wl fl cl : List Bool) (hwl : wl.length = 6) (hfl : fl.length = 6) (hcl : cl.length = 6) (w : World) :
    Calls Try.prog 7 #[.agg (bls wl).toArray, .agg (bls fl).toArray, .agg (bls cl).toArray] w fun e w' => e = .returned (.bool true) ∧ Below w.heap.size w w' := by
  have hm := Mem.start w
  obtain ⟨F, hF⟩ : ∃ F : Nat → Bool, F = fun j => fl.getD j false := ⟨_, rfl⟩
  obtain ⟨W, hW⟩ : ∃ W : Nat → Bool, W = fun j => wl.getD j false := ⟨_, rfl⟩
  obtain ⟨C, hC⟩ : ∃ C : Nat → Bool, C = fun j => cl.getD j false := ⟨_, rfl⟩
  have HF : Hid (∀ i, i < 6 → (bls fl)[i]? = some (.bool (F i))) := fun i hi => by rw [bls_get fl i (by omega), hF]
  have HW : Hid (∀ i, i < 6 → (bls wl)[i]? = some (.bool (W i))) := fun i hi => by rw [bls_get wl i (by omega), hW]
  have HC : Hid (∀ i, i < 6 → (bls cl)[i]? = some (.bool (C i))) := fun i hi => by rw [bls_get cl i (by omega), hC]
  clear hF hW hC hwl hfl hcl
  go_enter Try.func7, Try.ntmps7
  go_wp2_with (first
    | ((with_reducible refine at_op (some 3) (.box 49 (.tmp 0)) ?_); refine wpl_box (bls wl) rfl hm ?_; clear hm; intro wa q3 hm)
    | ((with_reducible refine at_op (some 4) (.box 49 (.tmp 1)) ?_); refine wpl_box (bls fl) rfl hm ?_; clear hm; intro wb q4 hm)
    | ((with_reducible refine at_op (some 5) (.box 49 (.tmp 2)) ?_); refine wpl_box (bls cl) rfl hm ?_; clear hm; intro wc q5 hm)
    | (go_at_call 9; refine (known6_any _).mono ?_; rintro e wk ⟨rfl, hbk⟩; replace hm := hm.call hbk; clear hbk))
  go_at_call 10
  refine (new_any 6 _).mono ?_
  rintro e wn ⟨g, rfl, mb, kv, hd, hf, hb⟩
  have ST : Hid (Sd w wn g mb kv (Dk.new 6) [(q5, bls cl, 49), (q4, bls fl, 49), (q3, bls wl, 49)]) := Sd.startR hm hb hd hf
  clear hd hf hb hm
  go_wp2_with fail
  go_loopw [8] (fun vi wr => ∃ (i : Nat) (d : Dk), i ≤ 6 ∧ vi = .int .i64 (i : Int) ∧ d.C1 F i ∧ Sd w wr g mb kv d [(q5, bls cl, 49), (q4, bls fl, 49), (q3, bls wl, 49)]) (fun vi _ => 6 - (intOf vi).toNat)
  case atStart => exact ⟨0, _, by omega, rfl, c1_new F, ST.out⟩
  case round =>
    clear ST
    obtain ⟨i, d, hi, rfl, hc, st'⟩ := hrel
    have ST : Hid (Sd w wr g mb kv d [(q5, bls cl, 49), (q4, bls fl, 49), (q3, bls wl, 49)]) := st'
    have HD : Hid (d.C1 F i) := hc
    clear st' hc
    by_cases hlt : i < 6
    · have hlt2 : (i : Int) < 6 := by omega
      have HFI : Hid ((bls fl)[i]? = some (.bool (F i))) := HF.out i hlt
      cases hFi : F i with
      | true =>
        rw [hFi] at HFI
        have HFT : Hid (F i = true) := hFi
        clear hFi
        go_wp2_with (first
          | ((with_reducible refine at_op (some 25) (.load 4 (.tmp 24)) ?_); go_must (refine wpl_ldr i (.bool true) ((Sd.mem ST.out).get 1 rfl) rfl ag_bool (HFI.out) ?_)))
        go_at_call 12
        refine (write_ok (Sd.alloc ST.out (u8s [1]) 5) (i : Int) [1] _ (by omega) (by rw [HD.out.n]; exact hlt2) HD.out.calm.step.off (by decide) (by unfold Bytes; decide) (HD.out.num (by omega)) (Sd.sl (Sd.alloc ST.out (u8s [1]) 5) 0 rfl 1 1 rfl (Nat.le_refl _))).mono ?_
        rintro e w1 ⟨rfl, st'⟩
        rw [Int.toNat_natCast] at st'
        obtain ⟨d1, hd1⟩ : ∃ x, x = d.step.put i (over (d.now i) [1]) := ⟨_, rfl⟩
        have HD1 : Hid (d1.C1 F (i + 1)) := by rw [hd1]; exact HD.out.write HFT.out hlt
        have ST1 : Hid (Sd w w1 g mb kv d1 [(q5, bls cl, 49), (q4, bls fl, 49), (q3, bls wl, 49)]) := (Sd.congr st' hd1.symm).tail
        clear st' hd1 ST HD
        go_wp2_with fail
        go_roundw
        case rel => exact ⟨i + 1, d1, by omega, by go_num, HD1.out, ST1.out⟩
        case measure => simp [intOf]; omega
      | false =>
        rw [hFi] at HFI
        have HFT : Hid (F i = false) := hFi
        clear hFi
        go_wp2_with (first
          | ((with_reducible refine at_op (some 25) (.load 4 (.tmp 24)) ?_); go_must (refine wpl_ldr i (.bool false) ((Sd.mem ST.out).get 1 rfl) rfl ag_bool (HFI.out) ?_)))
        go_roundw
        case rel => exact ⟨i + 1, d, by omega, by go_num, HD.out.skip HFT.out, ST.out⟩
        case measure => simp [intOf]; omega
    · have hi6 : i = 6 := by omega
      subst hi6
      go_wp2_with fail
      go_at_call 14
      refine (flush_ok ST.out HD.out.calm.step.off (HD.out.num (by omega))).mono ?_
      rintro e w2 ⟨rfl, st'⟩
      obtain ⟨d2, hd2⟩ : ∃ x, x = d.step.flushed := ⟨_, rfl⟩
      have HD2 : Hid (d2.C2 F W 0) := by rw [hd2]; exact HD.out.flush W
      have ST2 : Hid (Sd w w2 g mb kv d2 [(q5, bls cl, 49), (q4, bls fl, 49), (q3, bls wl, 49)]) := Sd.congr st' hd2.symm
      clear st' hd2 ST HD
      go_wp2_with (first
        | ((with_reducible refine at_op (some 10) (.alloc 50) ?_); go_must (refine wpl_alloc _ zero_b6 (Mem.start _) ?_); intro w3 qw hq; have ST' := Sd.took ST2.out hq; rw [← wantAt_zero (fin6 F W C)] at ST'; clear hq ST2; have ST : Hid (Sd w w3 g mb kv d2 [(qw, u8s (wantAt (fin6 F W C) 0), 50), (q5, bls cl, 49), (q4, bls fl, 49), (q3, bls wl, 49)]) := ST'; clear ST'))
      go_loopw [9, 11] (fun vc vi wr => ∃ (i : Nat) (d : Dk), i ≤ 6 ∧ vi = .int .i64 (i : Int) ∧ d.C2 F W i ∧ OwnB 5 wr w.heap.size vc (chs W C i) ∧ Sd w wr g mb kv d [(qw, u8s (wantAt (fin6 F W C) i), 50), (q5, bls cl, 49), (q4, bls fl, 49), (q3, bls wl, 49)]) (fun _ vi _ => 6 - (intOf vi).toNat)
      case atStart => exact ⟨0, _, by omega, rfl, HD2.out, OwnB.nil _ _ _, ST.out⟩
      case round =>
        clear ST HD2
        obtain ⟨i, d, hi, rfl, hc, ho, st'⟩ := hrel
        have ST : Hid (Sd w wr g mb kv d [(qw, u8s (wantAt (fin6 F W C) i), 50), (q5, bls cl, 49), (q4, bls fl, 49), (q3, bls wl, 49)]) := st'
        have HD : Hid (d.C2 F W i) := hc
        have HO : Hid (OwnB 5 wr w.heap.size _ (chs W C i)) := ho
        clear st' hc ho
        by_cases hlt : i < 6
        · have hlt2 : (i : Int) < 6 := by omega
          have HFI : Hid ((bls fl)[i]? = some (.bool (F i))) := HF.out i hlt
          have HWI : Hid ((bls wl)[i]? = some (.bool (W i))) := HW.out i hlt
          have HCI : Hid ((bls cl)[i]? = some (.bool (C i))) := HC.out i hlt
          have HLN : Hid (i < (u8s (wantAt (fin6 F W C) i)).length) := by show i < _; rw [u8s_length, wantAt_length]; exact hlt
          cases hFi : F i with
          | true =>
            rw [hFi] at HFI
            have HFT : Hid (F i = true) := hFi
            clear hFi
            cases hWi : W i with
            | false =>
              rw [hWi] at HWI
              have HWT : Hid (W i = false) := hWi
              clear hWi
              have HFN : Hid (fin6 F W C i = 1) := by show _ = _; simp [fin6, HFT.out, HWT.out]
              go_wp2_with (first
                | ((with_reducible refine at_op (some 42) (.load 4 (.tmp 41)) ?_); go_must (refine wpl_ldr i (.bool true) ((Sd.mem ST.out).get 2 rfl) rfl ag_bool (HFI.out) ?_))
                | ((with_reducible refine at_op none (.store 5 (.tmp 44) (.const (.int .u8 1))) ?_); go_must (refine wpl_stc 0 i (.int .u8 1) (Mem.enter ((Sd.mem ST.out).get 0 rfl)) rfl rfl rfl sz_u8 HLN.out rfl rfl ?_); intro w4 hq; have HO' := OwnB.upd HO.out ((Sd.mem ST.out).get 0 rfl) (by decide) hq.toUpd; have ST' := Sd.turned ST.out 0 rfl hq; clear hq ST HO; have ST : Hid (Sd w w4 g mb kv d [(qw, (u8s (wantAt (fin6 F W C) i)).set i (.int .u8 1), 50), (q5, bls cl, 49), (q4, bls fl, 49), (q3, bls wl, 49)]) := ST'; have HO : Hid (OwnB 5 w4 w.heap.size _ (chs W C i)) := HO'; clear ST' HO')
                | ((with_reducible refine at_op (some 47) (.load 4 (.tmp 46)) ?_); go_must (refine wpl_ldr i (.bool false) ((Sd.mem ST.out).get 3 rfl) rfl ag_bool (HWI.out) ?_)))
              have ST9 : Hid (Sd w w4 g mb kv d [(qw, u8s (wantAt (fin6 F W C) (i + 1)), 50), (q5, bls cl, 49), (q4, bls fl, 49), (q3, bls wl, 49)]) := by
                have h := ST.out
                rw [u8s_set, show (1 : Int) = fin6 F W C i from HFN.out.symm, wantAt_set _ i hlt] at h
                exact h
              have HO9 : Hid (OwnB 5 w4 w.heap.size u9 (chs W C (i + 1))) := by rw [chs_neg W C i HWT.out]; exact HO.out
              go_roundw
              case rel => exact ⟨i + 1, d, by omega, by go_num, HD.out.skip HWT.out, HO9.out, ST9.out⟩
              case measure => simp [intOf]; omega
            | true =>
              rw [hWi] at HWI
              have HWT : Hid (W i = true) := hWi
              clear hWi
              cases hCi : C i with
              | false =>
                rw [hCi] at HCI
                have HCT : Hid (C i = false) := hCi
                clear hCi
                have HFN : Hid (fin6 F W C i = 1) := by show _ = _; simp [fin6, HFT.out, HCT.out]
                go_wp2_with (first
                  | ((with_reducible refine at_op (some 42) (.load 4 (.tmp 41)) ?_); go_must (refine wpl_ldr i (.bool true) ((Sd.mem ST.out).get 2 rfl) rfl ag_bool (HFI.out) ?_))
                  | ((with_reducible refine at_op none (.store 5 (.tmp 44) (.const (.int .u8 1))) ?_); go_must (refine wpl_stc 0 i (.int .u8 1) (Mem.enter ((Sd.mem ST.out).get 0 rfl)) rfl rfl rfl sz_u8 HLN.out rfl rfl ?_); intro w4 hq; have HO' := OwnB.upd HO.out ((Sd.mem ST.out).get 0 rfl) (by decide) hq.toUpd; have ST' := Sd.turned ST.out 0 rfl hq; clear hq ST HO; have ST : Hid (Sd w w4 g mb kv d [(qw, (u8s (wantAt (fin6 F W C) i)).set i (.int .u8 1), 50), (q5, bls cl, 49), (q4, bls fl, 49), (q3, bls wl, 49)]) := ST'; have HO : Hid (OwnB 5 w4 w.heap.size _ (chs W C i)) := HO'; clear ST' HO')
                  | ((with_reducible refine at_op (some 47) (.load 4 (.tmp 46)) ?_); go_must (refine wpl_ldr i (.bool true) ((Sd.mem ST.out).get 3 rfl) rfl ag_bool (HWI.out) ?_)))
                go_at_call 12
                refine (write_okU (Sd.alloc ST.out (u8s [2]) 5) (i : Int) [2] _ (by omega) (by rw [HD.out.n]; exact hlt2) HD.out.calm.step.off (by decide) (by unfold Bytes; decide) (HD.out.num (by omega)) (Sd.sl (Sd.alloc ST.out (u8s [2]) 5) 0 rfl 1 1 rfl (Nat.le_refl _))).mono ?_
                rintro e w5 ⟨rfl, st', hu⟩
                rw [Int.toNat_natCast] at st'
                obtain ⟨d5, hd5⟩ : ∃ x, x = d.step.put i (over (d.now i) [2]) := ⟨_, rfl⟩
                have HD5 : Hid (d5.C2 F W (i + 1)) := by rw [hd5]; exact HD.out.write HWT.out hlt
                have ho5 := OwnB.turnS (OwnB.alloc HO.out (.cells (u8s [2]).toArray 5)) (Sd.dk (Sd.alloc ST.out (u8s [2]) 5)) hu
                clear HO hu
                have HO : Hid (OwnB 5 w5 w.heap.size _ (chs W C i)) := ho5
                have ST' := (Sd.congr st' hd5.symm).tail
                clear st' hd5 ST HD ho5
                have ST : Hid (Sd w w5 g mb kv d5 [(qw, (u8s (wantAt (fin6 F W C) i)).set i (.int .u8 1), 50), (q5, bls cl, 49), (q4, bls fl, 49), (q3, bls wl, 49)]) := ST'
                clear ST'
                go_wp2_with (first
                  | ((with_reducible refine at_op (some 56) (.load 4 (.tmp 55)) ?_); go_must (refine wpl_ldr i (.bool false) ((Sd.mem ST.out).get 1 rfl) rfl ag_bool (HCI.out) ?_))
                  | ((with_reducible refine at_op (some 62) (.call { callee := .builtin .append, args := #[.tmp 59, .tmp 61], argTypes := #[28, 28] }) ?_); go_must (refine wpl_appD rfl [0] (Sd.below ST.out ((Below.refl _ _).alloc (Nat.le_refl _) _)) (OwnB.alloc HO.out _) (by intro r hr; simp only [List.mem_cons, List.not_mem_nil, or_false] at hr; rcases hr with rfl | rfl | rfl | rfl <;> simp) rfl rfl rfl (fun _ => ⟨_, 0, rfl, Seg.newO _ [0] _ _⟩) (by have := chs_length W C i; simp; omega) ?_); intro v7 w7 ho7 st7; have HO7 : Hid _ := ho7; have ST7 : Hid _ := st7; clear ho7 st7 HO ST))
                have ST9 : Hid (Sd w w7 g mb kv d5 [(qw, u8s (wantAt (fin6 F W C) (i + 1)), 50), (q5, bls cl, 49), (q4, bls fl, 49), (q3, bls wl, 49)]) := by
                  have h : Sd w w7 g mb kv d5 [(qw, (u8s (wantAt (fin6 F W C) i)).set i (.int .u8 1), 50), (q5, bls cl, 49), (q4, bls fl, 49), (q3, bls wl, 49)] := ST7.out
                  rw [u8s_set, show (1 : Int) = fin6 F W C i from HFN.out.symm, wantAt_set _ i hlt] at h
                  exact h
                have HO9 : Hid (OwnB 5 w7 w.heap.size v7 (chs W C (i + 1))) := by
                  rw [chs_pos W C i HWT.out, show pick6 C i = 0 by simp [pick6, HCT.out]]
                  exact HO7.out
                go_roundw
                case rel => exact ⟨i + 1, d5, by omega, by go_num, HD5.out, HO9.out, ST9.out⟩
                case measure => simp [intOf]; omega
              | true =>
                rw [hCi] at HCI
                have HCT : Hid (C i = true) := hCi
                clear hCi
                have HFN : Hid (fin6 F W C i = 2) := by show _ = _; simp [fin6, HWT.out, HCT.out]
                go_wp2_with (first
                  | ((with_reducible refine at_op (some 42) (.load 4 (.tmp 41)) ?_); go_must (refine wpl_ldr i (.bool true) ((Sd.mem ST.out).get 2 rfl) rfl ag_bool (HFI.out) ?_))
                  | ((with_reducible refine at_op none (.store 5 (.tmp 44) (.const (.int .u8 1))) ?_); go_must (refine wpl_stc 0 i (.int .u8 1) (Mem.enter ((Sd.mem ST.out).get 0 rfl)) rfl rfl rfl sz_u8 HLN.out rfl rfl ?_); intro w4 hq; have HO' := OwnB.upd HO.out ((Sd.mem ST.out).get 0 rfl) (by decide) hq.toUpd; have ST' := Sd.turned ST.out 0 rfl hq; clear hq ST HO; have ST : Hid (Sd w w4 g mb kv d [(qw, (u8s (wantAt (fin6 F W C) i)).set i (.int .u8 1), 50), (q5, bls cl, 49), (q4, bls fl, 49), (q3, bls wl, 49)]) := ST'; have HO : Hid (OwnB 5 w4 w.heap.size _ (chs W C i)) := HO'; clear ST' HO')
                  | ((with_reducible refine at_op (some 47) (.load 4 (.tmp 46)) ?_); go_must (refine wpl_ldr i (.bool true) ((Sd.mem ST.out).get 3 rfl) rfl ag_bool (HWI.out) ?_)))
                go_at_call 12
                refine (write_okU (Sd.alloc ST.out (u8s [2]) 5) (i : Int) [2] _ (by omega) (by rw [HD.out.n]; exact hlt2) HD.out.calm.step.off (by decide) (by unfold Bytes; decide) (HD.out.num (by omega)) (Sd.sl (Sd.alloc ST.out (u8s [2]) 5) 0 rfl 1 1 rfl (Nat.le_refl _))).mono ?_
                rintro e w5 ⟨rfl, st', hu⟩
                rw [Int.toNat_natCast] at st'
                obtain ⟨d5, hd5⟩ : ∃ x, x = d.step.put i (over (d.now i) [2]) := ⟨_, rfl⟩
                have HD5 : Hid (d5.C2 F W (i + 1)) := by rw [hd5]; exact HD.out.write HWT.out hlt
                have ho5 := OwnB.turnS (OwnB.alloc HO.out (.cells (u8s [2]).toArray 5)) (Sd.dk (Sd.alloc ST.out (u8s [2]) 5)) hu
                clear HO hu
                have HO : Hid (OwnB 5 w5 w.heap.size _ (chs W C i)) := ho5
                have ST' := (Sd.congr st' hd5.symm).tail
                clear st' hd5 ST HD ho5
                have ST : Hid (Sd w w5 g mb kv d5 [(qw, (u8s (wantAt (fin6 F W C) i)).set i (.int .u8 1), 50), (q5, bls cl, 49), (q4, bls fl, 49), (q3, bls wl, 49)]) := ST'
                clear ST'
                go_wp2_with (first
                  | ((with_reducible refine at_op (some 56) (.load 4 (.tmp 55)) ?_); go_must (refine wpl_ldr i (.bool true) ((Sd.mem ST.out).get 1 rfl) rfl ag_bool (HCI.out) ?_))
                  | ((with_reducible refine at_op none (.store 5 (.tmp 58) (.const (.int .u8 2))) ?_); go_must (refine wpl_stc 0 i (.int .u8 2) (Mem.enter ((Sd.mem ST.out).get 0 rfl)) rfl rfl rfl sz_u8 (by rw [List.length_set]; exact HLN.out) rfl rfl ?_); intro w6 hq; have HO' := OwnB.upd HO.out ((Sd.mem ST.out).get 0 rfl) (by decide) hq.toUpd; have ST' := Sd.turned ST.out 0 rfl hq; clear hq ST HO; have ST : Hid (Sd w w6 g mb kv d5 [(qw, ((u8s (wantAt (fin6 F W C) i)).set i (.int .u8 1)).set i (.int .u8 2), 50), (q5, bls cl, 49), (q4, bls fl, 49), (q3, bls wl, 49)]) := ST'; have HO : Hid (OwnB 5 w6 w.heap.size _ (chs W C i)) := HO'; clear ST' HO')
                  | ((with_reducible refine at_op (some 62) (.call { callee := .builtin .append, args := #[.tmp 59, .tmp 61], argTypes := #[28, 28] }) ?_); go_must (refine wpl_appD rfl [255] (Sd.below ST.out ((Below.refl _ _).alloc (Nat.le_refl _) _)) (OwnB.alloc HO.out _) (by intro r hr; simp only [List.mem_cons, List.not_mem_nil, or_false] at hr; rcases hr with rfl | rfl | rfl | rfl <;> simp) rfl rfl rfl (fun _ => ⟨_, 0, rfl, Seg.newO _ [255] _ _⟩) (by have := chs_length W C i; simp; omega) ?_); intro v7 w7 ho7 st7; have HO7 : Hid _ := ho7; have ST7 : Hid _ := st7; clear ho7 st7 HO ST))
                have ST9 : Hid (Sd w w7 g mb kv d5 [(qw, u8s (wantAt (fin6 F W C) (i + 1)), 50), (q5, bls cl, 49), (q4, bls fl, 49), (q3, bls wl, 49)]) := by
                  have h : Sd w w7 g mb kv d5 [(qw, ((u8s (wantAt (fin6 F W C) i)).set i (.int .u8 1)).set i (.int .u8 2), 50), (q5, bls cl, 49), (q4, bls fl, 49), (q3, bls wl, 49)] := ST7.out
                  rw [List.set_set, u8s_set, show (2 : Int) = fin6 F W C i from HFN.out.symm, wantAt_set _ i hlt] at h
                  exact h
                have HO9 : Hid (OwnB 5 w7 w.heap.size v7 (chs W C (i + 1))) := by
                  rw [chs_pos W C i HWT.out, show pick6 C i = 255 by simp [pick6, HCT.out]]
                  exact HO7.out
                go_roundw
                case rel => exact ⟨i + 1, d5, by omega, by go_num, HD5.out, HO9.out, ST9.out⟩
                case measure => simp [intOf]; omega
          | false =>
            rw [hFi] at HFI
            have HFT : Hid (F i = false) := hFi
            clear hFi
            cases hWi : W i with
            | false =>
              rw [hWi] at HWI
              have HWT : Hid (W i = false) := hWi
              clear hWi
              have HFN : Hid (fin6 F W C i = 0) := by show _ = _; simp [fin6, HFT.out, HWT.out]
              go_wp2_with (first
                | ((with_reducible refine at_op (some 42) (.load 4 (.tmp 41)) ?_); go_must (refine wpl_ldr i (.bool false) ((Sd.mem ST.out).get 2 rfl) rfl ag_bool (HFI.out) ?_))
                | ((with_reducible refine at_op (some 47) (.load 4 (.tmp 46)) ?_); go_must (refine wpl_ldr i (.bool false) ((Sd.mem ST.out).get 3 rfl) rfl ag_bool (HWI.out) ?_)))
              have ST9 : Hid (Sd w wr g mb kv d [(qw, u8s (wantAt (fin6 F W C) (i + 1)), 50), (q5, bls cl, 49), (q4, bls fl, 49), (q3, bls wl, 49)]) := by
                have h := ST.out
                rw [wantAt_same _ i HFN.out] at h
                exact h
              have HO9 : Hid (OwnB 5 wr w.heap.size u9 (chs W C (i + 1))) := by rw [chs_neg W C i HWT.out]; exact HO.out
              go_roundw
              case rel => exact ⟨i + 1, d, by omega, by go_num, HD.out.skip HWT.out, HO9.out, ST9.out⟩
              case measure => simp [intOf]; omega
            | true =>
              rw [hWi] at HWI
              have HWT : Hid (W i = true) := hWi
              clear hWi
              cases hCi : C i with
              | false =>
                rw [hCi] at HCI
                have HCT : Hid (C i = false) := hCi
                clear hCi
                have HFN : Hid (fin6 F W C i = 0) := by show _ = _; simp [fin6, HFT.out, HCT.out]
                go_wp2_with (first
                  | ((with_reducible refine at_op (some 42) (.load 4 (.tmp 41)) ?_); go_must (refine wpl_ldr i (.bool false) ((Sd.mem ST.out).get 2 rfl) rfl ag_bool (HFI.out) ?_))
                  | ((with_reducible refine at_op (some 47) (.load 4 (.tmp 46)) ?_); go_must (refine wpl_ldr i (.bool true) ((Sd.mem ST.out).get 3 rfl) rfl ag_bool (HWI.out) ?_)))
                go_at_call 12
                refine (write_okU (Sd.alloc ST.out (u8s [2]) 5) (i : Int) [2] _ (by omega) (by rw [HD.out.n]; exact hlt2) HD.out.calm.step.off (by decide) (by unfold Bytes; decide) (HD.out.num (by omega)) (Sd.sl (Sd.alloc ST.out (u8s [2]) 5) 0 rfl 1 1 rfl (Nat.le_refl _))).mono ?_
                rintro e w5 ⟨rfl, st', hu⟩
                rw [Int.toNat_natCast] at st'
                obtain ⟨d5, hd5⟩ : ∃ x, x = d.step.put i (over (d.now i) [2]) := ⟨_, rfl⟩
                have HD5 : Hid (d5.C2 F W (i + 1)) := by rw [hd5]; exact HD.out.write HWT.out hlt
                have ho5 := OwnB.turnS (OwnB.alloc HO.out (.cells (u8s [2]).toArray 5)) (Sd.dk (Sd.alloc ST.out (u8s [2]) 5)) hu
                clear HO hu
                have HO : Hid (OwnB 5 w5 w.heap.size _ (chs W C i)) := ho5
                have ST' := (Sd.congr st' hd5.symm).tail
                clear st' hd5 ST HD ho5
                have ST : Hid (Sd w w5 g mb kv d5 [(qw, u8s (wantAt (fin6 F W C) i), 50), (q5, bls cl, 49), (q4, bls fl, 49), (q3, bls wl, 49)]) := ST'
                clear ST'
                go_wp2_with (first
                  | ((with_reducible refine at_op (some 56) (.load 4 (.tmp 55)) ?_); go_must (refine wpl_ldr i (.bool false) ((Sd.mem ST.out).get 1 rfl) rfl ag_bool (HCI.out) ?_))
                  | ((with_reducible refine at_op (some 62) (.call { callee := .builtin .append, args := #[.tmp 59, .tmp 61], argTypes := #[28, 28] }) ?_); go_must (refine wpl_appD rfl [0] (Sd.below ST.out ((Below.refl _ _).alloc (Nat.le_refl _) _)) (OwnB.alloc HO.out _) (by intro r hr; simp only [List.mem_cons, List.not_mem_nil, or_false] at hr; rcases hr with rfl | rfl | rfl | rfl <;> simp) rfl rfl rfl (fun _ => ⟨_, 0, rfl, Seg.newO _ [0] _ _⟩) (by have := chs_length W C i; simp; omega) ?_); intro v7 w7 ho7 st7; have HO7 : Hid _ := ho7; have ST7 : Hid _ := st7; clear ho7 st7 HO ST))
                have ST9 : Hid (Sd w w7 g mb kv d5 [(qw, u8s (wantAt (fin6 F W C) (i + 1)), 50), (q5, bls cl, 49), (q4, bls fl, 49), (q3, bls wl, 49)]) := by
                  have h : Sd w w7 g mb kv d5 [(qw, u8s (wantAt (fin6 F W C) i), 50), (q5, bls cl, 49), (q4, bls fl, 49), (q3, bls wl, 49)] := ST7.out
                  rw [wantAt_same _ i HFN.out] at h
                  exact h
                have HO9 : Hid (OwnB 5 w7 w.heap.size v7 (chs W C (i + 1))) := by
                  rw [chs_pos W C i HWT.out, show pick6 C i = 0 by simp [pick6, HCT.out]]
                  exact HO7.out
                go_roundw
                case rel => exact ⟨i + 1, d5, by omega, by go_num, HD5.out, HO9.out, ST9.out⟩
                case measure => simp [intOf]; omega
              | true =>
                rw [hCi] at HCI
                have HCT : Hid (C i = true) := hCi
                clear hCi
                have HFN : Hid (fin6 F W C i = 2) := by show _ = _; simp [fin6, HWT.out, HCT.out]
                go_wp2_with (first
                  | ((with_reducible refine at_op (some 42) (.load 4 (.tmp 41)) ?_); go_must (refine wpl_ldr i (.bool false) ((Sd.mem ST.out).get 2 rfl) rfl ag_bool (HFI.out) ?_))
                  | ((with_reducible refine at_op (some 47) (.load 4 (.tmp 46)) ?_); go_must (refine wpl_ldr i (.bool true) ((Sd.mem ST.out).get 3 rfl) rfl ag_bool (HWI.out) ?_)))
                go_at_call 12
                refine (write_okU (Sd.alloc ST.out (u8s [2]) 5) (i : Int) [2] _ (by omega) (by rw [HD.out.n]; exact hlt2) HD.out.calm.step.off (by decide) (by unfold Bytes; decide) (HD.out.num (by omega)) (Sd.sl (Sd.alloc ST.out (u8s [2]) 5) 0 rfl 1 1 rfl (Nat.le_refl _))).mono ?_
                rintro e w5 ⟨rfl, st', hu⟩
                rw [Int.toNat_natCast] at st'
                obtain ⟨d5, hd5⟩ : ∃ x, x = d.step.put i (over (d.now i) [2]) := ⟨_, rfl⟩
                have HD5 : Hid (d5.C2 F W (i + 1)) := by rw [hd5]; exact HD.out.write HWT.out hlt
                have ho5 := OwnB.turnS (OwnB.alloc HO.out (.cells (u8s [2]).toArray 5)) (Sd.dk (Sd.alloc ST.out (u8s [2]) 5)) hu
                clear HO hu
                have HO : Hid (OwnB 5 w5 w.heap.size _ (chs W C i)) := ho5
                have ST' := (Sd.congr st' hd5.symm).tail
                clear st' hd5 ST HD ho5
                have ST : Hid (Sd w w5 g mb kv d5 [(qw, u8s (wantAt (fin6 F W C) i), 50), (q5, bls cl, 49), (q4, bls fl, 49), (q3, bls wl, 49)]) := ST'
                clear ST'
                go_wp2_with (first
                  | ((with_reducible refine at_op (some 56) (.load 4 (.tmp 55)) ?_); go_must (refine wpl_ldr i (.bool true) ((Sd.mem ST.out).get 1 rfl) rfl ag_bool (HCI.out) ?_))
                  | ((with_reducible refine at_op none (.store 5 (.tmp 58) (.const (.int .u8 2))) ?_); go_must (refine wpl_stc 0 i (.int .u8 2) (Mem.enter ((Sd.mem ST.out).get 0 rfl)) rfl rfl rfl sz_u8 (HLN.out) rfl rfl ?_); intro w6 hq; have HO' := OwnB.upd HO.out ((Sd.mem ST.out).get 0 rfl) (by decide) hq.toUpd; have ST' := Sd.turned ST.out 0 rfl hq; clear hq ST HO; have ST : Hid (Sd w w6 g mb kv d5 [(qw, (u8s (wantAt (fin6 F W C) i)).set i (.int .u8 2), 50), (q5, bls cl, 49), (q4, bls fl, 49), (q3, bls wl, 49)]) := ST'; have HO : Hid (OwnB 5 w6 w.heap.size _ (chs W C i)) := HO'; clear ST' HO')
                  | ((with_reducible refine at_op (some 62) (.call { callee := .builtin .append, args := #[.tmp 59, .tmp 61], argTypes := #[28, 28] }) ?_); go_must (refine wpl_appD rfl [255] (Sd.below ST.out ((Below.refl _ _).alloc (Nat.le_refl _) _)) (OwnB.alloc HO.out _) (by intro r hr; simp only [List.mem_cons, List.not_mem_nil, or_false] at hr; rcases hr with rfl | rfl | rfl | rfl <;> simp) rfl rfl rfl (fun _ => ⟨_, 0, rfl, Seg.newO _ [255] _ _⟩) (by have := chs_length W C i; simp; omega) ?_); intro v7 w7 ho7 st7; have HO7 : Hid _ := ho7; have ST7 : Hid _ := st7; clear ho7 st7 HO ST))
                have ST9 : Hid (Sd w w7 g mb kv d5 [(qw, u8s (wantAt (fin6 F W C) (i + 1)), 50), (q5, bls cl, 49), (q4, bls fl, 49), (q3, bls wl, 49)]) := by
                  have h : Sd w w7 g mb kv d5 [(qw, (u8s (wantAt (fin6 F W C) i)).set i (.int .u8 2), 50), (q5, bls cl, 49), (q4, bls fl, 49), (q3, bls wl, 49)] := ST7.out
                  rw [u8s_set, show (2 : Int) = fin6 F W C i from HFN.out.symm, wantAt_set _ i hlt] at h
                  exact h
                have HO9 : Hid (OwnB 5 w7 w.heap.size v7 (chs W C (i + 1))) := by
                  rw [chs_pos W C i HWT.out, show pick6 C i = 255 by simp [pick6, HCT.out]]
                  exact HO7.out
                go_roundw
                case rel => exact ⟨i + 1, d5, by omega, by go_num, HD5.out, HO9.out, ST9.out⟩
                case measure => simp [intOf]; omega
        · have hi6 : i = 6 := by omega
          subst hi6
          go_wp2_with fail
          go_at_call 18
          refine (crash_st ST.out (chs W C 6) _ (chs_bytes W C 6) (OwnB.slA HO.out (Sd.dk ST.out))).mono ?_
          rintro e w8 ⟨rfl, st'⟩
          obtain ⟨d8, hd8⟩ : ∃ x, x = d.crash (chs W C 6) := ⟨_, rfl⟩
          have HD8 : Hid (d8.Calm ∧ d8.n = 6 ∧ ∀ j, j < 6 → (d8.now j).getD 0 0 = fin6 F W C j) := by rw [hd8]; exact HD.out.last C
          have ST8 : Hid (Sd w w8 g mb kv d8 [(qw, u8s (wantAt (fin6 F W C) 6), 50), (q5, bls cl, 49), (q4, bls fl, 49), (q3, bls wl, 49)]) := Sd.congr st' hd8.symm
          clear st' hd8 ST HD HO
          go_wp2_with fail
          go_loopw [13] (fun vi wr => ∃ (i : Nat), i ≤ 6 ∧ vi = .int .i64 (i : Int) ∧ Sd w wr g mb kv d8 [(qw, u8s (wantAt (fin6 F W C) 6), 50), (q5, bls cl, 49), (q4, bls fl, 49), (q3, bls wl, 49)]) (fun vi _ => 6 - (intOf vi).toNat)
          case atStart => exact ⟨0, by omega, rfl, ST8.out⟩
          case round =>
            clear ST8
            obtain ⟨i, hi, rfl, st'⟩ := hrel
            have ST : Hid (Sd w wr g mb kv d8 [(qw, u8s (wantAt (fin6 F W C) 6), 50), (q5, bls cl, 49), (q4, bls fl, 49), (q3, bls wl, 49)]) := st'
            clear st'
            by_cases hlt : i < 6
            · have hlt2 : (i : Int) < 6 := by omega
              go_wp2_with fail
              go_at_call 24
              refine (read_ok ST.out (i : Int) (by omega) (by rw [HD8.out.2.1]; exact hlt2) HD8.out.1.off).mono ?_
              rintro e w9 ⟨qr, rfl, st'⟩
              rw [Int.toNat_natCast] at st'
              have SR : Hid (Sd w w9 g mb kv d8 ((qr, u8s (d8.now i), 62) :: [(qw, u8s (wantAt (fin6 F W C) 6), 50), (q5, bls cl, 49), (q4, bls fl, 49), (q3, bls wl, 49)])) := st'
              obtain ⟨x, hx⟩ : ∃ x, x = fin6 F W C i := ⟨_, rfl⟩
              have HNL : Hid ((d8.now i).length = 64) := (Sd.dk st').ok.now (by rw [HD8.out.2.1]; exact hlt)
              have cx : w9.cell? ⟨qr, 0, none⟩ = some (.int .u8 x) := by rw [(Sd.mem SR.out).cell 0 rfl, u8s_get _ _ (by rw [HNL.out]; omega), HD8.out.2.2 i hlt, hx]
              have cw : w9.cell? ⟨qw, i, none⟩ = some (.int .u8 x) := by rw [(Sd.mem SR.out).cell 1 rfl, u8s_get _ _ (by rw [wantAt_length]; exact hlt), wantAt_get _ i hlt, hx]
              have HCX : Hid (∀ V, Mem w9 [] V [] → V.cell? ⟨qr, 0, none⟩ = some (.int .u8 x)) := fun V hV => (hV.old (p := ⟨qr, 0, none⟩) ((Sd.mem SR.out).get 0 rfl).lt (by simp)).trans cx
              have HCW : Hid (∀ V, Mem w9 [] V [] → V.cell? ⟨qw, i, none⟩ = some (.int .u8 x)) := fun V hV => (hV.old (p := ⟨qw, i, none⟩) ((Sd.mem SR.out).get 1 rfl).lt (by simp)).trans cw
              clear st' hx cx cw ST
              go_wp2_with fail
              have hm := Mem.start w9
              refine wp_ends0 ?_
              refine anyH_start (T := fun V => Mem w9 [] V []) (by kernel_rfl) hm ?_
              clear hm
              intro wx hm
              refine anyH_takeG 0 (v := .int .i64 0) rfl (by kernel_rfl) (by kernel_rfl) (by kernel_rfl) rfl (fun W _ => by go_simp) hm ?_
              go_simp
              refine anyH_takeG 1 (v := .bool false) rfl (by kernel_rfl) (by kernel_rfl) (by kernel_rfl) rfl (fun W _ => by go_simp) hm ?_
              go_simp
              refine anyH_takeG 2 (v := .bool false) rfl (by kernel_rfl) (by kernel_rfl) (by kernel_rfl) rfl (fun W _ => by go_simp) hm ?_
              go_simp
              refine anyH_takeG 3 (v := .slice (some ⟨qr, 0, none⟩) 64 64) rfl (by kernel_rfl) (by kernel_rfl) (by kernel_rfl) rfl (fun W _ => by go_simp) hm ?_
              go_simp
              refine anyH_takeG 4 (v := .pointer (some ⟨qr, 0, none⟩)) rfl (by kernel_rfl) (by kernel_rfl) (by kernel_rfl) rfl (fun W _ => by go_simp) hm ?_
              go_simp
              refine anyH_takeG 5 (v := .int .u8 x) rfl (by kernel_rfl) (by kernel_rfl) (by kernel_rfl) rfl (fun V hV => exec_ldxG (.int .u8 x) (HCX.out V hV) rfl ag_u8) hm ?_
              go_simp
              refine anyH_takeG 6 (v := .int .i64 (i : Int)) rfl (by kernel_rfl) (by kernel_rfl) (by kernel_rfl) rfl (fun W _ => by go_simp) hm ?_
              go_simp
              refine anyH_takeG 7 (v := .pointer (some ⟨qw, i, none⟩)) rfl (by kernel_rfl) (by kernel_rfl) (by kernel_rfl) rfl (fun W _ => by go_simp) hm ?_
              go_simp
              refine anyH_takeG 8 (v := .int .u8 x) rfl (by kernel_rfl) (by kernel_rfl) (by kernel_rfl) rfl (fun V hV => exec_ldxG (.int .u8 x) (HCW.out V hV) rfl ag_u8) hm ?_
              go_simp
              refine anyH_takeG 9 (v := .bool false) rfl (by kernel_rfl) (by kernel_rfl) (by kernel_rfl) rfl (fun W _ => by go_simp) hm ?_
              go_simp
              refine anyH_takeG 10 (v := .bool false) rfl (by kernel_rfl) (by kernel_rfl) (by kernel_rfl) rfl (fun W _ => by go_simp) hm ?_
              go_simp
              refine wpAnyH_done (by kernel_rfl) ?_ _
              simp only [endsIn]
              go_wp2_with fail
              go_roundw
              case rel => exact ⟨i + 1, by omega, by go_num, (Sd.below SR.out hm.below).tail⟩
              case measure => simp [intOf]; omega
            · have hi6 : ¬ ((i : Int) < 6) := by omega
              go_wp2_with fail
              go_ret
              exact ⟨rfl, (Sd.mem ST.out).below⟩
end Go.Proofs.Ytlddkmjhkhliiaa
