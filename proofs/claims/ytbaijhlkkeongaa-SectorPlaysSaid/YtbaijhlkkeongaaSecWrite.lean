/- The contract of Write. -/
import Derived.Test.YtbaijhlkkeongaaSecNew
namespace Go.Proofs.Ytbaijhlkkeongaa
open Go Go.RowKit Go.Maps
set_option maxHeartbeats 1000000 in
set_option maxRecDepth 100000 in
theorem write_off (g mb : Nat) (kv : Value) (d : Dk) (i : Int) (v : Value) (ho : d.step.off = true) (hnu : d.Num) (w : World) (hd : DkAt w g mb kv d) :
    Calls Try.prog 7 #[.pointer (some ⟨g, 0, none⟩), .int .i64 i, v] w fun e w' => e = .returned (.int .i64 61) ∧ DkAt w' g mb kv d.step ∧ UpdS (foot g mb kv) w w' := by
  have HD : Hid _ := hd
  have HNU : Hid _ := hnu
  have HO : Hid (d.step.off = true) := ho
  clear hd hnu ho
  go_enter Try.func7, Try.ntmps7
  go_wp2_with (first
    | (go_at_call 22; refine (step_any g mb kv d HNU.out _ HD.out).mono ?_; rintro e w1 ⟨he, hd1, hu1⟩; rw [HO.out] at he; subst he; clear HD; have HD : Hid _ := hd1; have HU1 : Hid _ := hu1; clear hd1 hu1; have hm := Mem.start w1))
  go_ret
  exact ⟨rfl, HD.out, HU1.out⟩
set_option maxHeartbeats 1000000 in
set_option maxRecDepth 100000 in
theorem write_no (g mb : Nat) (kv : Value) (d : Dk) (i : Int) (v : Value) (ho : d.step.off = false) (hh : d.has i = false) (hnu : d.Num) (w : World) (hd : DkAt w g mb kv d) :
    Calls Try.prog 7 #[.pointer (some ⟨g, 0, none⟩), .int .i64 i, v] w fun e w' => e = .returned (.int .i64 60) ∧ DkAt w' g mb kv d.step ∧ UpdS (foot g mb kv) w w' := by
  have HD : Hid _ := hd
  have HNU : Hid _ := hnu
  have HO : Hid (d.step.off = false) := ho
  have HH : Hid (d.has i = false) := hh
  clear hd hnu ho hh
  go_enter Try.func7, Try.ntmps7
  go_wp2_with (first
    | (go_at_call 22; refine (step_any g mb kv d HNU.out _ HD.out).mono ?_; rintro e w1 ⟨he, hd1, hu1⟩; rw [HO.out] at he; subst he; clear HD; have HD : Hid _ := hd1; have HU1 : Hid _ := hu1; clear hd1 hu1; have hm := Mem.start w1)
    | (go_at_call 23; refine (has_any g mb kv d.step i _ HD.out).mono ?_; rintro e w2 ⟨he, hw⟩; rw [show d.step.has i = false from HH.out] at he; subst he; replace hw := hw.symm; subst hw))
  go_ret
  exact ⟨rfl, HD.out, HU1.out⟩
set_option maxHeartbeats 1000000 in
set_option maxRecDepth 100000 in
theorem write_long (g mb : Nat) (kv : Value) (d : Dk) (i : Int) (n cap : Nat) (p : Option Addr) (ho : d.step.off = false) (hh : d.has i = true) (hn : 64 < n) (hnu : d.Num) (w : World) (hd : DkAt w g mb kv d) :
    Calls Try.prog 7 #[.pointer (some ⟨g, 0, none⟩), .int .i64 i, .slice p n cap] w fun e w' => e = .returned (.int .i64 60) ∧ DkAt w' g mb kv d.step ∧ UpdS (foot g mb kv) w w' := by
  have HD : Hid _ := hd
  have HNU : Hid _ := hnu
  have HO : Hid (d.step.off = false) := ho
  have HH : Hid (d.has i = true) := hh
  have hn1 : (n : Int) > 64 := by omega
  clear hd hnu ho hh
  go_enter Try.func7, Try.ntmps7
  go_wp2_with (first
    | (go_at_call 22; refine (step_any g mb kv d HNU.out _ HD.out).mono ?_; rintro e w1 ⟨he, hd1, hu1⟩; rw [HO.out] at he; subst he; clear HD; have HD : Hid _ := hd1; have HU1 : Hid _ := hu1; clear hd1 hu1; have hm := Mem.start w1)
    | (go_at_call 23; refine (has_any g mb kv d.step i _ HD.out).mono ?_; rintro e w2 ⟨he, hw⟩; rw [show d.step.has i = true from HH.out] at he; subst he; replace hw := hw.symm; subst hw))
  go_ret
  exact ⟨rfl, HD.out, HU1.out⟩
set_option maxHeartbeats 1000000 in
set_option maxRecDepth 100000 in
theorem write_good (g mb : Nat) (kv : Value) (d : Dk) (i : Nat) (bs : List Int) (v : Value) (ho : d.step.off = false) (hi : i < d.n) (hl : bs.length ≤ 64) (hbb : Bytes bs) (hnu : d.Num) (w : World) (hd : DkAt w g mb kv d) (hs : SlA w (foot g mb kv) v bs) :
    Calls Try.prog 7 #[.pointer (some ⟨g, 0, none⟩), .int .i64 i, v] w fun e w' => e = .returned (.int .i64 0) ∧ DkAt w' g mb kv (d.step.put i (over (d.now i) bs)) ∧ UpdS (foot g mb kv) w w' := by
  have HD : Hid _ := hd
  have HNU : Hid _ := hnu
  have HO : Hid (d.step.off = false) := ho
  obtain ⟨p, cap, rfl, hcap, _⟩ := id hs
  obtain ⟨bl, hbl⟩ : ∃ bl, bl = bs.length := ⟨_, rfl⟩
  have HS : Hid (SlA w (foot g mb kv) (.slice p bl cap) bs) := by rw [hbl]; exact hs
  have HH : Hid (d.has (i : Int) = true) := by show _ = _; simp [Dk.has]; omega
  have hbl1 : ¬ ((bl : Int) > 64) := by omega
  have hbl2 : bl ≤ 64 := by omega
  have HI : Hid (i < d.step.n) := hi
  obtain ⟨N, hN⟩ : ∃ N, N = d.now i := ⟨_, rfl⟩
  have HNN : Hid (∀ _ : Unit, d.step.now i = N) := fun _ => hN.symm
  have hNl : N.length = 64 := by rw [hN]; exact hd.ok.now hi
  have HZ : Hid ((u8s zeroK).length = 64) := by show _ = _; rw [u8s_length]; exact zeroK_length
  have HNL : Hid ((u8s N).length = 64) := by show _ = _; rw [u8s_length]; exact hNl
  have HOL : Hid ((over N bs).length = 64) := over_length hNl hl
  have HOU : Hid ((u8s (over N bs)).length = 64) := by show _ = _; rw [u8s_length]; exact HOL.out
  have HOB : Hid (Bytes (over N bs)) := over_bytes (by rw [hN]; exact hd.ok.nowB hi) hbb
  have HSP : Hid (splice (u8s N) 0 (u8s (bs.take bl)) = u8s (over N bs)) := by
    show _ = _
    rw [hbl, List.take_of_length_le (Nat.le_refl _), ← splice_over]
    simp [splice, u8s]
  rw [← hN, ← hbl]
  clear hd hnu ho hs hN hNl hi hl hbl hbb hcap
  go_enter Try.func7, Try.ntmps7
  go_wp2_with (first
    | (go_at_call 22; refine (step_any g mb kv d HNU.out _ HD.out).mono ?_; rintro e w1 ⟨he, hd1, hu1⟩; rw [HO.out] at he; subst he; clear HD; have HD : Hid _ := hd1; have HU1 : Hid _ := hu1; clear hd1 hu1; have hm := Mem.start w1)
    | (go_at_call 23; refine (has_any g mb kv d.step i _ HD.out).mono ?_; rintro e w2 ⟨he, hw⟩; rw [show d.step.has i = true from HH.out] at he; subst he; replace hw := hw.symm; subst hw)
    | (go_at_call 24; refine (now_any g mb kv d.step i HI.out _ (HD.out.mem hm)).mono ?_; rintro e w3 ⟨he, hb⟩; rw [HNN.out ()] at he; subst he; replace hm := hm.call hb; clear hb)
    | ((with_reducible refine at_op (some 7) (.alloc 54) ?_); refine wpl_alloc _ zero_con hm ?_; clear hm; intro w4 q hm)
    | ((with_reducible refine at_op none (.store 54 (.tmp 7) (.tmp 22)) ?_); refine wpl_stw 0 (u8s N) hm rfl rfl rfl 64 sz_con (HZ.out) (HNL.out) (u8s_one _) ?_; clear hm; intro w5 hm)
    | ((with_reducible refine at_op (some 23) (.slice 54 (.tmp 7) none none none) ?_); refine wpl_sla 64 un_con sz_u8 0 64 (by omega) (by omega) rfl (Or.inr ⟨rfl, rfl⟩) (Or.inr ⟨rfl, rfl⟩) ?_)
    | ((with_reducible refine at_op (some 25) (.call { callee := .builtin .copy, args := #[.tmp 23, .tmp 24], argTypes := #[28, 28] }) ?_); go_must (refine wpl_cp 0 bs bl (u8s (over N bs)) hm rfl rfl rfl _ un_bs sz_u8 (SlOld.mem (SlA.old (SlA.upd HS.out HU1.out)) hm) (by show bl = min bl 64; omega) (by rw [HNL.out]; omega) HSP.out ?_); clear hm; intro w6 hm))
  refine wp_tail 6 (by kernel_rfl) (by kernel_rfl) hm ?_
  clear hm
  intro w7 hm
  simp only [List.take_succ_cons, List.take_zero, List.drop_succ_cons, List.drop_zero]
  still_step
  still_step
  still_step
  refine wps_ldr 1 (.map (some mb)) (DkAt.row (HD.out.mem hm)) rfl ag_cmap rfl ?_
  still_step
  refine wps_lds 0 0 (u8s (over N bs)) hm rfl rfl _ un_con rfl 64 sz_con (by rw [HOU.out]; omega) (by rw [List.drop_zero, List.take_of_length_le (by rw [HOU.out]; omega)]) ?_
  refine wpStill_nil ?_
  go_wp2_with (first
    | ((with_reducible refine at_op none (.mapUpdate 45 (.tmp 29) (.tmp 30) (.tmp 31)) ?_); go_must (refine wpl_put i (over N bs) (HD.out.mem hm) HI.out HOL.out HOB.out rfl rfl rfl rfl ?_); intro w8 hd8 hu8; have HD8 : Hid _ := hd8; have HU8 : Hid _ := hu8; clear hd8 hu8))
  go_ret
  exact ⟨rfl, HD8.out, (HU1.out.trans (UpdS.of_below hm.below)).trans (UpdS.of_upd HU8.out (foot_m ..))⟩
set_option maxRecDepth 100000 in
theorem write_any (g mb : Nat) (kv : Value) (d : Dk) (i : Int) (bs : List Int) (v : Value) (hbb : Bytes bs) (hnu : d.Num) (w : World) (hd : DkAt w g mb kv d) (hs : SlA w (foot g mb kv) v bs) :
    Calls Try.prog 7 #[.pointer (some ⟨g, 0, none⟩), .int .i64 i, v] w fun e w' => e = .returned (.int .i64 (d.wcode i bs)) ∧ DkAt w' g mb kv (d.write i bs) ∧ UpdS (foot g mb kv) w w' := by
  unfold Dk.wcode Dk.write
  cases ho : d.step.off with
  | true =>
    rw [if_pos rfl, if_neg (by simp)]
    exact write_off g mb kv d i v ho hnu w hd
  | false =>
    rw [if_neg (by simp)]
    cases hf : d.fits i bs with
    | true =>
      simp only [Dk.fits, Bool.and_eq_true, decide_eq_true_eq] at hf
      rw [if_pos rfl, if_pos ⟨rfl, rfl⟩]
      obtain ⟨k, rfl⟩ : ∃ k : Nat, i = (k : Int) := ⟨i.toNat, by omega⟩
      exact write_good g mb kv d k bs v ho (by omega) hf.2 hbb hnu w hd hs
    | false =>
      rw [if_neg (by simp), if_neg (by simp)]
      cases hh : d.has i with
      | false => exact write_no g mb kv d i v ho hh hnu w hd
      | true =>
        obtain ⟨p, cap, rfl, _, _⟩ := hs
        refine write_long g mb kv d i bs.length cap p ho hh ?_ hnu w hd
        unfold Dk.has at hh
        unfold Dk.fits at hf
        rw [hh, Bool.true_and] at hf
        simpa using hf
end Go.Proofs.Ytbaijhlkkeongaa
