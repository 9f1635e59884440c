/- The look at a known disk comes out true. -/
import Derived.Test.YtbaijhlkkeongaaSecCalls
namespace Go.Proofs.Ytbaijhlkkeongaa
open Go Go.RowKit Go.Maps

def knownL : List Int := over zeroK [97, 98]
set_option maxHeartbeats 2000000 in
set_option maxRecDepth 100000 in
theorem known6_any (w : World) : Calls Try.prog 4 #[] w fun e w' => e = .returned (.bool true) ∧ Below w.heap.size w w' := by
  go_enter Try.func4, Try.ntmps4
  go_wp2_with fail
  go_at_call 5
  refine (new_any 3 _).mono ?_
  rintro e w1 ⟨g, rfl, mb, kv, hd, hf, hb⟩
  have ST : Hid (Sd w w1 g mb kv (Dk.new 3) []) := Sd.start hb hd hf
  clear hd hf hb
  go_wp2_with (first
    | (go_at_call 19; refine (len_st (Sd.congr ST.out rfl)).mono ?_; rintro e wl ⟨he, hw⟩; replace he : e = .returned (.int .i64 3) := he; subst he; replace hw := hw.symm; subst hw)
    | ((with_reducible refine at_opG (some 17) (.convert 28 28 (.tmp 16)) (some (7, false)) ?_); go_must (refine wpl_cvA [97, 98] rfl un_bs un_u8 rfl rfl (foot g mb kv) (DkAt.lt (Sd.dk ST.out)) ?_); intro w2 ql hb2 hs2; have ST2 : Hid (Sd w w2 g mb kv (Dk.new 3) []) := Sd.below ST.out hb2; have HS2 : Hid (SlA w2 (foot g mb kv) (.slice (some ⟨ql, 0, none⟩) 2 2) [97, 98]) := hs2; clear hb2 hs2))
  go_at_call 7
  refine (write_ok ST2.out 1 [97, 98] _ (by omega) (by decide) rfl (by decide) (by unfold Bytes; decide) (num_new 3) HS2.out).mono ?_
  rintro e w3 ⟨rfl, st3⟩
  obtain ⟨d3, hd3⟩ : ∃ d, d = (Dk.new 3).step.put 1 (over zeroK [97, 98]) := ⟨_, rfl⟩
  have ST3 : Hid (Sd w w3 g mb kv d3 []) := Sd.congr st3 hd3.symm
  have HC3 : Hid (d3.Calm ∧ d3.steps = 1 ∧ d3.n = 3 ∧ d3.now 1 = over zeroK [97, 98] ∧ d3.kept 1 = zeroK ∧ d3.pend 1 = some (over zeroK [97, 98])) := by
    rw [hd3]
    exact ⟨(Dk.calm_new 3).step.put _ _, rfl, rfl, Dk.put_nowA _ _, rfl, by simp [Dk.put, upf]⟩
  clear st3 hd3 ST ST2 HS2
  go_wp2_with fail
  go_at_call 7
  refine (write_st ST3.out 3 [] _ bytes_nil (HC3.out.1.num (by rw [HC3.out.2.1]; omega)) (SlA.nil _ _)).mono ?_
  rintro e w4 ⟨he, st4⟩
  have HW4 : Hid (d3.wcode 3 [] = 60 ∧ d3.write 3 [] = d3.step) := by
    have h1 := HC3.out.1.step.off
    have h2 : d3.fits 3 [] = false := by simp [Dk.fits, HC3.out.2.2.1]
    exact ⟨by simp [Dk.wcode, h1, h2], by simp [Dk.write, h2]⟩
  rw [HW4.out.1] at he
  subst he
  obtain ⟨d4, hd4⟩ : ∃ d, d = d3.step := ⟨_, rfl⟩
  have ST4 : Hid (Sd w w4 g mb kv d4 []) := Sd.congr st4 (HW4.out.2.trans hd4.symm)
  have HC4 : Hid (d4.Calm ∧ d4.steps = 2 ∧ d4.n = 3 ∧ d4.now 1 = over zeroK [97, 98] ∧ d4.kept 1 = zeroK ∧ d4.pend 1 = some (over zeroK [97, 98])) := by
    rw [hd4]
    obtain ⟨h1, h2, h3, h4, h5, h6⟩ := HC3.out
    exact ⟨h1.step, by show d3.steps + 1 = 2; rw [h2]; rfl, h3, h4, h5, h6⟩
  clear st4 hd4 ST3 HC3 HW4
  go_wp2_with fail
  go_at_call 20
  refine (read_ok ST4.out 1 (by omega) (by rw [HC4.out.2.2.1]; decide) HC4.out.1.off).mono ?_
  rintro e w5 ⟨q5, rfl, st5⟩
  have HN5 : Hid (d4.now 1 = knownL) := HC4.out.2.2.2.1
  have ST5 : Hid (Sd w w5 g mb kv d4 [(q5, u8s knownL, 54)]) := by
    rw [← HN5.out]
    exact st5
  clear st5 ST4 HN5
  go_wp2_with fail
  go_at_call 13
  refine (crash_st ST5.out [] _ bytes_nil (SlA.nil _ _)).mono ?_
  rintro e w6 ⟨rfl, st6⟩
  obtain ⟨d6, hd6⟩ : ∃ d, d = d4.crash [] := ⟨_, rfl⟩
  have ST6 : Hid (Sd w w6 g mb kv d6 [(q5, u8s knownL, 54)]) := Sd.congr st6 hd6.symm
  have HC6 : Hid (d6.Calm ∧ d6.steps = 2 ∧ d6.n = 3 ∧ d6.now 1 = zeroK) := by
    rw [hd6]
    obtain ⟨h1, h2, h3, h4, h5, h6⟩ := HC4.out
    refine ⟨Dk.crash_calm _ h1.s0, h2, h3, ?_⟩
    rw [Dk.crash_now]
    simp only [Dk.keptAt, h6, h5]
    split
    · simp [tornOf, spared]
    · rfl
  clear st6 hd6 ST5 HC4
  go_wp2_with fail
  go_at_call 20
  refine (read_ok ST6.out 1 (by omega) (by rw [HC6.out.2.2.1]; decide) HC6.out.1.off).mono ?_
  rintro e w7 ⟨q7, rfl, st7⟩
  have HN7 : Hid (d6.now 1 = zeroK) := HC6.out.2.2.2
  have ST7 : Hid (Sd w w7 g mb kv d6 [(q7, u8s zeroK, 54), (q5, u8s knownL, 54)]) := by
    rw [← HN7.out]
    exact st7
  clear st7 ST6 HN7
  go_wp2_with (first
    | ((with_reducible refine at_opG (some 48) (.load 5 (.tmp 47)) (some (7, true)) ?_); go_must (refine wpl_execG (.int .u8 97) rfl (exec_ldrG 0 (.int .u8 97) ((Sd.mem ST7.out).get 1 rfl) rfl ag_u8 rfl) ?_))
    | ((with_reducible refine at_opG (some 58) (.load 5 (.tmp 57)) (some (17, true)) ?_); go_must (refine wpl_execG (.int .u8 0) rfl (exec_ldrG 0 (.int .u8 0) ((Sd.mem ST7.out).get 0 rfl) rfl ag_u8 rfl) ?_))
    | (go_at_call 21; refine (steps_st ST7.out).mono ?_; rintro e ws ⟨he, hw⟩; rw [HC6.out.2.1] at he; subst he; replace hw := hw.symm; subst hw))
  go_at_call 5
  refine (new_any (-1) _).mono ?_
  rintro e w8 ⟨g8, rfl, mb8, kv8, hd8, hf8, hb8⟩
  have HD8 : Hid (DkAt w8 g8 mb8 kv8 (Dk.new 0)) := hd8
  have HB8 : Hid (Below w.heap.size w w8) := ((Sd.mem ST7.out).call hb8).below
  clear hd8 hf8 hb8
  go_wp2_with (first
    | (go_at_call 19; refine (len_any g8 mb8 kv8 _ _ HD8.out).mono ?_; rintro e wl ⟨he, hw⟩; replace he : e = .returned (.int .i64 0) := he; subst he; replace hw := hw.symm; subst hw))
  go_ret
  exact ⟨rfl, HB8.out⟩
end Go.Proofs.Ytbaijhlkkeongaa
