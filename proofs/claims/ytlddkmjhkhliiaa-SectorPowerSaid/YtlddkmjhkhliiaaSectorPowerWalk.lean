/- The walk of SectorPower. -/
import Derived.Test.YtlddkmjhkhliiaaSecKnown
namespace Go.Proofs.Ytlddkmjhkhliiaa
open Go Go.RowKit Go.Maps

/-- A disk of four sectors whose power goes at step k, when S steps have been made. -/
structure Dk.Pw (d : Dk) (k S : Int) : Prop where
  n : d.n = 4
  steps : d.steps = S
  on : S < k → d.left = k - S ∧ d.off = false
  gone : ¬ S < k → d.left = 0 ∧ d.off = true
set_option maxRecDepth 100000 in
theorem Dk.Pw.step {d : Dk} {k S : Int} (h : d.Pw k S) : d.step.Pw k (S + 1) := by
  refine ⟨h.n, by show d.steps + 1 = _; rw [h.steps], fun hs => ?_, fun hs => ?_⟩
  · obtain ⟨h1, h2⟩ := h.on (by omega)
    have q1 : 0 < d.left := by omega
    have q2 : ¬ (d.left - 1 = 0) := by omega
    simp [Dk.step, q1, q2]
    omega
  · by_cases hk : S < k
    · obtain ⟨h1, h2⟩ := h.on hk
      have q1 : d.left = 1 := by omega
      simp [Dk.step, q1]
    · obtain ⟨h1, h2⟩ := h.gone hk
      simp [Dk.step, h1, h2]
set_option maxRecDepth 100000 in
theorem Dk.Pw.num {d : Dk} {k S : Int} (h : d.Pw k S) (hS : 0 ≤ S ∧ S < 1000) (hk : k ≤ 1000) : d.Num := by
  refine ⟨by rw [h.steps]; omega, ?_⟩
  by_cases hs : S < k
  · rw [(h.on hs).1]; omega
  · rw [(h.gone hs).1]; omega
set_option maxRecDepth 100000 in
theorem Dk.Pw.write {d : Dk} {k S : Int} (h : d.Pw k S) (i : Int) (bs : List Int) : (d.write i bs).Pw k (S + 1) := by
  have h1 := h.step
  unfold Dk.write
  split
  · exact ⟨h1.n, h1.steps, h1.on, h1.gone⟩
  · exact h1
set_option maxRecDepth 100000 in
theorem Dk.Pw.flush {d : Dk} {k S : Int} (h : d.Pw k S) : d.flush.Pw k (S + 1) := by
  have h1 := h.step
  unfold Dk.flush
  split
  · exact h1
  · exact ⟨h1.n, h1.steps, h1.on, h1.gone⟩
set_option maxRecDepth 100000 in
theorem Dk.Pw.wcode {d : Dk} {k S : Int} (h : d.Pw k S) (i : Int) (bs : List Int) (hi : 0 ≤ i ∧ i < 4) (hb : bs.length ≤ 64) : d.wcode i bs = if S + 1 < k then 0 else 61 := by
  have h1 := h.step
  have hf : d.fits i bs = true := by simp [Dk.fits, h.n, hb]; omega
  unfold Dk.wcode
  by_cases hs : S + 1 < k
  · simp [(h1.on hs).2, hf, hs]
  · simp [(h1.gone hs).2, hs]
set_option maxRecDepth 100000 in
theorem Dk.Pw.fcode {d : Dk} {k S : Int} (h : d.Pw k S) : d.fcode = if S + 1 < k then 0 else 61 := by
  have h1 := h.step
  unfold Dk.fcode
  by_cases hs : S + 1 < k
  · simp [(h1.on hs).2, hs]
  · simp [(h1.gone hs).2, hs]
set_option maxRecDepth 100000 in
theorem Dk.Pw.rcode {d : Dk} {k S : Int} (h : d.Pw k S) : d.rcode 0 = if S < k then 0 else 61 := by
  have hf : d.has 0 = true := by simp [Dk.has, h.n]
  unfold Dk.rcode
  by_cases hs : S < k
  · simp [(h.on hs).2, hf, hs]
  · simp [(h.gone hs).2, hs]
set_option maxRecDepth 100000 in
theorem Dk.Pw.start (k : Int) (hk : 1 ≤ k) : ((Dk.new 4).power k).Pw k 0 := by
  have e : (Dk.new 4).power k = { Dk.new 4 with left := k } := by
    unfold Dk.power
    rw [if_neg (by simp [Dk.new]), show max k 0 = k by omega]
  rw [e]
  exact ⟨rfl, rfl, fun _ => ⟨by simp, rfl⟩, fun h => absurd hk (by omega)⟩
set_option maxHeartbeats 2000000 in
set_option maxRecDepth 100000 in
theorem sectorPower_walk (a n : Int) (ba : 0 ≤ a ∧ a ≤ 255) (bn : 0 ≤ n ∧ n ≤ 255) (w : World) : Calls Try.prog 5 #[.int .u8 a, .int .u8 n] w fun e w' => e = .returned (.bool true) ∧ Below w.heap.size w w' := by
  obtain ⟨ba0, ba1⟩ := ba
  obtain ⟨bn0, bn1⟩ := bn
  have hm := Mem.start w
  go_enter Try.func5, Try.ntmps5
  go_wp2_with (go_at_call 9; refine (known6_any _).mono ?_; rintro e wk ⟨rfl, hbk⟩; replace hm := hm.call hbk; clear hbk)
  go_at_call 10
  refine (new_any 4 _).mono ?_
  rintro e wn ⟨g, rfl, mb, kv, hd, hf, hb⟩
  have ST : Hid (Sd w wn g mb kv (Dk.new 4) []) := Sd.startR hm hb hd hf
  clear hd hf hb hm
  go_wp2_with fail
  go_at_call 16
  refine (power_st ST.out _).mono ?_
  rintro e w3 ⟨rfl, st3⟩
  have HP0 : Hid (((Dk.new 4).power (a % 12 + 1)).Pw (a % 12 + 1) 0) := Dk.Pw.start _ (by omega)
  have ST3 : Hid (Sd w w3 g mb kv ((Dk.new 4).power (a % 12 + 1)) []) := st3
  clear st3 ST
  go_wp2_with fail
  go_loopw [7] (fun vi wr => ∃ (i : Nat) (d : Dk) (S : Int), 1 ≤ i ∧ i ≤ 20 ∧ vi = .int .i64 (i : Int) ∧ 5 * (S - (i - 1)) ≤ (i : Int) - 1 ∧ (i : Int) - 1 < 5 * (S - (i - 1)) + 5 ∧ 0 ≤ S ∧ d.Pw (a % 12 + 1) S ∧ Sd w wr g mb kv d []) (fun vi _ => 21 - (intOf vi).toNat)
  case atStart => exact ⟨1, _, 0, by omega, by omega, rfl, by omega, by omega, by omega, HP0.out, ST3.out⟩
  case round =>
    obtain ⟨i, d, S, hi1, hi2, rfl, hS1, hS2, hS0, hp, st⟩ := hrel
    have ST : Hid (Sd w wr g mb kv d []) := st
    have HP : Hid (d.Pw (a % 12 + 1) S) := hp
    clear st hp HP0 ST3
    by_cases hlt : (i : Int) ≤ n % 20
    · by_cases h5 : (i : Int) % 5 = 0
      · by_cases hon : S + 1 + 1 < a % 12 + 1
        · skip
          have HS2 : Hid (((S + 1 + 1) < a % 12 + 1)) := by show _ < _; omega
          have hs3 : ¬ ((i : Int) + (i : Int) / 5 ≥ a % 12 + 1) := by omega
          go_wp2_with fail
          go_at_call 12
          refine (write_st (Sd.alloc ST.out (u8s [(i : Int)]) 5) ((i : Int) % 4) [(i : Int)] _ (by intro y hy; simp at hy; omega) (HP.out.num (by omega) (by omega)) (Sd.sl (Sd.alloc ST.out (u8s [(i : Int)]) 5) 0 rfl 1 1 rfl (Nat.le_refl _))).mono ?_
          rintro e w4 ⟨he, st4⟩
          obtain ⟨c, hc⟩ : ∃ c, c = d.wcode ((i : Int) % 4) [(i : Int)] := ⟨_, rfl⟩
          rw [← hc] at he
          subst he
          clear hc
          obtain ⟨d4, hd4⟩ : ∃ x, x = d.write ((i : Int) % 4) [(i : Int)] := ⟨_, rfl⟩
          have HP4 : Hid (d4.Pw (a % 12 + 1) (S + 1)) := by rw [hd4]; exact HP.out.write _ _
          have ST4 : Hid (Sd w w4 g mb kv d4 []) := (Sd.congr st4 hd4.symm).tail
          clear st4 hd4 ST HP
          go_wp2_with fail
          go_at_call 14
          refine (flush_st ST4.out (HP4.out.num (by omega) (by omega))).mono ?_
          rintro e w5 ⟨he, st5⟩
          rw [HP4.out.fcode, if_pos (by have := HS2.out; omega)] at he
          subst he
          obtain ⟨d5, hd5⟩ : ∃ x, x = d4.flush := ⟨_, rfl⟩
          have HP5 : Hid (d5.Pw (a % 12 + 1) (S + 1 + 1)) := by rw [hd5]; exact HP4.out.flush
          have ST5 : Hid (Sd w w5 g mb kv d5 []) := Sd.congr st5 hd5.symm
          clear st5 hd5 ST4 HP4
          go_wp2_with fail
          go_at_call 24
          refine (read_st ST5.out 0).mono ?_
          rintro e w6 ⟨v, he, _, st6, _⟩
          rw [HP5.out.rcode, if_pos (by have := HS2.out; omega)] at he
          subst he
          have ST6 : Hid (Sd w w6 g mb kv d5 []) := st6
          clear st6 ST5
          go_wp2_with fail
          go_roundw
          case rel => exact ⟨i + 1, d5, (S + 1 + 1), by omega, by omega, by go_num, by omega, by omega, by omega, HP5.out, ST6.out⟩
          case measure => simp [intOf]; omega
        · skip
          have HS2 : Hid (¬ ((S + 1 + 1) < a % 12 + 1)) := by show ¬ _ < _; omega
          have hs3 : ((i : Int) + (i : Int) / 5 ≥ a % 12 + 1) := by omega
          go_wp2_with fail
          go_at_call 12
          refine (write_st (Sd.alloc ST.out (u8s [(i : Int)]) 5) ((i : Int) % 4) [(i : Int)] _ (by intro y hy; simp at hy; omega) (HP.out.num (by omega) (by omega)) (Sd.sl (Sd.alloc ST.out (u8s [(i : Int)]) 5) 0 rfl 1 1 rfl (Nat.le_refl _))).mono ?_
          rintro e w4 ⟨he, st4⟩
          obtain ⟨c, hc⟩ : ∃ c, c = d.wcode ((i : Int) % 4) [(i : Int)] := ⟨_, rfl⟩
          rw [← hc] at he
          subst he
          clear hc
          obtain ⟨d4, hd4⟩ : ∃ x, x = d.write ((i : Int) % 4) [(i : Int)] := ⟨_, rfl⟩
          have HP4 : Hid (d4.Pw (a % 12 + 1) (S + 1)) := by rw [hd4]; exact HP.out.write _ _
          have ST4 : Hid (Sd w w4 g mb kv d4 []) := (Sd.congr st4 hd4.symm).tail
          clear st4 hd4 ST HP
          go_wp2_with fail
          go_at_call 14
          refine (flush_st ST4.out (HP4.out.num (by omega) (by omega))).mono ?_
          rintro e w5 ⟨he, st5⟩
          rw [HP4.out.fcode, if_neg (by have := HS2.out; omega)] at he
          subst he
          obtain ⟨d5, hd5⟩ : ∃ x, x = d4.flush := ⟨_, rfl⟩
          have HP5 : Hid (d5.Pw (a % 12 + 1) (S + 1 + 1)) := by rw [hd5]; exact HP4.out.flush
          have ST5 : Hid (Sd w w5 g mb kv d5 []) := Sd.congr st5 hd5.symm
          clear st5 hd5 ST4 HP4
          go_wp2_with fail
          go_at_call 24
          refine (read_st ST5.out 0).mono ?_
          rintro e w6 ⟨v, he, _, st6, _⟩
          rw [HP5.out.rcode, if_neg (by have := HS2.out; omega)] at he
          subst he
          have ST6 : Hid (Sd w w6 g mb kv d5 []) := st6
          clear st6 ST5
          go_wp2_with fail
          go_roundw
          case rel => exact ⟨i + 1, d5, (S + 1 + 1), by omega, by omega, by go_num, by omega, by omega, by omega, HP5.out, ST6.out⟩
          case measure => simp [intOf]; omega
      · by_cases hon : S + 1 < a % 12 + 1
        · skip
          have HS2 : Hid (((S + 1) < a % 12 + 1)) := by show _ < _; omega
          have hs3 : ¬ ((i : Int) + (i : Int) / 5 ≥ a % 12 + 1) := by omega
          go_wp2_with fail
          go_at_call 12
          refine (write_st (Sd.alloc ST.out (u8s [(i : Int)]) 5) ((i : Int) % 4) [(i : Int)] _ (by intro y hy; simp at hy; omega) (HP.out.num (by omega) (by omega)) (Sd.sl (Sd.alloc ST.out (u8s [(i : Int)]) 5) 0 rfl 1 1 rfl (Nat.le_refl _))).mono ?_
          rintro e w4 ⟨he, st4⟩
          rw [HP.out.wcode _ _ (by omega) (by simp), if_pos (by have := HS2.out; omega)] at he
          subst he
          obtain ⟨d4, hd4⟩ : ∃ x, x = d.write ((i : Int) % 4) [(i : Int)] := ⟨_, rfl⟩
          have HP4 : Hid (d4.Pw (a % 12 + 1) (S + 1)) := by rw [hd4]; exact HP.out.write _ _
          have ST4 : Hid (Sd w w4 g mb kv d4 []) := (Sd.congr st4 hd4.symm).tail
          clear st4 hd4 ST HP
          go_wp2_with fail
          have ST5 := ST4
          have HP5 := HP4
          clear ST4 HP4
          go_at_call 24
          refine (read_st ST5.out 0).mono ?_
          rintro e w6 ⟨v, he, _, st6, _⟩
          rw [HP5.out.rcode, if_pos (by have := HS2.out; omega)] at he
          subst he
          have ST6 : Hid (Sd w w6 g mb kv d4 []) := st6
          clear st6 ST5
          go_wp2_with fail
          go_roundw
          case rel => exact ⟨i + 1, d4, (S + 1), by omega, by omega, by go_num, by omega, by omega, by omega, HP5.out, ST6.out⟩
          case measure => simp [intOf]; omega
        · skip
          have HS2 : Hid (¬ ((S + 1) < a % 12 + 1)) := by show ¬ _ < _; omega
          have hs3 : ((i : Int) + (i : Int) / 5 ≥ a % 12 + 1) := by omega
          go_wp2_with fail
          go_at_call 12
          refine (write_st (Sd.alloc ST.out (u8s [(i : Int)]) 5) ((i : Int) % 4) [(i : Int)] _ (by intro y hy; simp at hy; omega) (HP.out.num (by omega) (by omega)) (Sd.sl (Sd.alloc ST.out (u8s [(i : Int)]) 5) 0 rfl 1 1 rfl (Nat.le_refl _))).mono ?_
          rintro e w4 ⟨he, st4⟩
          rw [HP.out.wcode _ _ (by omega) (by simp), if_neg (by have := HS2.out; omega)] at he
          subst he
          obtain ⟨d4, hd4⟩ : ∃ x, x = d.write ((i : Int) % 4) [(i : Int)] := ⟨_, rfl⟩
          have HP4 : Hid (d4.Pw (a % 12 + 1) (S + 1)) := by rw [hd4]; exact HP.out.write _ _
          have ST4 : Hid (Sd w w4 g mb kv d4 []) := (Sd.congr st4 hd4.symm).tail
          clear st4 hd4 ST HP
          go_wp2_with fail
          have ST5 := ST4
          have HP5 := HP4
          clear ST4 HP4
          go_at_call 24
          refine (read_st ST5.out 0).mono ?_
          rintro e w6 ⟨v, he, _, st6, _⟩
          rw [HP5.out.rcode, if_neg (by have := HS2.out; omega)] at he
          subst he
          have ST6 : Hid (Sd w w6 g mb kv d4 []) := st6
          clear st6 ST5
          go_wp2_with fail
          go_roundw
          case rel => exact ⟨i + 1, d4, (S + 1), by omega, by omega, by go_num, by omega, by omega, by omega, HP5.out, ST6.out⟩
          case measure => simp [intOf]; omega
    · go_wp2_with fail
      go_at_call 18
      refine (crash_st ST.out [] _ bytes_nil (SlA.nil _ _)).mono ?_
      rintro e w7 ⟨rfl, st7⟩
      obtain ⟨d7, hd7⟩ : ∃ x, x = d.crash [] := ⟨_, rfl⟩
      have HC7 : Hid (d7.Calm ∧ d7.n = 4 ∧ d7.steps < 1000) := by
        rw [hd7]
        exact ⟨Dk.crash_calm _ (by rw [HP.out.steps]; exact hS0), HP.out.n, by show d.steps < 1000; rw [HP.out.steps]; omega⟩
      have ST7 : Hid (Sd w w7 g mb kv d7 []) := Sd.congr st7 hd7.symm
      clear st7 hd7 ST HP
      go_wp2_with fail
      go_at_call 24
      refine (read_ok ST7.out 0 (by omega) (by rw [HC7.out.2.1]; decide) HC7.out.1.off).mono ?_
      rintro e w8 ⟨q8, rfl, st8⟩
      have ST8 : Hid (Sd w w8 g mb kv d7 []) := st8.tail
      clear st8 ST7
      go_wp2_with fail
      go_at_call 12
      refine (write_ok ST8.out 0 [] _ (by omega) (by rw [HC7.out.2.1]; decide) HC7.out.1.step.off (by decide) bytes_nil (HC7.out.1.num (by have := HC7.out.2.2; omega)) (SlA.nil _ _)).mono ?_
      rintro e w9 ⟨rfl, st9⟩
      have HB9 : Hid (Below w.heap.size w w9) := st9.mem.below
      clear st9 ST8
      go_wp2_with fail
      go_ret
      exact ⟨rfl, HB9.out⟩
end Go.Proofs.Ytlddkmjhkhliiaa
