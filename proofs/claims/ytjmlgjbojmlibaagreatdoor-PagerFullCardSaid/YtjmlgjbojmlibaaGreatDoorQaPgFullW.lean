import Derived.Test.YtjmlgjbojmlibaaGreatDoorQaPgS
set_option maxRecDepth 100000
namespace Go.Proofs.YtjmlgjbojmlibaaGreatDoor
open Go Go.RowKit Go.Maps
theorem upf_lt (i : Nat) : upf (fun j => decide (j < i)) i true = fun j => decide (j < i + 1) := by
  funext j
  unfold upf
  split
  · next h => simp [h]
  · next h => simp only [decide_eq_decide]; omega
theorem cntB_none : cntB (fun _ => false) = 0 := by simp [cntB]
theorem lt_len (n : Nat) : ∀ m, ((List.range m).filter fun i => decide (i < n)).length = min m n
  | 0 => by simp
  | m + 1 => by
    rw [List.range_succ, List.filter_append, List.length_append, lt_len n m]
    by_cases h : m < n
    · simp [h]; omega
    · simp [h]; omega
theorem cntB_lt (n : Nat) (h : n ≤ 400) : cntB (fun j => decide (j < n)) = n := by
  unfold cntB
  rw [lt_len]
  omega
theorem del_len (U : Nat → Bool) (c : Nat) (hc : U c = true) : ∀ m, ((List.range m).filter fun i => upf U c false i).length + (if c < m then 1 else 0) = ((List.range m).filter fun i => U i).length
  | 0 => by simp
  | m + 1 => by
    have ih := del_len U c hc m
    rw [List.range_succ, List.filter_append, List.filter_append, List.length_append, List.length_append]
    by_cases h : c = m
    · subst h
      have e : upf U c false c = false := by simp [upf]
      simp [e, hc] at ih ⊢
      omega
    · have e : upf U c false m = U m := by unfold upf; rw [if_neg (fun e => h e.symm)]
      have e2 : (if c < m + 1 then 1 else 0) = (if c < m then 1 else 0 : Nat) := by
        by_cases h2 : c < m
        · rw [if_pos h2, if_pos (by omega)]
        · rw [if_neg h2, if_neg (by omega)]
      rw [e2, ← ih]
      simp only [List.filter_cons, List.filter_nil, e]
      omega
theorem cntB_del (U : Nat → Bool) (c : Nat) (hc : U c = true) (h : c < 400) : cntB (upf U c false) + 1 = cntB U := by
  have h1 := del_len U c hc 400
  rw [if_pos h] at h1
  exact h1
def cF (i j : Nat) : Option (List Int) := if j < i then some [(j : Int)] else none
def uF (i j : Nat) : Option (Option (List Int)) := (cF i j).map some
theorem cF_some (i j : Nat) : (cF i j).isSome = decide (j < i) := by
  unfold cF
  split
  · next h => simp [h]
  · next h => simp [h]
theorem uF_some (i j : Nat) : (uF i j).isSome = decide (j < i) := by
  unfold uF
  rw [Option.isSome_map, cF_some]
theorem uF_next (i : Nat) : upf (upf (uF i) i (some none)) i (some (some [(i : Int)])) = uF (i + 1) := by
  funext j
  unfold upf
  split
  · next h => subst h; unfold uF cF; rw [if_pos (by omega)]; rfl
  · next h =>
    unfold uF cF
    by_cases h2 : j < i
    · rw [if_pos h2, if_pos (by omega)]
    · rw [if_neg h2, if_neg (by omega)]
theorem upf_map (f : Nat → Option (List Int)) (c : Nat) (j : Nat) : upf (fun j => (f j).map some) c none j = (upf f c none j).map some := by
  unfold upf
  split <;> rfl
theorem upf_isSome (f : Nat → Option (List Int)) (c : Nat) : (fun j => (upf f c none j).isSome) = upf (fun j => (f j).isSome) c false := by
  funext j
  unfold upf
  split <;> rfl
theorem mtN_bytes : Bytes (strB { data := #[] }) := by
  intro x hx
  cases hx
set_option maxHeartbeats 2000000 in
theorem pfull_any (pages free : Nat) (hpb : pages < 256) (hfb : free < 256) (w : World) (ht : Tab w) (hq : QTab w) (hw2 : 2 ≤ w.heap.size) :
    Calls Tryz.prog 6 #[.int .u8 (pages : Int), .int .u8 (free : Int)] w fun e w' => e = .returned (.bool true) ∧ Below w.heap.size w w' := by
  have HT : Hid (Tab w) := ht
  have HQ : Hid (QTab w) := hq
  clear ht hq
  obtain ⟨n, hn0⟩ : ∃ n : Nat, n = pages % 10 + 4 := ⟨_, rfl⟩
  have HN : Hid ((pages : Int) % 10 + 4 = (n : Int)) := by show _ = _; omega
  have hn4 : 4 ≤ n := by omega
  have hn13 : n ≤ 13 := by omega
  obtain ⟨kP, hkP⟩ : ∃ x, x = deriveOf kNine labPage 0 := ⟨_, rfl⟩
  have HKP : Hid (∀ _ : Unit, deriveOf kNine labPage 0 = kP) := fun _ => hkP.symm
  clear hn0 hkP
  go_enter Tryz.func6, Tryz.ntmps6
  go_wp2_with (first
    | (go_at_call 9; refine (known7_any _ HT.out HQ.out hw2).mono ?_; rintro e w1 ⟨rfl, hb⟩; have HB1 : Hid (Below w.heap.size w w1) := hb; clear hb))
  rw [HN.out]
  have HW1 : Hid (2 ≤ w1.heap.size) := Nat.le_trans hw2 HB1.out.size
  refine (begun_s n hn4 (by omega) w1 (HT.out.bel HB1.out) (HQ.out.bel HB1.out) HW1.out).mono ?_
  rintro e w2 ⟨gp, g, mb, kv, gm, q1, q2, rfl, hs, _, _⟩
  rw [HKP.out ()] at hs
  have HS : Hid (PgS w1 w2 gp g mb kv kP n (132) (fun _ => none) (fun _ => none) 0 { data := #[] }) := hs
  clear hs
  go_wp2_with (first
    | (go_at_call 28; refine (len_s (by omega) _ HS.out).mono ?_; rintro e w3 ⟨rfl, rfl⟩))
  go_loopw [10] (fun vi wr => ∃ i : Nat, i ≤ n ∧ vi = .int .i64 (i : Int) ∧ PgS w1 wr gp g mb kv kP n (132 + 74 * i) (uF i) (fun _ => none) 0 { data := #[] }) (fun vi _ => n - (RowKit.intOf vi).toNat)
  case atStart => exact ⟨0, by omega, rfl, HS.out⟩
  case round =>
    clear HS
    obtain ⟨i, hi, rfl, hs⟩ := hrel
    have HS : Hid (PgS w1 wr gp g mb kv kP n (132 + 74 * i) (uF i) (fun _ => none) 0 { data := #[] }) := hs
    clear hs
    by_cases hlt : i < n
    · have hki : (i : Int) < (n : Int) := by omega
      go_wp2_with (first
        | (go_at_call 20; refine (alloc_s (by omega) i hlt (by rw [uF_some]; simp) (fun j hj => by rw [uF_some]; simp [hj]) _ HS.out).mono ?_; rintro e w4 ⟨rfl, hs4, _⟩; have HS4 : Hid (PgS w1 w4 gp g mb kv kP n (132 + 74 * i) (upf (uF i) i (some none)) (fun _ => none) 0 { data := #[] }) := hs4; clear hs4)
        | ((with_reducible refine at_opG (some 64) (.buildSlice 29 1 #[(0, .tmp 63)]) (some (8, false)) ?_); go_must (refine wpl_bsl1 rfl (.int .u8 0) (.int .u8 (i : Int)) un_bs info_u8 rfl rfl rfl (Mem.start w4) ?_); intro w5 g5 hb5 hm5; have HR5 : Hid (Row w5 g5 (u8s [(i : Int)]) 5) := hm5.get 0 rfl; have HS5 : Hid (PgS w1 w5 gp g mb kv kP n (132 + 74 * i) (upf (uF i) i (some none)) (fun _ => none) 0 { data := #[] }) := HS4.out.below hb5; clear hb5 hm5)
        | (go_at_call 21; refine (write_s i [(i : Int)] _ (by omega) hlt (by simp [upf]) (by simp) (by intro x hx; simp only [List.mem_cons, List.not_mem_nil, or_false] at hx; subst hx; omega) (by omega) _ ⟨some ⟨g5, 0, none⟩, 1, rfl, Nat.le_refl _, fun _ => ⟨g5, 0, rfl, Seg.row HR5.out, Or.inr ⟨_, HR5.out⟩⟩⟩ HS5.out).mono ?_; rintro e w6 ⟨rfl, hs6, _⟩; rw [uF_next] at hs6; have HS6 : Hid (PgS w1 w6 gp g mb kv kP n (132 + 74 * i + 74) (uF (i + 1)) (fun _ => none) 0 { data := #[] }) := hs6; clear hs6))
      refine ⟨⟨i + 1, by omega, by go_num, ?_⟩, by simp [RowKit.intOf]; omega⟩
      have h9 := HS6.out
      rw [show 132 + 74 * i + 74 = 132 + 74 * (i + 1) by omega] at h9
      exact h9
    · obtain rfl : i = n := by omega
      have hni : ¬ (i : Int) < (i : Int) := by omega
      obtain ⟨c, hc0⟩ : ∃ c : Nat, c = free % i := ⟨_, rfl⟩
      have hci : c < i := by rw [hc0]; exact Nat.mod_lt _ (by omega)
      have HCI : Hid ((free : Int) % (i : Int) = (c : Int)) := by show _ = _; rw [hc0]; simp
      have HCM : Hid ((c : Int) % 4294967296 = (c : Int)) := by show _ = _; omega
      have HR1 : Hid ((i : Int) - (cntB (fun j => ((fun _ => none : Nat → Option (List Int)) j).isSome) : Nat) - (cntB (fun j => (uF i j).isSome && !((fun _ => none : Nat → Option (List Int)) j).isSome) : Nat) = 0) := by
        show _ = _
        rw [show (fun j => ((fun _ => none : Nat → Option (List Int)) j).isSome) = fun _ => false from rfl, cntB_none, show (fun j => (uF i j).isSome && !((fun _ => none : Nat → Option (List Int)) j).isSome) = fun j => decide (j < i) by funext j; rw [uF_some]; simp, cntB_lt i (by omega)]
        omega
      have HR2 : Hid ((i : Int) - (cntB (fun j => (cF i j).isSome) : Nat) - (cntB (fun j => (upf (uF i) c none j).isSome && !(cF i j).isSome) : Nat) = 0) := by
        show _ = _
        rw [show (fun j => (upf (uF i) c none j).isSome && !(cF i j).isSome) = fun _ => false by funext j; rw [cF_some]; unfold upf; split <;> simp [uF_some], cntB_none, show (fun j => (cF i j).isSome) = fun j => decide (j < i) by funext j; rw [cF_some], cntB_lt i (by omega)]
        omega
      have HR3 : Hid ((i : Int) - (cntB (fun j => (upf (cF i) c none j).isSome) : Nat) - (cntB (fun j => (upf (uF i) c none j).isSome && !(upf (cF i) c none j).isSome) : Nat) = 1) := by
        show _ = _
        have h1 := cntB_del (fun j => decide (j < i)) c (by simpa using hci) (by omega)
        rw [show (fun j => (upf (uF i) c none j).isSome && !(upf (cF i) c none j).isSome) = fun _ => false by funext j; unfold upf; split <;> simp [uF_some, cF_some], cntB_none, upf_isSome, show (fun j => (cF i j).isSome) = fun j => decide (j < i) by funext j; rw [cF_some]]
        rw [cntB_lt i (by omega)] at h1
        omega
      have HUI : Hid (upf (upf (uF i) c none) c (some none) i = none) := by
        show _ = _
        unfold upf
        rw [if_neg (by omega), if_neg (by omega)]
        unfold uF cF
        rw [if_neg (by omega)]
        rfl
      have HLO : Hid (∀ j, j < c → ((upf (uF i) c none j).isSome || (upf (cF i) c none j).isSome) = true) := fun j hj => by
        unfold upf
        rw [if_neg (by omega), uF_some]
        simp
        omega
      clear hc0
      go_wp2_with fail
      refine (full_s (by omega) (fun j hj => by rw [uF_some]; simp [hj]) _ HS.out).mono ?_
      rintro e wa ⟨he, hs, _⟩
      subst he
      replace HS : Hid (PgS w1 wa gp g mb kv kP i (132 + 74 * i) (uF i) (fun _ => none) 0 { data := #[] }) := hs
      clear hs
      go_wp2_with fail
      refine (room_s (by omega) _ HS.out).mono ?_
      rintro e wb ⟨he, hs, _⟩
      rw [HR1.out] at he
      subst he
      replace HS : Hid (PgS w1 wb gp g mb kv kP i (132 + 74 * i) (uF i) (fun _ => none) 0 { data := #[] }) := hs
      clear hs
      go_wp2_with fail
      refine (commit_s 0 { data := #[] } (cF i) (fun _ => rfl) (by omega) ⟨by omega, by omega⟩ (by decide) mtN_bytes (by omega) _ HS.out).mono ?_
      rintro e wc ⟨he, hs, _⟩
      subst he
      replace HS : Hid (PgS w1 wc gp g mb kv kP i (132 + 74 * i + 66) (uF i) (cF i) 0 { data := #[] }) := hs
      clear hs
      go_wp2_with fail
      rw [HCI.out, HCM.out]
      refine (free_s c (by omega) (by rw [uF_some]; simpa using hci) _ HS.out).mono ?_
      rintro e wd ⟨he, hs, _⟩
      subst he
      replace HS : Hid (PgS w1 wd gp g mb kv kP i (132 + 74 * i + 66) (upf (uF i) c none) (cF i) 0 { data := #[] }) := hs
      clear hs
      go_wp2_with fail
      refine (room_s (by omega) _ HS.out).mono ?_
      rintro e we ⟨he, hs, _⟩
      rw [HR2.out] at he
      subst he
      replace HS : Hid (PgS w1 we gp g mb kv kP i (132 + 74 * i + 66) (upf (uF i) c none) (cF i) 0 { data := #[] }) := hs
      clear hs
      go_wp2_with fail
      refine (full_s (by omega) (fun j hj => by rw [cF_some]; simp [hj]) _ HS.out).mono ?_
      rintro e wf ⟨he, hs, _⟩
      subst he
      replace HS : Hid (PgS w1 wf gp g mb kv kP i (132 + 74 * i + 66) (upf (uF i) c none) (cF i) 0 { data := #[] }) := hs
      clear hs
      go_wp2_with fail
      refine (commit_s 0 { data := #[] } (upf (cF i) c none) (upf_map (cF i) c) (by omega) ⟨by omega, by omega⟩ (by decide) mtN_bytes (by omega) _ HS.out).mono ?_
      rintro e wg ⟨he, hs, _⟩
      subst he
      replace HS : Hid (PgS w1 wg gp g mb kv kP i (132 + 74 * i + 66 + 66) (upf (uF i) c none) (upf (cF i) c none) 0 { data := #[] }) := hs
      clear hs
      go_wp2_with fail
      refine (room_s (by omega) _ HS.out).mono ?_
      rintro e wh ⟨he, hs, _⟩
      rw [HR3.out] at he
      subst he
      replace HS : Hid (PgS w1 wh gp g mb kv kP i (132 + 74 * i + 66 + 66) (upf (uF i) c none) (upf (cF i) c none) 0 { data := #[] }) := hs
      clear hs
      go_wp2_with fail
      refine (alloc_s (by omega) c hci (by simp [upf]) HLO.out _ HS.out).mono ?_
      rintro e wi ⟨he, hs, _⟩
      subst he
      replace HS : Hid (PgS w1 wi gp g mb kv kP i (132 + 74 * i + 66 + 66) (upf (upf (uF i) c none) c (some none)) (upf (cF i) c none) 0 { data := #[] }) := hs
      clear hs
      go_wp2_with fail
      refine (read_s_no c (by omega) (by simp [upf]) _ HS.out).mono ?_
      rintro e wj ⟨he, hs, _⟩
      subst he
      replace HS : Hid (PgS w1 wj gp g mb kv kP i (132 + 74 * i + 66 + 66) (upf (upf (uF i) c none) c (some none)) (upf (cF i) c none) 0 { data := #[] }) := hs
      clear hs
      go_wp2_with fail
      refine (free_s_no i (by omega) HUI.out _ HS.out).mono ?_
      rintro e wk ⟨he, hs, _⟩
      subst he
      replace HS : Hid (PgS w1 wk gp g mb kv kP i (132 + 74 * i + 66 + 66) (upf (upf (uF i) c none) c (some none)) (upf (cF i) c none) 0 { data := #[] }) := hs
      clear hs
      go_wp2_with fail
      go_ret
      exact ⟨rfl, HB1.out.trans ((PgS.bl HS.out).mono HB1.out.size)⟩
end Go.Proofs.YtjmlgjbojmlibaaGreatDoor
