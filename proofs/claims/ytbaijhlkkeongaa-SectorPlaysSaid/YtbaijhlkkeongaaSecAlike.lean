/- What alike tells of two disks that are. -/
import Derived.Test.YtbaijhlkkeongaaSecPl
namespace Go.Proofs.Ytbaijhlkkeongaa
open Go Go.RowKit Go.Maps
set_option maxHeartbeats 2000000 in
set_option maxRecDepth 100000 in
theorem alike_any (g mb q a b c : Nat) (kv : Value) (d : Dk) (at' : Int) (w : World) (hd : DkAt w g mb kv d) (hr : Rf w q a b c d) :
    Calls Try.prog 15 #[.pointer (some ⟨g, 0, none⟩), .pointer (some ⟨q, 0, none⟩), .int .i64 at'] w fun e w' => e = .returned (.bool true) ∧ Below w.heap.size w w' := by
  have hm := Mem.start w
  have HD : Hid (DkAt w g mb kv d) := hd
  have HR : Hid (Rf w q a b c d) := hr
  have HOK : Hid d.Ok := hd.ok
  obtain ⟨n, hn⟩ : ∃ n, n = d.n := ⟨_, rfl⟩
  have HN : Hid (∀ _ : Unit, d.n = n) := fun _ => hn.symm
  have hn4 : n ≤ 4000 := by rw [hn]; exact hd.ok.n
  obtain ⟨s, hs⟩ : ∃ s, s = d.steps := ⟨_, rfl⟩
  have HS : Hid (∀ _ : Unit, d.steps = s) := fun _ => hs.symm
  have HRS : Hid (∀ V, Mem w [] V [] → V.cell? ⟨q, 3, none⟩ = some (.int .i64 s)) := fun V hV => by
    have h1 := (RfAt.below HR.out hV.below).row
    rw [h1.cell, hs]
    rfl
  clear hd hr hn hs
  go_enter Try.func15, Try.ntmps15
  go_wp2_with fail
  refine wp_ends0 ?_
  refine anyH_start (T := fun V => Mem w [] V []) (by kernel_rfl) hm ?_
  clear hm
  intro w1 hm
  refine anyH_takeG 0 (v := .pointer (some ⟨g, 0, none⟩)) rfl (by kernel_rfl) (by kernel_rfl) (by kernel_rfl) rfl (fun V _ => by go_simp) hm ?_
  go_simp
  refine anyH_takeG 2 (v := .pointer (some ⟨q, 0, none⟩)) rfl (by kernel_rfl) (by kernel_rfl) (by kernel_rfl) rfl (fun V _ => by go_simp) hm ?_
  go_simp
  refine wpAnyH_all (rs := [1]) (by kernel_rfl) (by simp) ?_
  intro i' hi'
  simp only [List.mem_cons, List.not_mem_nil, or_false] at hi'
  subst hi'
  refine anyH_opW 1 rfl rfl ?_
  intro K hK
  go_wp2_with (go_at_call 19; refine (len_any g mb kv d _ (DkAt.mem HD.out hm)).mono ?_; rintro e wl ⟨he, hw⟩; rw [HN.out ()] at he; subst he; replace hw := hw.symm; subst hw)
  refine hK _ _ hm ?_
  clear hK K
  go_simp
  refine wpAnyH_all (rs := [3]) (by kernel_rfl) (by simp) ?_
  intro i' hi'
  simp only [List.mem_cons, List.not_mem_nil, or_false] at hi'
  subst hi'
  refine anyH_opW 3 rfl rfl ?_
  intro K hK
  go_wp2_with (go_at_call 29; refine (lenR_any q a b c d.n d.now d.kept (pOf d) d.steps d.left d.off _ (RfAt.below HR.out hm.below)).mono ?_; rintro e wl ⟨he, hw⟩; rw [HN.out ()] at he; subst he; replace hw := hw.symm; subst hw)
  refine hK _ _ hm ?_
  clear hK K
  go_simp
  refine anyH_takeG 4 (v := .bool false) rfl (by kernel_rfl) (by kernel_rfl) (by kernel_rfl) rfl (fun V _ => by go_simp) hm ?_
  go_simp
  refine anyH_takeG 5 (v := .bool false) rfl (by kernel_rfl) (by kernel_rfl) (by kernel_rfl) rfl (fun V _ => by go_simp) hm ?_
  go_simp
  refine anyH_takeG 6 (v := .pointer (some ⟨g, 0, none⟩)) rfl (by kernel_rfl) (by kernel_rfl) (by kernel_rfl) rfl (fun V _ => by go_simp) hm ?_
  go_simp
  refine anyH_takeG 8 (v := .pointer (some ⟨q, 0, none⟩)) rfl (by kernel_rfl) (by kernel_rfl) (by kernel_rfl) rfl (fun V _ => by go_simp) hm ?_
  go_simp
  refine anyH_takeG 9 (v := .pointer (some ⟨q, 0, none⟩)) rfl (by kernel_rfl) (by kernel_rfl) (by kernel_rfl) rfl (fun V _ => by go_simp) hm ?_
  go_simp
  refine anyH_takeG 10 (v := .pointer (some ⟨q, 3, none⟩)) rfl (by kernel_rfl) (by kernel_rfl) (by kernel_rfl) rfl (fun V _ => by go_simp) hm ?_
  go_simp
  refine anyH_takeG 11 (v := .int .i64 s) rfl (by kernel_rfl) (by kernel_rfl) (by kernel_rfl) rfl (fun V hV => exec_ldxG (.int .i64 s) (HRS.out V hV) rfl ag_int) hm ?_
  go_simp
  refine wpAnyH_all (rs := [7]) (by kernel_rfl) (by simp) ?_
  intro i' hi'
  simp only [List.mem_cons, List.not_mem_nil, or_false] at hi'
  subst hi'
  refine anyH_opW 7 rfl rfl ?_
  intro K hK
  go_wp2_with (go_at_call 21; refine (steps_any g mb kv d _ (DkAt.mem HD.out hm)).mono ?_; rintro e wl ⟨he, hw⟩; rw [HS.out ()] at he; subst he; replace hw := hw.symm; subst hw)
  refine hK _ _ hm ?_
  clear hK K
  go_simp
  refine anyH_takeG 12 (v := .bool false) rfl (by kernel_rfl) (by kernel_rfl) (by kernel_rfl) rfl (fun V _ => by go_simp) hm ?_
  go_simp
  refine anyH_takeG 13 (v := .bool false) rfl (by kernel_rfl) (by kernel_rfl) (by kernel_rfl) rfl (fun V _ => by go_simp) hm ?_
  go_simp
  refine wpAnyH_done (by kernel_rfl) ?_ _
  simp only [endsIn]
  go_wp2_with fail
  go_loopw [7] (fun vi wr => ∃ t : Nat, t ≤ n + 2 ∧ vi = .int .i64 ((t : Int) - 1) ∧ Mem w [] wr []) (fun vi _ => n + 2 - (intOf vi + 1).toNat)
  case atStart => exact ⟨0, by omega, rfl, hm⟩
  case round =>
    clear hm
    obtain ⟨t, ht, rfl, hm⟩ := hrel
    by_cases hlt : t < n + 2
    · have hlt2 : ((t : Int) - 1) ≤ (n : Int) := by omega
      have ht1 : (t : Int) ≤ 5000 := by omega
      go_wp2_with (go_at_call 29; refine (lenR_any q a b c d.n d.now d.kept (pOf d) d.steps d.left d.off _ (RfAt.below HR.out hm.below)).mono ?_; rintro e wl ⟨he, hw⟩; rw [HN.out ()] at he; subst he; replace hw := hw.symm; subst hw)
      go_at_call 20
      refine (read_dk g mb kv d _ _ (DkAt.mem HD.out hm)).mono ?_
      rintro e w3 ⟨v1, he, hs1, hb⟩
      obtain ⟨cd, hcd⟩ : ∃ x, x = d.rcode ((t : Int) - 1) := ⟨_, rfl⟩
      obtain ⟨rd, hrd⟩ : ∃ x, x = d.read ((t : Int) - 1) := ⟨_, rfl⟩
      rw [← hcd] at he
      rw [← hrd] at hs1
      have HCD : Hid (∀ _ : Unit, d.rcode ((t : Int) - 1) = cd) := fun _ => hcd.symm
      have HRD : Hid (∀ _ : Unit, d.read ((t : Int) - 1) = rd) := fun _ => hrd.symm
      obtain ⟨p1, c1, hv1, _⟩ := hs1.len
      obtain ⟨rl, hrl⟩ : ∃ x, x = rd.length := ⟨_, rfl⟩
      rw [← hrl] at hv1
      subst hv1
      have HRL : Hid (∀ _ : Unit, rl = rd.length) := fun _ => hrl
      have HS1 : Hid (SlOld w3 (.slice p1 rl c1) rd) := hs1
      replace hm := hm.call hb
      subst he
      clear hcd hrd hs1 hb hrl
      go_wp2_with fail
      go_at_call 30
      refine (readR_any q a b c d _ HOK.out _ (RfAt.below HR.out hm.below)).mono ?_
      rintro e w4 ⟨v2, he, hs2, hb⟩
      rw [HCD.out ()] at he
      rw [HRD.out ()] at hs2
      obtain ⟨p2, c2, hv2, _⟩ := hs2.len
      rw [← HRL.out ()] at hv2
      subst hv2
      have HS2 : Hid (SlOld w4 (.slice p2 rl c2) rd) := hs2
      have HS1' : Hid (SlOld w4 (.slice p1 rl c1) rd) := SlOld.below HS1.out hb
      replace hm := hm.call hb
      subst he
      clear hs2 hb HS1 HCD HRD HRL
      go_wp2_with (first
        | ((with_reducible refine at_opG (some 53) (.convert 28 9 (.tmp 52)) (some (3, false)) ?_); go_must (refine wpl_execG (.string (strOf rd)) rfl (exec_tostr un_bs un_u8 un_strT rd rfl HS1'.out) ?_))
        | ((with_reducible refine at_opG (some 55) (.convert 28 9 (.tmp 54)) (some (3, false)) ?_); go_must (refine wpl_execG (.string (strOf rd)) rfl (exec_tostr un_bs un_u8 un_strT rd rfl HS2.out) ?_))
        | ((with_reducible refine at_opG (some 56) (.binOp .neq 9 (.tmp 53) (.tmp 55) 9) (some (3, false)) ?_); go_must (refine wpl_execG (.bool false) rfl (exec_nes (strOf rd) (strOf rd) true rfl rfl (beq_self_str _)) ?_)))
      go_roundw
      case rel => exact ⟨t + 1, by omega, by go_num, hm⟩
      case measure => simp [intOf]; omega
    · have hlt2 : ¬ (((t : Int) - 1) ≤ (n : Int)) := by omega
      go_wp2_with (go_at_call 29; refine (lenR_any q a b c d.n d.now d.kept (pOf d) d.steps d.left d.off _ (RfAt.below HR.out hm.below)).mono ?_; rintro e wl ⟨he, hw⟩; rw [HN.out ()] at he; subst he; replace hw := hw.symm; subst hw)
      go_at_call 20
      refine (read_dk g mb kv d _ _ (DkAt.mem HD.out hm)).mono ?_
      rintro e w3 ⟨v1, he, hs1, hb⟩
      obtain ⟨cd, hcd⟩ : ∃ x, x = d.rcode at' := ⟨_, rfl⟩
      obtain ⟨rd, hrd⟩ : ∃ x, x = d.read at' := ⟨_, rfl⟩
      rw [← hcd] at he
      rw [← hrd] at hs1
      have HCD : Hid (∀ _ : Unit, d.rcode at' = cd) := fun _ => hcd.symm
      have HRD : Hid (∀ _ : Unit, d.read at' = rd) := fun _ => hrd.symm
      obtain ⟨p1, c1, hv1, _⟩ := hs1.len
      obtain ⟨rl, hrl⟩ : ∃ x, x = rd.length := ⟨_, rfl⟩
      rw [← hrl] at hv1
      subst hv1
      have HRL : Hid (∀ _ : Unit, rl = rd.length) := fun _ => hrl
      have HS1 : Hid (SlOld w3 (.slice p1 rl c1) rd) := hs1
      replace hm := hm.call hb
      subst he
      clear hcd hrd hs1 hb hrl
      go_wp2_with fail
      go_at_call 30
      refine (readR_any q a b c d _ HOK.out _ (RfAt.below HR.out hm.below)).mono ?_
      rintro e w4 ⟨v2, he, hs2, hb⟩
      rw [HCD.out ()] at he
      rw [HRD.out ()] at hs2
      obtain ⟨p2, c2, hv2, _⟩ := hs2.len
      rw [← HRL.out ()] at hv2
      subst hv2
      have HS2 : Hid (SlOld w4 (.slice p2 rl c2) rd) := hs2
      have HS1' : Hid (SlOld w4 (.slice p1 rl c1) rd) := SlOld.below HS1.out hb
      replace hm := hm.call hb
      subst he
      clear hs2 hb HS1 HCD HRD HRL
      clear HS1' HS2
      go_wp2_with fail
      go_ret
      exact ⟨rfl, hm.below⟩
end Go.Proofs.Ytbaijhlkkeongaa
