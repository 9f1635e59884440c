/- Package bits: GetText. -/
import Derived.Test.YtnahflppggoplaaNdText
namespace Go.Proofs.Ytnahflppggoplaa
open Go Go.RowKit
set_option maxHeartbeats 1000000 in
set_option maxRecDepth 100000 in
theorem getText_short (cs : List Int) (p : Option Addr) (N cap m _n : Nat) (hN : cs.length = N) (hNl : N ≤ 30000) (_hml : m ≤ 1000) (_hcb : Bytes cs) (h2 : N < 2) (w : World) (hv : SlOld w (.slice p N cap) cs) :
    Calls Try.prog 17 #[.slice p N cap, .int .i64 (m : Int)] w fun e w' => ∃ g, e = .returned (.tuple #[.string noStr, .slice (some ⟨g, 0, none⟩) N N, .int .i64 10]) ∧ w.heap.size ≤ g ∧ Row w' g (u8s cs) 5 ∧ Below w.heap.size w w' := by
  have HV : Hid (SlOld w (.slice p N cap) cs) := hv
  have HNL : Hid (cs.length = N) := hN
  have hm := Mem.start w
  have h2i : (N : Int) < 2 := by omega
  clear hv hN
  go_enter Try.func17, Try.ntmps17
  go_wp2_with (first
    | (go_at_call 32; refine (longer_gen cs _ 0 (by rw [HNL.out]; exact hNl) (by omega) _ (SlOld.mem HV.out hm)).mono ?_; rintro e w4 ⟨g, he, hge, hrg, hb⟩; rw [HNL.out, Nat.add_zero] at he; subst he; rw [List.replicate_zero, List.append_nil] at hrg; have HRG : Hid (Row w4 g (u8s cs) 5) := hrg; have HGE : Hid (w.heap.size ≤ g) := Nat.le_trans hm.size hge; replace hm := hm.call hb; clear hb hrg hge))
  go_ret3
  exact ⟨g, rfl, HGE.out, HRG.out, hm.below⟩
set_option maxHeartbeats 1000000 in
set_option maxRecDepth 100000 in
theorem getText_much (cs : List Int) (p : Option Addr) (N cap m n : Nat) (hN : cs.length = N) (hNl : N ≤ 30000) (_hml : m ≤ 1000) (hcb : Bytes cs) (h2 : 2 ≤ N) (hnum : numL (cs.take 2) = (n : Int)) (hn6 : n < 65536) (hnm : m < n) (w : World) (hv : SlOld w (.slice p N cap) cs) :
    Calls Try.prog 17 #[.slice p N cap, .int .i64 (m : Int)] w fun e w' => ∃ g, e = .returned (.tuple #[.string noStr, .slice (some ⟨g, 0, none⟩) N N, .int .i64 11]) ∧ w.heap.size ≤ g ∧ Row w' g (u8s cs) 5 ∧ Below w.heap.size w w' := by
  have HV : Hid (SlOld w (.slice p N cap) cs) := hv
  have HNL : Hid (cs.length = N) := hN
  have hm := Mem.start w
  have h2i : ¬ ((N : Int) < 2) := by omega
  have hcap : N ≤ cap := by obtain ⟨_, h, _⟩ := hv.src0; exact h
  have HNU : Hid (∀ _ : Unit, numL (cs.take 2) = (n : Int)) := fun _ => hnum
  have HT2 : Hid ((cs.take 2).length = 2) := by show _ = _; rw [List.length_take, hN]; omega
  have HTB : Hid (Bytes (cs.take 2)) := hcb.take 2
  have h3 : (n : Int) > (m : Int) := by omega
  clear hv hN hnum
  go_enter Try.func17, Try.ntmps17
  go_wp2_with (first
    | ((with_reducible refine at_op (some 15) (.slice 22 (.tmp 14) none (some (.const (.int .i64 2))) none) ?_); go_must (refine wpl_execG (.slice (cutHi p cap) 2 cap) rfl (exec_sHi un_bs sz_u8 2 (by omega) rfl rfl rfl) ?_))
    | (go_at_call 33; refine (number_any (cs.take 2) _ 2 HT2.out (by omega) HTB.out _ (old_hi HV.out 2 (by omega))).mono ?_; rintro e w2 ⟨he, hw⟩; rw [HNU.out ()] at he; subst he; replace hw := hw.symm; subst hw)
    | (go_at_call 32; refine (longer_gen cs _ 0 (by rw [HNL.out]; exact hNl) (by omega) _ (SlOld.mem HV.out hm)).mono ?_; rintro e w4 ⟨g, he, hge, hrg, hb⟩; rw [HNL.out, Nat.add_zero] at he; subst he; rw [List.replicate_zero, List.append_nil] at hrg; have HRG : Hid (Row w4 g (u8s cs) 5) := hrg; have HGE : Hid (w.heap.size ≤ g) := Nat.le_trans hm.size hge; replace hm := hm.call hb; clear hb hrg hge))
  go_ret3
  exact ⟨g, rfl, HGE.out, HRG.out, hm.below⟩
set_option maxHeartbeats 1000000 in
set_option maxRecDepth 100000 in
theorem getText_cut (cs : List Int) (p : Option Addr) (N cap m n : Nat) (hN : cs.length = N) (hNl : N ≤ 30000) (_hml : m ≤ 1000) (hcb : Bytes cs) (h2 : 2 ≤ N) (hnum : numL (cs.take 2) = (n : Int)) (hn6 : n < 65536) (hnm : n ≤ m) (hsh : N < 2 + n) (w : World) (hv : SlOld w (.slice p N cap) cs) :
    Calls Try.prog 17 #[.slice p N cap, .int .i64 (m : Int)] w fun e w' => ∃ g, e = .returned (.tuple #[.string noStr, .slice (some ⟨g, 0, none⟩) N N, .int .i64 10]) ∧ w.heap.size ≤ g ∧ Row w' g (u8s cs) 5 ∧ Below w.heap.size w w' := by
  have HV : Hid (SlOld w (.slice p N cap) cs) := hv
  have HNL : Hid (cs.length = N) := hN
  have hm := Mem.start w
  have h2i : ¬ ((N : Int) < 2) := by omega
  have hcap : N ≤ cap := by obtain ⟨_, h, _⟩ := hv.src0; exact h
  have HNU : Hid (∀ _ : Unit, numL (cs.take 2) = (n : Int)) := fun _ => hnum
  have HT2 : Hid ((cs.take 2).length = 2) := by show _ = _; rw [List.length_take, hN]; omega
  have HTB : Hid (Bytes (cs.take 2)) := hcb.take 2
  have h3 : ¬ ((n : Int) > (m : Int)) := by omega
  have h4 : (N : Int) < 2 + (n : Int) := by omega
  clear hv hN hnum
  go_enter Try.func17, Try.ntmps17
  go_wp2_with (first
    | ((with_reducible refine at_op (some 15) (.slice 22 (.tmp 14) none (some (.const (.int .i64 2))) none) ?_); go_must (refine wpl_execG (.slice (cutHi p cap) 2 cap) rfl (exec_sHi un_bs sz_u8 2 (by omega) rfl rfl rfl) ?_))
    | (go_at_call 33; refine (number_any (cs.take 2) _ 2 HT2.out (by omega) HTB.out _ (old_hi HV.out 2 (by omega))).mono ?_; rintro e w2 ⟨he, hw⟩; rw [HNU.out ()] at he; subst he; replace hw := hw.symm; subst hw)
    | (go_at_call 32; refine (longer_gen cs _ 0 (by rw [HNL.out]; exact hNl) (by omega) _ (SlOld.mem HV.out hm)).mono ?_; rintro e w4 ⟨g, he, hge, hrg, hb⟩; rw [HNL.out, Nat.add_zero] at he; subst he; rw [List.replicate_zero, List.append_nil] at hrg; have HRG : Hid (Row w4 g (u8s cs) 5) := hrg; have HGE : Hid (w.heap.size ≤ g) := Nat.le_trans hm.size hge; replace hm := hm.call hb; clear hb hrg hge))
  go_ret3
  exact ⟨g, rfl, HGE.out, HRG.out, hm.below⟩
set_option maxHeartbeats 1000000 in
set_option maxRecDepth 100000 in
theorem getText_good (cs : List Int) (p : Option Addr) (N cap m n : Nat) (hN : cs.length = N) (hNl : N ≤ 30000) (_hml : m ≤ 1000) (hcb : Bytes cs) (h2 : 2 ≤ N) (hnum : numL (cs.take 2) = (n : Int)) (hn6 : n < 65536) (hnm : n ≤ m) (hsh : 2 + n ≤ N) (w : World) (hv : SlOld w (.slice p N cap) cs) :
    Calls Try.prog 17 #[.slice p N cap, .int .i64 (m : Int)] w fun e w' => ∃ g, e = .returned (.tuple #[.string (strOf ((cs.drop 2).take n)), .slice (some ⟨g, 0, none⟩) (N - (2 + n)) (N - (2 + n)), .int .i64 0]) ∧ w.heap.size ≤ g ∧ Row w' g (u8s (cs.drop (2 + n))) 5 ∧ Below w.heap.size w w' := by
  have HV : Hid (SlOld w (.slice p N cap) cs) := hv
  have HNL : Hid (cs.length = N) := hN
  have hm := Mem.start w
  have h2i : ¬ ((N : Int) < 2) := by omega
  have hcap : N ≤ cap := by obtain ⟨_, h, _⟩ := hv.src0; exact h
  have HNU : Hid (∀ _ : Unit, numL (cs.take 2) = (n : Int)) := fun _ => hnum
  have HT2 : Hid ((cs.take 2).length = 2) := by show _ = _; rw [List.length_take, hN]; omega
  have HTB : Hid (Bytes (cs.take 2)) := hcb.take 2
  have h3 : ¬ ((n : Int) > (m : Int)) := by omega
  have h4 : ¬ ((N : Int) < 2 + (n : Int)) := by omega
  obtain ⟨M, hM⟩ : ∃ M : Nat, M = N - (2 + n) := ⟨_, rfl⟩
  have HML : Hid ((cs.drop (2 + n)).length = M) := by show _ = _; rw [List.length_drop, hN, hM]
  have HMM : Hid (N - (2 + n) = M) := hM.symm
  have hMl : M ≤ 30000 := by omega
  rw [← hM]
  clear hv hnum hM hN
  go_enter Try.func17, Try.ntmps17
  go_wp2_with (first
    | ((with_reducible refine at_op (some 15) (.slice 22 (.tmp 14) none (some (.const (.int .i64 2))) none) ?_); go_must (refine wpl_execG (.slice (cutHi p cap) 2 cap) rfl (exec_sHi un_bs sz_u8 2 (by omega) rfl rfl rfl) ?_))
    | (go_at_call 33; refine (number_any (cs.take 2) _ 2 HT2.out (by omega) HTB.out _ (old_hi HV.out 2 (by omega))).mono ?_; rintro e w2 ⟨he, hw⟩; rw [HNU.out ()] at he; subst he; replace hw := hw.symm; subst hw))
  refine wp_ends0 ?_
  refine anyH_start (T := fun W => Mem w [] W []) (by kernel_rfl) hm ?_
  clear hm
  intro w3 hm
  refine anyH_take 0 (v := .slice p N cap) rfl (by kernel_rfl) (by kernel_rfl) (by kernel_rfl) rfl (fun W _ => by go_simp) hm ?_
  go_simp
  refine anyH_take 1 (v := .int .i64 (2 + (n : Int))) rfl (by kernel_rfl) (by kernel_rfl) (by kernel_rfl) rfl (fun W _ => by go_simp) hm ?_
  go_simp
  refine anyH_take 2 (v := .slice (cutLo p cap 2) n (cap - 2)) rfl (by kernel_rfl) (by kernel_rfl) (by kernel_rfl) rfl (fun W _ => exec_sLH un_bs sz_u8 2 n (by omega) rfl rfl rfl rfl (by omega)) hm ?_
  go_simp
  refine anyH_take 3 (v := .string (strOf ((cs.drop 2).take n))) rfl (by kernel_rfl) (by kernel_rfl) (by kernel_rfl) rfl (fun W hW => exec_tostr un_bs un_u8 un_strT ((cs.drop 2).take n) rfl (old_lh (SlOld.mem HV.out hW) 2 n (by omega))) hm ?_
  go_simp
  refine anyH_take 4 (v := .slice p N cap) rfl (by kernel_rfl) (by kernel_rfl) (by kernel_rfl) rfl (fun W _ => by go_simp) hm ?_
  go_simp
  refine anyH_take 5 (v := .int .i64 (2 + (n : Int))) rfl (by kernel_rfl) (by kernel_rfl) (by kernel_rfl) rfl (fun W _ => by go_simp) hm ?_
  go_simp
  refine anyH_take 6 (v := .slice (cutLo p cap (2 + n)) M (cap - (2 + n))) rfl (by kernel_rfl) (by kernel_rfl) (by kernel_rfl) rfl (fun W _ => HMM.out ▸ exec_sLo un_bs sz_u8 (2 + n) (by omega) rfl rfl (by omega)) hm ?_
  go_simp
  refine wpAnyH_all (rs := [7]) (by kernel_rfl) (by simp) ?_
  intro i hi
  simp only [List.mem_cons, List.not_mem_nil, or_false] at hi
  subst hi
  refine anyH_opW 7 rfl rfl ?_
  intro K hK
  go_wp2_with (go_at_call 32; refine (longer_gen (cs.drop (2 + n)) _ 0 (by rw [HML.out]; exact hMl) (by omega) _ (HMM.out ▸ old_lo (SlOld.mem HV.out hm) (2 + n) (by omega))).mono ?_; rintro e w4 ⟨g, he, hge, hrg, hb⟩; rw [HML.out, Nat.add_zero] at he; subst he; rw [List.replicate_zero, List.append_nil] at hrg; have HRG : Hid (Row w4 g (u8s (cs.drop (2 + n))) 5) := hrg; have HGE : Hid (w.heap.size ≤ g) := Nat.le_trans hm.size hge; replace hm := hm.call hb; clear hb hrg hge)
  refine hK _ _ hm ?_
  clear hK K
  refine anyH_take 8 (v := .string (strOf ((cs.drop 2).take n))) rfl (by kernel_rfl) (by kernel_rfl) (by kernel_rfl) rfl (fun W _ => by go_simp) hm ?_
  go_simp
  refine anyH_take 9 (v := .slice (some ⟨g, 0, none⟩) M M) rfl (by kernel_rfl) (by kernel_rfl) (by kernel_rfl) rfl (fun W _ => by go_simp) hm ?_
  go_simp
  refine anyH_take 10 (v := .int .i64 0) rfl (by kernel_rfl) (by kernel_rfl) (by kernel_rfl) rfl (fun W _ => by go_simp) hm ?_
  go_simp
  refine wpAnyH_done (by kernel_rfl) ?_ _
  simp only [endsIn]
  go_wp2_with fail
  go_ret3
  exact ⟨g, rfl, HGE.out, HRG.out, hm.below⟩
set_option maxRecDepth 100000 in
theorem getText_any (cs : List Int) (v : Value) (m : Nat) (hNl : cs.length ≤ 30000) (hml : m ≤ 1000) (hcb : Bytes cs) (w : World) (hv : SlOld w v cs) :
    Calls Try.prog 17 #[v, .int .i64 (m : Int)] w fun e w' => ∃ g, e = .returned (.tuple #[.string (gtStr cs m), .slice (some ⟨g, 0, none⟩) (gtRest cs m).length (gtRest cs m).length, .int .i64 (gtCode cs m)]) ∧ w.heap.size ≤ g ∧ Row w' g (u8s (gtRest cs m)) 5 ∧ Below w.heap.size w w' := by
  obtain ⟨p, cap, rfl, hcap⟩ := hv.len
  have hb2 : Bytes (cs.take 2) := hcb.take 2
  have hnum : numL (cs.take 2) = (gtNum cs : Int) := by
    have := numL_nonneg hb2
    unfold gtNum; omega
  by_cases h2 : cs.length < 2
  · have hc : gtCode cs m = 10 := by rw [gtCode, if_pos h2]
    have hc0 : ¬ gtCode cs m = 0 := by rw [hc]; decide
    rw [gtStr, gtRest, if_neg hc0, if_neg hc0, hc]
    exact getText_short cs p cs.length cap m 0 rfl hNl hml hcb h2 w hv
  · have hn6 : gtNum cs < 65536 := by
      have := numL_lt hb2
      rw [List.length_take, Nat.min_eq_left (by omega)] at this
      omega
    by_cases hnm : m < gtNum cs
    · have hc : gtCode cs m = 11 := by rw [gtCode, if_neg h2, if_pos hnm]
      have hc0 : ¬ gtCode cs m = 0 := by rw [hc]; decide
      rw [gtStr, gtRest, if_neg hc0, if_neg hc0, hc]
      exact getText_much cs p cs.length cap m (gtNum cs) rfl hNl hml hcb (by omega) hnum hn6 hnm w hv
    · by_cases hsh : cs.length < 2 + gtNum cs
      · have hc : gtCode cs m = 10 := by rw [gtCode, if_neg h2, if_neg hnm, if_pos hsh]
        have hc0 : ¬ gtCode cs m = 0 := by rw [hc]; decide
        rw [gtStr, gtRest, if_neg hc0, if_neg hc0, hc]
        exact getText_cut cs p cs.length cap m (gtNum cs) rfl hNl hml hcb (by omega) hnum hn6 (by omega) hsh w hv
      · have hc : gtCode cs m = 0 := by rw [gtCode, if_neg h2, if_neg hnm, if_neg hsh]
        rw [gtStr, gtRest, if_pos hc, if_pos hc, hc, List.length_drop]
        exact getText_good cs p cs.length cap m (gtNum cs) rfl hNl hml hcb (by omega) hnum hn6 (by omega) (by omega) w hv
end Go.Proofs.Ytnahflppggoplaa
