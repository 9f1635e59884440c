/- The reference's GetText. -/
import Derived.Test.YtnahflppggoplaaNdRefA
namespace Go.Proofs.Ytnahflppggoplaa
open Go Go.RowKit
set_option maxHeartbeats 1000000 in
set_option maxRecDepth 100000 in
theorem gtR_short (p : Option Addr) (N cap m : Nat) (h : N < 2) (w : World) :
    Calls Try.prog 20 #[.slice p N cap, .int .i64 (m : Int)] w fun e w' => e = .returned (.tuple #[.string noStr, .slice p N cap, .int .i64 10]) ∧ w' = w := by
  go_enter Try.func20, Try.ntmps20
  go_wp2_with (first
    | (go_at_call 19; refine (getR2_short p N cap h _).mono ?_; rintro e w1 ⟨rfl, hw⟩; replace hw := hw.symm; subst hw))
  go_ret3
  exact ⟨rfl, rfl⟩
set_option maxHeartbeats 1000000 in
set_option maxRecDepth 100000 in
theorem gtR_much (cs : List Int) (p : Option Addr) (N cap m n : Nat) (hN : cs.length = N) (hNl : N ≤ 30000) (hml : m ≤ 1000) (hcb : Bytes cs) (h2 : 2 ≤ N) (hnum : numL (cs.take 2) = (n : Int)) (hn6 : n < 65536) (hnm : m < n) (w : World) (hv : SlOld w (.slice p N cap) cs) :
    Calls Try.prog 20 #[.slice p N cap, .int .i64 (m : Int)] w fun e w' => e = .returned (.tuple #[.string noStr, .slice p N cap, .int .i64 11]) ∧ Below w.heap.size w w' := by
  have HV : Hid (SlOld w (.slice p N cap) cs) := hv
  have HN : Hid (cs.length = N) := hN
  have HB : Hid (Bytes cs) := hcb
  have HNU : Hid (∀ _ : Unit, numL (cs.take 2) = (n : Int)) := fun _ => hnum
  have hm := Mem.start w
  have hm0 : ¬ ((m : Int) < 0) := by omega
  have HWM : IntKind.u64.wrap (m : Int) = (m : Int) := wrapU_of m (by omega)
  have HWL : IntKind.u64.wrap ((N - 2 : Nat) : Int) = ((N - 2 : Nat) : Int) := wrapU_of (N - 2) (by omega)
  have HWI : IntKind.i64.wrap (n : Int) = (n : Int) := wrap_nat n (by omega)
  obtain ⟨P2, hP2⟩ : ∃ x, x = cutLo p cap 2 := ⟨_, rfl⟩
  obtain ⟨M, hM⟩ : ∃ x, x = N - 2 := ⟨_, rfl⟩
  obtain ⟨c2, hc2⟩ : ∃ x, x = cap - 2 := ⟨_, rfl⟩
  have HEQ : Hid (∀ _ : Unit, (cutLo p cap 2 = P2 ∧ N - 2 = M) ∧ cap - 2 = c2) := fun _ => ⟨⟨hP2.symm, hM.symm⟩, hc2.symm⟩
  rw [← hM] at HWL
  have h3 : (n : Int) > (m : Int) := by omega
  clear hv hN hcb hnum hP2 hM hc2
  go_enter Try.func20, Try.ntmps20
  go_wp2_with (first
    | (go_at_call 19; refine (getR2_good cs p N cap HN.out h2 HB.out _ HV.out).mono ?_; rintro e w1 ⟨he, hb⟩; rw [HNU.out (), (HEQ.out ()).1.1, (HEQ.out ()).1.2, (HEQ.out ()).2] at he; subst he; replace hm := hm.call hb; clear hb))
  go_ret3
  exact ⟨rfl, hm.below⟩
set_option maxHeartbeats 1000000 in
set_option maxRecDepth 100000 in
theorem gtR_cut (cs : List Int) (p : Option Addr) (N cap m n : Nat) (hN : cs.length = N) (hNl : N ≤ 30000) (hml : m ≤ 1000) (hcb : Bytes cs) (h2 : 2 ≤ N) (hnum : numL (cs.take 2) = (n : Int)) (hn6 : n < 65536) (hnm : n ≤ m) (hsh : N < 2 + n) (w : World) (hv : SlOld w (.slice p N cap) cs) :
    Calls Try.prog 20 #[.slice p N cap, .int .i64 (m : Int)] w fun e w' => e = .returned (.tuple #[.string noStr, .slice p N cap, .int .i64 10]) ∧ Below w.heap.size w w' := by
  have HV : Hid (SlOld w (.slice p N cap) cs) := hv
  have HN : Hid (cs.length = N) := hN
  have HB : Hid (Bytes cs) := hcb
  have HNU : Hid (∀ _ : Unit, numL (cs.take 2) = (n : Int)) := fun _ => hnum
  have hm := Mem.start w
  have hm0 : ¬ ((m : Int) < 0) := by omega
  have HWM : IntKind.u64.wrap (m : Int) = (m : Int) := wrapU_of m (by omega)
  have HWL : IntKind.u64.wrap ((N - 2 : Nat) : Int) = ((N - 2 : Nat) : Int) := wrapU_of (N - 2) (by omega)
  have HWI : IntKind.i64.wrap (n : Int) = (n : Int) := wrap_nat n (by omega)
  obtain ⟨P2, hP2⟩ : ∃ x, x = cutLo p cap 2 := ⟨_, rfl⟩
  obtain ⟨M, hM⟩ : ∃ x, x = N - 2 := ⟨_, rfl⟩
  obtain ⟨c2, hc2⟩ : ∃ x, x = cap - 2 := ⟨_, rfl⟩
  have HEQ : Hid (∀ _ : Unit, (cutLo p cap 2 = P2 ∧ N - 2 = M) ∧ cap - 2 = c2) := fun _ => ⟨⟨hP2.symm, hM.symm⟩, hc2.symm⟩
  rw [← hM] at HWL
  have h3 : ¬ ((n : Int) > (m : Int)) := by omega
  have h4 : (M : Int) < (n : Int) := by omega
  clear hv hN hcb hnum hP2 hM hc2
  go_enter Try.func20, Try.ntmps20
  go_wp2_with (first
    | (go_at_call 19; refine (getR2_good cs p N cap HN.out h2 HB.out _ HV.out).mono ?_; rintro e w1 ⟨he, hb⟩; rw [HNU.out (), (HEQ.out ()).1.1, (HEQ.out ()).1.2, (HEQ.out ()).2] at he; subst he; replace hm := hm.call hb; clear hb))
  go_ret3
  exact ⟨rfl, hm.below⟩
set_option maxHeartbeats 1000000 in
set_option maxRecDepth 100000 in
theorem gtR_good (cs : List Int) (p : Option Addr) (N cap m n : Nat) (hN : cs.length = N) (hNl : N ≤ 30000) (hml : m ≤ 1000) (hcb : Bytes cs) (h2 : 2 ≤ N) (hnum : numL (cs.take 2) = (n : Int)) (hn6 : n < 65536) (hnm : n ≤ m) (hsh : 2 + n ≤ N) (w : World) (hv : SlOld w (.slice p N cap) cs) :
    Calls Try.prog 20 #[.slice p N cap, .int .i64 (m : Int)] w fun e w' => ∃ v', e = .returned (.tuple #[.string (strOf ((cs.drop 2).take n)), v', .int .i64 0]) ∧ v' = .slice (cutLo (cutLo p cap 2) (cap - 2) n) (N - 2 - n) (cap - 2 - n) ∧ Below w.heap.size w w' := by
  have HV : Hid (SlOld w (.slice p N cap) cs) := hv
  have HN : Hid (cs.length = N) := hN
  have HB : Hid (Bytes cs) := hcb
  have HNU : Hid (∀ _ : Unit, numL (cs.take 2) = (n : Int)) := fun _ => hnum
  have hm := Mem.start w
  have hm0 : ¬ ((m : Int) < 0) := by omega
  have HWM : IntKind.u64.wrap (m : Int) = (m : Int) := wrapU_of m (by omega)
  have HWL : IntKind.u64.wrap ((N - 2 : Nat) : Int) = ((N - 2 : Nat) : Int) := wrapU_of (N - 2) (by omega)
  have HWI : IntKind.i64.wrap (n : Int) = (n : Int) := wrap_nat n (by omega)
  obtain ⟨P2, hP2⟩ : ∃ x, x = cutLo p cap 2 := ⟨_, rfl⟩
  obtain ⟨M, hM⟩ : ∃ x, x = N - 2 := ⟨_, rfl⟩
  obtain ⟨c2, hc2⟩ : ∃ x, x = cap - 2 := ⟨_, rfl⟩
  have HEQ : Hid (∀ _ : Unit, (cutLo p cap 2 = P2 ∧ N - 2 = M) ∧ cap - 2 = c2) := fun _ => ⟨⟨hP2.symm, hM.symm⟩, hc2.symm⟩
  rw [← hM] at HWL
  have h3 : ¬ ((n : Int) > (m : Int)) := by omega
  have h4 : ¬ ((M : Int) < (n : Int)) := by omega
  have hnM : n ≤ M := by omega
  have HV2 : Hid (SlOld w (.slice P2 M c2) (cs.drop 2)) := by
    have h9 := old_lo hv 2 h2
    rw [← hP2, ← hM, ← hc2] at h9
    exact h9
  have HV3 : Hid (SlOld w (.slice (cutHi P2 c2) n c2) ((cs.drop 2).take n)) := old_hi HV2.out n hnM
  have hnc : n ≤ c2 := by have h9 := (HV2.out.src0).2.1; omega
  rw [← hP2, ← hM, ← hc2]
  clear hv hN hcb hnum hP2 hM hc2
  go_enter Try.func20, Try.ntmps20
  go_wp2_with (first
    | (go_at_call 19; refine (getR2_good cs p N cap HN.out h2 HB.out _ HV.out).mono ?_; rintro e w1 ⟨he, hb⟩; rw [HNU.out (), (HEQ.out ()).1.1, (HEQ.out ()).1.2, (HEQ.out ()).2] at he; subst he; replace hm := hm.call hb; clear hb))
  have HBW : Hid (Below w.heap.size w w1) := hm.below
  clear hm
  have hm := Mem.start w1
  refine wp_ends0 ?_
  refine anyH_start (T := fun W => Mem w1 [] W []) (by kernel_rfl) hm ?_
  clear hm
  intro wz hm
  refine anyH_take 0 (v := .slice P2 M c2) rfl (by kernel_rfl) (by kernel_rfl) (by kernel_rfl) rfl (fun W _ => by go_simp) hm ?_
  go_simp
  refine anyH_take 1 (v := .int .u64 (n : Int)) rfl (by kernel_rfl) (by kernel_rfl) (by kernel_rfl) rfl (fun W _ => by go_simp) hm ?_
  go_simp
  refine anyH_take 2 (v := .slice (cutHi P2 c2) n c2) rfl (by kernel_rfl) (by kernel_rfl) (by kernel_rfl) rfl (fun W _ => exec_sHiU un_bs sz_u8 n hnc rfl rfl rfl) hm ?_
  go_simp
  refine anyH_take 3 (v := .string (strOf ((cs.drop 2).take n))) rfl (by kernel_rfl) (by kernel_rfl) (by kernel_rfl) rfl (fun W hW => exec_tostr un_bs un_u8 un_strT ((cs.drop 2).take n) rfl (SlOld.below HV3.out (below_next HBW.out HBW.out.size (Mem.below hW)))) hm ?_
  go_simp
  refine anyH_take 4 (v := .slice P2 M c2) rfl (by kernel_rfl) (by kernel_rfl) (by kernel_rfl) rfl (fun W _ => by go_simp) hm ?_
  go_simp
  refine anyH_take 5 (v := .int .u64 (n : Int)) rfl (by kernel_rfl) (by kernel_rfl) (by kernel_rfl) rfl (fun W _ => by go_simp) hm ?_
  go_simp
  refine anyH_take 6 (v := .slice (cutLo P2 c2 n) (M - n) (c2 - n)) rfl (by kernel_rfl) (by kernel_rfl) (by kernel_rfl) rfl (fun W _ => exec_sLoU un_bs sz_u8 n hnM rfl rfl rfl) hm ?_
  go_simp
  refine anyH_take 7 (v := .string (strOf ((cs.drop 2).take n))) rfl (by kernel_rfl) (by kernel_rfl) (by kernel_rfl) rfl (fun W _ => by go_simp) hm ?_
  go_simp
  refine anyH_take 8 (v := .slice (cutLo P2 c2 n) (M - n) (c2 - n)) rfl (by kernel_rfl) (by kernel_rfl) (by kernel_rfl) rfl (fun W _ => by go_simp) hm ?_
  go_simp
  refine anyH_take 9 (v := .int .i64 0) rfl (by kernel_rfl) (by kernel_rfl) (by kernel_rfl) rfl (fun W _ => by go_simp) hm ?_
  go_simp
  refine wpAnyH_done (by kernel_rfl) ?_ _
  simp only [endsIn]
  go_wp2_with fail
  go_ret3
  exact ⟨_, rfl, rfl, below_next HBW.out HBW.out.size hm.below⟩
set_option maxRecDepth 100000 in
theorem gtR_any (B : Nat) (cs : List Int) (v : Value) (m : Nat) (mi : Int) (hmi : mi = (m : Int)) (hNl : cs.length ≤ 30000) (hml : m ≤ 1000) (hcb : Bytes cs) (w : World) (hv : SlR B w v cs) :
    Calls Try.prog 20 #[v, .int .i64 mi] w fun e w' => ∃ v', e = .returned (.tuple #[.string (gtStr cs m), v', .int .i64 (gtCode cs m)]) ∧ SlR B w' v' (gtRest cs m) ∧ Below w.heap.size w w' := by
  subst hmi
  obtain ⟨p, cap, rfl, hcap⟩ := SlR.len hv
  have hb2 : Bytes (cs.take 2) := hcb.take 2
  have hnum : numL (cs.take 2) = (gtNum cs : Int) := by
    have := numL_nonneg hb2
    unfold gtNum; omega
  by_cases h2 : cs.length < 2
  · have hc : gtCode cs m = 10 := by rw [gtCode, if_pos h2]
    have hc0 : ¬ gtCode cs m = 0 := by rw [hc]; decide
    rw [gtStr, gtRest, if_neg hc0, if_neg hc0, hc]
    exact (gtR_short p cs.length cap m h2 w).mono fun e w' ⟨he, hw⟩ => ⟨_, he, by rw [hw]; exact hv, by rw [hw]; exact Below.refl _ _⟩
  · have hn6 : gtNum cs < 65536 := by
      have := numL_lt hb2
      rw [List.length_take, Nat.min_eq_left (by omega)] at this
      omega
    by_cases hnm : m < gtNum cs
    · have hc : gtCode cs m = 11 := by rw [gtCode, if_neg h2, if_pos hnm]
      have hc0 : ¬ gtCode cs m = 0 := by rw [hc]; decide
      rw [gtStr, gtRest, if_neg hc0, if_neg hc0, hc]
      exact (gtR_much cs p cs.length cap m (gtNum cs) rfl hNl hml hcb (by omega) hnum hn6 hnm w hv.old).mono fun e w' ⟨he, hb⟩ => ⟨_, he, hv.below hb, hb⟩
    · by_cases hsh : cs.length < 2 + gtNum cs
      · have hc : gtCode cs m = 10 := by rw [gtCode, if_neg h2, if_neg hnm, if_pos hsh]
        have hc0 : ¬ gtCode cs m = 0 := by rw [hc]; decide
        rw [gtStr, gtRest, if_neg hc0, if_neg hc0, hc]
        exact (gtR_cut cs p cs.length cap m (gtNum cs) rfl hNl hml hcb (by omega) hnum hn6 (by omega) hsh w hv.old).mono fun e w' ⟨he, hb⟩ => ⟨_, he, hv.below hb, hb⟩
      · have hc : gtCode cs m = 0 := by rw [gtCode, if_neg h2, if_neg hnm, if_neg hsh]
        rw [gtStr, gtRest, if_pos hc, if_pos hc, hc]
        refine (gtR_good cs p cs.length cap m (gtNum cs) rfl hNl hml hcb (by omega) hnum hn6 (by omega) (by omega) w hv.old).mono fun e w' ⟨v', he, hv', hb⟩ => ⟨v', he, ?_, hb⟩
        have h9 := ((hv.below hb).lo 2 (by omega)).lo (gtNum cs) (by omega)
        rw [List.drop_drop] at h9
        rw [hv']
        exact h9
end Go.Proofs.Ytnahflppggoplaa
