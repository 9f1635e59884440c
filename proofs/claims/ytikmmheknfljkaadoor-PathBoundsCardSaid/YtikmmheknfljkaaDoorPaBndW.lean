/- The walk of the law PathBounds. -/
import Derived.Test.YtikmmheknfljkaaDoorPaKnown
namespace Go.Proofs.YtikmmheknfljkaaDoor
open Go Go.RowKit
def xsN (j : Nat) : List UInt8 := List.replicate j 120
def pkS (X : List UInt8) : Nat → List UInt8
  | 0 => []
  | i + 1 => (if i = 0 then [] else pkS X i ++ [47]) ++ X
def fineJ (j : Nat) : Bool := decide (1 ≤ j) && decide (j ≤ 10)
set_option maxRecDepth 100000 in
theorem bnd_all : ∀ (k : Fin 6) (j : Fin 14), seg (xsN j) = fineJ j ∧ isP (pkS (xsN j) k) = ((fineJ j && decide (k.val ≤ 3)) || (pkS (xsN j) k).isEmpty) ∧ (segsOf (pkS (xsN j) k)).length = (if fineJ j && decide (k.val ≤ 3) then k.val else 0) ∧ (pkS (xsN j) k).length ≤ 100 := by decide +kernel
set_option maxRecDepth 100000 in
theorem bnd (k j : Nat) (hk : k < 6) (hj : j < 14) : seg (xsN j) = fineJ j ∧ isP (pkS (xsN j) k) = ((fineJ j && decide (k ≤ 3)) || (pkS (xsN j) k).isEmpty) ∧ (segsOf (pkS (xsN j) k)).length = (if fineJ j && decide (k ≤ 3) then k else 0) ∧ (pkS (xsN j) k).length ≤ 100 :=
  bnd_all ⟨k, hk⟩ ⟨j, hj⟩
set_option maxRecDepth 100000 in
theorem emp_is {p : ByteArray} {b : Bool} (h : (p == ⟨#[]⟩) = b) : p.toList.isEmpty = b := by
  rw [beq_toListBytes, ByteArray.toList_eq, ByteArray.toList_eq] at h
  rw [ByteArray.toList_eq, ← h]
  show p.data.toList.isEmpty = (p.data.toList == [])
  cases p.data.toList <;> rfl
set_option maxRecDepth 100000 in
theorem xsN_next (j : Nat) : mkS (xsN j) ++ mkS [120] = mkS (xsN (j + 1)) := by
  rw [mkS_append, xsN, xsN, List.replicate_succ']
set_option maxRecDepth 100000 in
theorem pkS_one (X : List UInt8) : noStr ++ mkS X = mkS (pkS X 1) := by
  rw [← mkS_nil, mkS_append]; rfl
set_option maxRecDepth 100000 in
theorem pkS_next (X : List UInt8) (i : Nat) : (mkS (pkS X (i + 1)) ++ mkS [47]) ++ mkS X = mkS (pkS X (i + 2)) := by
  rw [mkS_append, mkS_append]; rfl
set_option maxHeartbeats 4000000 in
set_option maxRecDepth 100000 in
theorem pbounds_walk (n l : Int) (hn : 0 ≤ n ∧ n ≤ 255) (hl : 0 ≤ l ∧ l ≤ 255) (w : World) (hM : MaxL w) :
    Calls Tryd.prog 6 #[.int .u8 n, .int .u8 l] w fun e w' => e = .returned (.bool true) ∧ Below w.heap.size w w' := by
  obtain ⟨k, hk⟩ : ∃ k : Nat, n % 6 = (k : Int) := ⟨(n % 6).toNat, by omega⟩
  obtain ⟨j, hj⟩ : ∃ j : Nat, l % 14 = (j : Int) := ⟨(l % 14).toNat, by omega⟩
  have hk6 : k < 6 := by omega
  have hj14 : j < 14 := by omega
  have hm := Mem.start w
  have HM : Hid (MaxL w) := hM
  clear hM
  go_enter Tryd.func6, Tryd.ntmps6
  go_wp2_with (first
    | (go_at_call 8; refine (known_any _ (HM.out.below hm.below)).mono ?_; rintro e w3 ⟨he, hb⟩; subst he; replace hm := hm.call hb; clear hb))
  clear hk hj hn hl
  go_loopw [8, 7] (fun vi vs wr => ∃ i : Nat, i ≤ j ∧ vi = .int .i64 (i : Int) ∧ vs = .string (mkS (xsN i)) ∧ Hid (Mem w [] wr [])) (fun vi _ _ => j - (intOf vi).toNat)
  case atStart => exact ⟨0, by omega, rfl, rfl, hm⟩
  case round =>
    clear hm
    obtain ⟨i, hi, rfl, rfl, HMM⟩ := hrel
    by_cases hlt : i < j
    · have hii : (i : Int) < (j : Int) := by omega
      obtain ⟨c1, hc1⟩ : ∃ c, c = mkS (xsN i) := ⟨_, rfl⟩
      obtain ⟨c2, hc2⟩ : ∃ c, c = mkS (xsN (i + 1)) := ⟨_, rfl⟩
      have HC : Hid (∀ _ : Unit, c2 = c1 ++ mkS [120]) := fun _ => by rw [hc1, hc2, xsN_next]
      have HZ : Hid (∀ _ : Unit, c1.size + (mkS [120]).size ≤ 1000000000) := fun _ => by rw [hc1, mkS_size, mkS_size, xsN, List.length_replicate]; simp; omega
      have HC2 : Hid (∀ _ : Unit, c2 = mkS (xsN (i + 1))) := fun _ => hc2
      rw [← hc1]
      clear hc1 hc2
      go_wp2_with (first
        | ((with_reducible refine at_op (some 26) (.binOp .add 9 (.tmp 25) (.const (.string { data := #[120] })) 9) ?_); go_must (refine wpl_execG (.string c2) rfl (exec_addB c1 (mkS [120]) c2 (HC.out ()) rfl rfl (HZ.out ())) ?_)))
      go_roundw
      case rel => exact ⟨i + 1, by omega, by go_num, by rw [HC2.out ()], HMM.out⟩
      case measure => simp [intOf]; omega
    · have hij : j = i := by omega
      subst hij
      clear hi hlt
      have hii : ¬ (j : Int) < (j : Int) := by omega
      obtain ⟨X, hX⟩ : ∃ X, X = xsN j := ⟨_, rfl⟩
      have HX : Hid (∀ _ : Unit, X = xsN j) := fun _ => hX
      rw [← hX]
      clear hX
      go_wp2_with fail
      rename_i _ _ _
      go_loopw [10, 9] (fun vi vs wr => ∃ i : Nat, i ≤ k ∧ vi = .int .i64 (i : Int) ∧ vs = .string (mkS (pkS X i)) ∧ Hid (Mem w [] wr [])) (fun vi _ _ => k - (intOf vi).toNat)
      case atStart => exact ⟨0, by omega, rfl, rfl, HMM.out⟩
      case round =>
        clear HMM
        obtain ⟨i, hi, rfl, rfl, HMM⟩ := hrel
        by_cases hlt : i < k
        · have hii : (i : Int) < (k : Int) := by omega
          obtain ⟨sX, hsX⟩ : ∃ c, c = mkS X := ⟨_, rfl⟩
          obtain ⟨c3, hc3⟩ : ∃ c, c = mkS (pkS X (i + 1)) := ⟨_, rfl⟩
          have HC3 : Hid (∀ _ : Unit, c3 = mkS (pkS X (i + 1))) := fun _ => hc3
          have hzX : sX.size ≤ 100 := by rw [hsX, mkS_size, HX.out (), xsN, List.length_replicate]; omega
          cases i with
          | zero =>
            have HC : Hid (∀ _ : Unit, c3 = noStr ++ sX) := fun _ => by rw [hc3, hsX, pkS_one]
            have HZ : Hid (∀ _ : Unit, noStr.size + sX.size ≤ 1000000000) := fun _ => by rw [show noStr.size = 0 from rfl]; omega
            rw [← hsX, show mkS (pkS X 0) = noStr from rfl]
            clear hsX hc3 hzX
            go_wp2_with (first
              | ((with_reducible refine at_op (some 38) (.binOp .add 9 (.tmp 36) (.tmp 37) 9) ?_); go_must (refine wpl_execG (.string c3) rfl (exec_addB noStr sX c3 (HC.out ()) rfl rfl (HZ.out ())) ?_)))
            go_roundw
            case rel => exact ⟨1, by omega, by go_num, by rw [HC3.out ()], HMM.out⟩
            case measure => simp [intOf]; omega
          | succ i =>
            have hgt : (0 : Int) < ((i + 1 : Nat) : Int) := by omega
            obtain ⟨c1, hc1⟩ : ∃ c, c = mkS (pkS X (i + 1)) := ⟨_, rfl⟩
            obtain ⟨c2, hc2⟩ : ∃ c, c = c1 ++ mkS [47] := ⟨_, rfl⟩
            have hz1 : c1.size ≤ 100 := by rw [hc1, mkS_size, HX.out ()]; exact (bnd (i + 1) j (by omega) hj14).2.2.2
            have HC2 : Hid (∀ _ : Unit, c2 = c1 ++ mkS [47]) := fun _ => hc2
            have HC : Hid (∀ _ : Unit, c3 = c2 ++ sX) := fun _ => by rw [hc3, hc2, hc1, hsX, pkS_next]
            have HZ1 : Hid (∀ _ : Unit, c1.size + (mkS [47]).size ≤ 1000000000) := fun _ => by rw [mkS_size]; simp; omega
            have HZ2 : Hid (∀ _ : Unit, c2.size + sX.size ≤ 1000000000) := fun _ => by rw [hc2, ByteArray.size_append, mkS_size]; simp; omega
            rw [← hsX, ← hc1]
            clear hsX hc3 hc1 hc2 hzX hz1
            go_wp2_with (first
              | ((with_reducible refine at_op (some 35) (.binOp .add 9 (.tmp 34) (.const (.string { data := #[47] })) 9) ?_); go_must (refine wpl_execG (.string c2) rfl (exec_addB c1 (mkS [47]) c2 (HC2.out ()) rfl rfl (HZ1.out ())) ?_))
              | ((with_reducible refine at_op (some 38) (.binOp .add 9 (.tmp 36) (.tmp 37) 9) ?_); go_must (refine wpl_execG (.string c3) rfl (exec_addB c2 sX c3 (HC.out ()) rfl rfl (HZ2.out ())) ?_)))
            go_roundw
            case rel => exact ⟨i + 1 + 1, by omega, by go_num, by rw [HC3.out ()], HMM.out⟩
            case measure => simp [intOf]; omega
        · have hik : k = i := by omega
          subst hik
          clear hi hlt
          have hii : ¬ (k : Int) < (k : Int) := by omega
          have hm := HMM.out
          have HB := bnd k j hk6 hj14
          rw [← HX.out ()] at HB
          obtain ⟨p, hp⟩ : ∃ p, p = mkS (pkS X k) := ⟨_, rfl⟩
          obtain ⟨sX, hsX⟩ : ∃ c, c = mkS X := ⟨_, rfl⟩
          have hbp : bs p = pkS X k := by rw [hp, bs_mkS]
          have hbX : bs sX = X := by rw [hsX, bs_mkS]
          rw [← hbp] at HB
          have hpz : p.size ≤ 1000 := by have := HB.2.2.2; rw [bs_length] at this; omega
          have hsz : sX.size ≤ 1000 := by rw [hsX, mkS_size, HX.out (), xsN, List.length_replicate]; omega
          have hd : (segsB p).length = if fineJ j && decide (k ≤ 3) then k else 0 := by rw [segsB, List.length_map]; exact HB.2.2.1
          rw [← hp, ← hsX]
          have HQ : Hid (∀ _ : Unit, seg (bs sX) = fineJ j ∧ isP (bs p) = ((fineJ j && decide (k ≤ 3)) || (bs p).isEmpty) ∧ (segsB p).length = (if fineJ j && decide (k ≤ 3) then k else 0) ∧ (k = 0 → p = noStr)) := fun _ => ⟨by rw [hbX]; exact HB.1, HB.2.1, hd, fun h0 => by rw [hp, h0]; rfl⟩
          clear hp hsX hbp hbX HB hd HMM
          have nem : ¬ p = ⟨#[]⟩ → (bs p).isEmpty = false := fun hpe => by
            cases h : bs p with
            | nil => exact absurd (bs_inj (by rw [h]; rfl)) hpe
            | cons _ _ => rfl
          have HNEM : Hid (¬ p = ⟨#[]⟩ → (bs p).isEmpty = false) := nem
          clear nem
          by_cases hj1 : 1 ≤ j
          · have hj1i : (1 : Int) ≤ (j : Int) := by omega
            by_cases hj10 : j ≤ 10
            · have hj10i : (j : Int) ≤ 10 := by omega
              by_cases hk0 : k = 0
              · have hpe := (HQ.out ()).2.2.2 hk0
                subst hk0
                have HSG : Hid (∀ W, Calls Tryd.prog 13 #[.string sX] W fun e w' => e = .returned (.bool true) ∧ w' = W) := fun W => by
                  have h := segment_any sX W
                  rw [(HQ.out ()).1, show fineJ j = true by simp [fineJ]; omega] at h
                  exact h
                have HIS : Hid (∀ W, MaxL W → Calls Tryd.prog 15 #[.string p] W fun e w' => e = .returned (.bool true) ∧ Below W.heap.size W w') := fun W hW => by
                  have h := is_any p W hpz hW
                  rw [show isP (bs p) = true by rw [(HQ.out ()).2.1]; rw [show fineJ j = true by simp [fineJ]; omega]; rw [show (bs p).isEmpty = true by rw [hpe]; rfl]; rfl] at h
                  exact h
                have HDP : Hid (∀ W, MaxL W → Calls Tryd.prog 24 #[.string p] W fun e w' => e = .returned (.int .i64 0) ∧ Below W.heap.size W w') := fun W hW => by
                  have h := depthP_any p W hpz hW
                  rw [show ((segsB p).length : Int) = 0 by rw [(HQ.out ()).2.2.1]; rw [show fineJ j = true by simp [fineJ]; omega]; rfl] at h
                  exact h
                have HPE : Hid (∀ _ : Unit, (p == ⟨#[]⟩) = true) := fun _ => by rw [hpe]; exact eqs_yes _
                have hpeb : p.toList.isEmpty = true := emp_is (HPE.out ())
                clear HQ
                clear hpe
                go_wp2_with (first
                  | (go_at_call 13; refine (HSG.out _).mono ?_; rintro e w' ⟨he, hw⟩; subst he; subst hw)
                  | (go_at_call 15; refine (HIS.out _ (HM.out.below hm.below)).mono ?_; rintro e w' ⟨he, hb⟩; subst he; replace hm := hm.call hb; clear hb)
                  | (go_at_call 24; refine (HDP.out _ (HM.out.below hm.below)).mono ?_; rintro e w' ⟨he, hb⟩; subst he; replace hm := hm.call hb; clear hb)
                  | ((with_reducible refine at_op (some 62) (.binOp .eql 9 (.tmp 61) (.const (.string { data := #[] })) 9) ?_); go_must (refine wpl_execG (.bool true) rfl (exec_eqsB p ⟨#[]⟩ true rfl rfl (HPE.out ())) ?_)))
                go_ret
                exact ⟨rfl, hm.below⟩
              · have hk0i : ((k : Int) == 0) = false := by rw [beq_eq_false_iff_ne]; omega
                have hd0 : ((0 : Int) == (k : Int)) = false := by rw [beq_eq_false_iff_ne]; omega
                by_cases hk3 : k ≤ 3
                · have hk3i : decide ((k : Int) ≤ 3) = true := decide_eq_true (by omega)
                  obtain ⟨pe, hpe⟩ : ∃ pe, (p == ⟨#[]⟩) = pe := ⟨_, rfl⟩
                  have HSG : Hid (∀ W, Calls Tryd.prog 13 #[.string sX] W fun e w' => e = .returned (.bool true) ∧ w' = W) := fun W => by
                    have h := segment_any sX W
                    rw [(HQ.out ()).1, show fineJ j = true by simp [fineJ]; omega] at h
                    exact h
                  have HIS : Hid (∀ W, MaxL W → Calls Tryd.prog 15 #[.string p] W fun e w' => e = .returned (.bool true) ∧ Below W.heap.size W w') := fun W hW => by
                    have h := is_any p W hpz hW
                    rw [show isP (bs p) = true by rw [(HQ.out ()).2.1]; rw [show fineJ j = true by simp [fineJ]; omega, decide_eq_true hk3]; rfl] at h
                    exact h
                  have HDP : Hid (∀ W, MaxL W → Calls Tryd.prog 24 #[.string p] W fun e w' => e = .returned (.int .i64 (k : Int)) ∧ Below W.heap.size W w') := fun W hW => by
                    have h := depthP_any p W hpz hW
                    rw [show ((segsB p).length : Int) = (k : Int) by rw [(HQ.out ()).2.2.1]; rw [show fineJ j = true by simp [fineJ]; omega, decide_eq_true hk3]; rfl] at h
                    exact h
                  have HPE : Hid (∀ _ : Unit, (p == ⟨#[]⟩) = pe) := fun _ => hpe
                  clear HQ
                  clear hpe
                  go_wp2_with (first
                    | (go_at_call 13; refine (HSG.out _).mono ?_; rintro e w' ⟨he, hw⟩; subst he; subst hw)
                    | (go_at_call 15; refine (HIS.out _ (HM.out.below hm.below)).mono ?_; rintro e w' ⟨he, hb⟩; subst he; replace hm := hm.call hb; clear hb)
                    | (go_at_call 24; refine (HDP.out _ (HM.out.below hm.below)).mono ?_; rintro e w' ⟨he, hb⟩; subst he; replace hm := hm.call hb; clear hb)
                    | ((with_reducible refine at_op (some 62) (.binOp .eql 9 (.tmp 61) (.const (.string { data := #[] })) 9) ?_); go_must (refine wpl_execG (.bool pe) rfl (exec_eqsB p ⟨#[]⟩ pe rfl rfl (HPE.out ())) ?_)))
                  go_ret
                  exact ⟨rfl, hm.below⟩
                · have hk3i : decide ((k : Int) ≤ 3) = false := decide_eq_false (by omega)
                  by_cases hpe : p = ⟨#[]⟩
                  · have HSG : Hid (∀ W, Calls Tryd.prog 13 #[.string sX] W fun e w' => e = .returned (.bool true) ∧ w' = W) := fun W => by
                      have h := segment_any sX W
                      rw [(HQ.out ()).1, show fineJ j = true by simp [fineJ]; omega] at h
                      exact h
                    have HIS : Hid (∀ W, MaxL W → Calls Tryd.prog 15 #[.string p] W fun e w' => e = .returned (.bool true) ∧ Below W.heap.size W w') := fun W hW => by
                      have h := is_any p W hpz hW
                      rw [show isP (bs p) = true by rw [(HQ.out ()).2.1]; rw [show fineJ j = true by simp [fineJ]; omega, show (bs p).isEmpty = true by rw [hpe]; rfl]; simp] at h
                      exact h
                    have HDP : Hid (∀ W, MaxL W → Calls Tryd.prog 24 #[.string p] W fun e w' => e = .returned (.int .i64 0) ∧ Below W.heap.size W w') := fun W hW => by
                      have h := depthP_any p W hpz hW
                      rw [show ((segsB p).length : Int) = 0 by rw [(HQ.out ()).2.2.1]; rw [show fineJ j = true by simp [fineJ]; omega, decide_eq_false hk3]; rfl] at h
                      exact h
                    have HPE : Hid (∀ _ : Unit, (p == ⟨#[]⟩) = true) := fun _ => by rw [hpe]; exact eqs_yes _
                    have hpeb : p.toList.isEmpty = true := emp_is (HPE.out ())
                    clear HQ
                    clear hpe
                    go_wp2_with (first
                      | (go_at_call 13; refine (HSG.out _).mono ?_; rintro e w' ⟨he, hw⟩; subst he; subst hw)
                      | (go_at_call 15; refine (HIS.out _ (HM.out.below hm.below)).mono ?_; rintro e w' ⟨he, hb⟩; subst he; replace hm := hm.call hb; clear hb)
                      | (go_at_call 24; refine (HDP.out _ (HM.out.below hm.below)).mono ?_; rintro e w' ⟨he, hb⟩; subst he; replace hm := hm.call hb; clear hb)
                      | ((with_reducible refine at_op (some 62) (.binOp .eql 9 (.tmp 61) (.const (.string { data := #[] })) 9) ?_); go_must (refine wpl_execG (.bool true) rfl (exec_eqsB p ⟨#[]⟩ true rfl rfl (HPE.out ())) ?_)))
                    go_ret
                    exact ⟨rfl, hm.below⟩
                  · have HSG : Hid (∀ W, Calls Tryd.prog 13 #[.string sX] W fun e w' => e = .returned (.bool true) ∧ w' = W) := fun W => by
                      have h := segment_any sX W
                      rw [(HQ.out ()).1, show fineJ j = true by simp [fineJ]; omega] at h
                      exact h
                    have HIS : Hid (∀ W, MaxL W → Calls Tryd.prog 15 #[.string p] W fun e w' => e = .returned (.bool false) ∧ Below W.heap.size W w') := fun W hW => by
                      have h := is_any p W hpz hW
                      rw [show isP (bs p) = false by rw [(HQ.out ()).2.1]; rw [show fineJ j = true by simp [fineJ]; omega, decide_eq_false hk3, HNEM.out hpe]; rfl] at h
                      exact h
                    have HDP : Hid (∀ W, MaxL W → Calls Tryd.prog 24 #[.string p] W fun e w' => e = .returned (.int .i64 0) ∧ Below W.heap.size W w') := fun W hW => by
                      have h := depthP_any p W hpz hW
                      rw [show ((segsB p).length : Int) = 0 by rw [(HQ.out ()).2.2.1]; rw [show fineJ j = true by simp [fineJ]; omega, decide_eq_false hk3]; rfl] at h
                      exact h
                    have HPE : Hid (∀ _ : Unit, (p == ⟨#[]⟩) = false) := fun _ => eqs_no hpe
                    have hpeb : p.toList.isEmpty = false := emp_is (HPE.out ())
                    clear HQ
                    clear hpe
                    go_wp2_with (first
                      | (go_at_call 13; refine (HSG.out _).mono ?_; rintro e w' ⟨he, hw⟩; subst he; subst hw)
                      | (go_at_call 15; refine (HIS.out _ (HM.out.below hm.below)).mono ?_; rintro e w' ⟨he, hb⟩; subst he; replace hm := hm.call hb; clear hb)
                      | (go_at_call 24; refine (HDP.out _ (HM.out.below hm.below)).mono ?_; rintro e w' ⟨he, hb⟩; subst he; replace hm := hm.call hb; clear hb)
                      | ((with_reducible refine at_op (some 62) (.binOp .eql 9 (.tmp 61) (.const (.string { data := #[] })) 9) ?_); go_must (refine wpl_execG (.bool false) rfl (exec_eqsB p ⟨#[]⟩ false rfl rfl (HPE.out ())) ?_)))
                    go_ret
                    exact ⟨rfl, hm.below⟩
            · have hj10i : ¬ (j : Int) ≤ 10 := by omega
              by_cases hk0 : k = 0
              · have hpe := (HQ.out ()).2.2.2 hk0
                subst hk0
                have HSG : Hid (∀ W, Calls Tryd.prog 13 #[.string sX] W fun e w' => e = .returned (.bool false) ∧ w' = W) := fun W => by
                  have h := segment_any sX W
                  rw [(HQ.out ()).1, show fineJ j = false by simp [fineJ]; omega] at h
                  exact h
                have HIS : Hid (∀ W, MaxL W → Calls Tryd.prog 15 #[.string p] W fun e w' => e = .returned (.bool true) ∧ Below W.heap.size W w') := fun W hW => by
                  have h := is_any p W hpz hW
                  rw [show isP (bs p) = true by rw [(HQ.out ()).2.1]; rw [show fineJ j = false by simp [fineJ]; omega]; rw [show (bs p).isEmpty = true by rw [hpe]; rfl]; rfl] at h
                  exact h
                have HDP : Hid (∀ W, MaxL W → Calls Tryd.prog 24 #[.string p] W fun e w' => e = .returned (.int .i64 0) ∧ Below W.heap.size W w') := fun W hW => by
                  have h := depthP_any p W hpz hW
                  rw [show ((segsB p).length : Int) = 0 by rw [(HQ.out ()).2.2.1]; rw [show fineJ j = false by simp [fineJ]; omega]; rfl] at h
                  exact h
                have HPE : Hid (∀ _ : Unit, (p == ⟨#[]⟩) = true) := fun _ => by rw [hpe]; exact eqs_yes _
                have hpeb : p.toList.isEmpty = true := emp_is (HPE.out ())
                clear HQ
                clear hpe
                go_wp2_with (first
                  | (go_at_call 13; refine (HSG.out _).mono ?_; rintro e w' ⟨he, hw⟩; subst he; subst hw)
                  | (go_at_call 15; refine (HIS.out _ (HM.out.below hm.below)).mono ?_; rintro e w' ⟨he, hb⟩; subst he; replace hm := hm.call hb; clear hb)
                  | (go_at_call 24; refine (HDP.out _ (HM.out.below hm.below)).mono ?_; rintro e w' ⟨he, hb⟩; subst he; replace hm := hm.call hb; clear hb)
                  | ((with_reducible refine at_op (some 62) (.binOp .eql 9 (.tmp 61) (.const (.string { data := #[] })) 9) ?_); go_must (refine wpl_execG (.bool true) rfl (exec_eqsB p ⟨#[]⟩ true rfl rfl (HPE.out ())) ?_)))
                go_ret
                exact ⟨rfl, hm.below⟩
              · have hk0i : ((k : Int) == 0) = false := by rw [beq_eq_false_iff_ne]; omega
                have hd0 : ((0 : Int) == (k : Int)) = false := by rw [beq_eq_false_iff_ne]; omega
                by_cases hpe : p = ⟨#[]⟩
                · have HSG : Hid (∀ W, Calls Tryd.prog 13 #[.string sX] W fun e w' => e = .returned (.bool false) ∧ w' = W) := fun W => by
                    have h := segment_any sX W
                    rw [(HQ.out ()).1, show fineJ j = false by simp [fineJ]; omega] at h
                    exact h
                  have HIS : Hid (∀ W, MaxL W → Calls Tryd.prog 15 #[.string p] W fun e w' => e = .returned (.bool true) ∧ Below W.heap.size W w') := fun W hW => by
                    have h := is_any p W hpz hW
                    rw [show isP (bs p) = true by rw [(HQ.out ()).2.1]; rw [show fineJ j = false by simp [fineJ]; omega, show (bs p).isEmpty = true by rw [hpe]; rfl]; simp] at h
                    exact h
                  have HDP : Hid (∀ W, MaxL W → Calls Tryd.prog 24 #[.string p] W fun e w' => e = .returned (.int .i64 0) ∧ Below W.heap.size W w') := fun W hW => by
                    have h := depthP_any p W hpz hW
                    rw [show ((segsB p).length : Int) = 0 by rw [(HQ.out ()).2.2.1]; rw [show fineJ j = false by simp [fineJ]; omega]; rfl] at h
                    exact h
                  have HPE : Hid (∀ _ : Unit, (p == ⟨#[]⟩) = true) := fun _ => by rw [hpe]; exact eqs_yes _
                  have hpeb : p.toList.isEmpty = true := emp_is (HPE.out ())
                  clear HQ
                  clear hpe
                  go_wp2_with (first
                    | (go_at_call 13; refine (HSG.out _).mono ?_; rintro e w' ⟨he, hw⟩; subst he; subst hw)
                    | (go_at_call 15; refine (HIS.out _ (HM.out.below hm.below)).mono ?_; rintro e w' ⟨he, hb⟩; subst he; replace hm := hm.call hb; clear hb)
                    | (go_at_call 24; refine (HDP.out _ (HM.out.below hm.below)).mono ?_; rintro e w' ⟨he, hb⟩; subst he; replace hm := hm.call hb; clear hb)
                    | ((with_reducible refine at_op (some 62) (.binOp .eql 9 (.tmp 61) (.const (.string { data := #[] })) 9) ?_); go_must (refine wpl_execG (.bool true) rfl (exec_eqsB p ⟨#[]⟩ true rfl rfl (HPE.out ())) ?_)))
                  go_ret
                  exact ⟨rfl, hm.below⟩
                · have HSG : Hid (∀ W, Calls Tryd.prog 13 #[.string sX] W fun e w' => e = .returned (.bool false) ∧ w' = W) := fun W => by
                    have h := segment_any sX W
                    rw [(HQ.out ()).1, show fineJ j = false by simp [fineJ]; omega] at h
                    exact h
                  have HIS : Hid (∀ W, MaxL W → Calls Tryd.prog 15 #[.string p] W fun e w' => e = .returned (.bool false) ∧ Below W.heap.size W w') := fun W hW => by
                    have h := is_any p W hpz hW
                    rw [show isP (bs p) = false by rw [(HQ.out ()).2.1]; rw [show fineJ j = false by simp [fineJ]; omega, HNEM.out hpe]; rfl] at h
                    exact h
                  have HDP : Hid (∀ W, MaxL W → Calls Tryd.prog 24 #[.string p] W fun e w' => e = .returned (.int .i64 0) ∧ Below W.heap.size W w') := fun W hW => by
                    have h := depthP_any p W hpz hW
                    rw [show ((segsB p).length : Int) = 0 by rw [(HQ.out ()).2.2.1]; rw [show fineJ j = false by simp [fineJ]; omega]; rfl] at h
                    exact h
                  have HPE : Hid (∀ _ : Unit, (p == ⟨#[]⟩) = false) := fun _ => eqs_no hpe
                  have hpeb : p.toList.isEmpty = false := emp_is (HPE.out ())
                  clear HQ
                  clear hpe
                  go_wp2_with (first
                    | (go_at_call 13; refine (HSG.out _).mono ?_; rintro e w' ⟨he, hw⟩; subst he; subst hw)
                    | (go_at_call 15; refine (HIS.out _ (HM.out.below hm.below)).mono ?_; rintro e w' ⟨he, hb⟩; subst he; replace hm := hm.call hb; clear hb)
                    | (go_at_call 24; refine (HDP.out _ (HM.out.below hm.below)).mono ?_; rintro e w' ⟨he, hb⟩; subst he; replace hm := hm.call hb; clear hb)
                    | ((with_reducible refine at_op (some 62) (.binOp .eql 9 (.tmp 61) (.const (.string { data := #[] })) 9) ?_); go_must (refine wpl_execG (.bool false) rfl (exec_eqsB p ⟨#[]⟩ false rfl rfl (HPE.out ())) ?_)))
                  go_ret
                  exact ⟨rfl, hm.below⟩
          · have hj1i : ¬ (1 : Int) ≤ (j : Int) := by omega
            by_cases hk0 : k = 0
            · have hpe := (HQ.out ()).2.2.2 hk0
              subst hk0
              have HSG : Hid (∀ W, Calls Tryd.prog 13 #[.string sX] W fun e w' => e = .returned (.bool false) ∧ w' = W) := fun W => by
                have h := segment_any sX W
                rw [(HQ.out ()).1, show fineJ j = false by simp [fineJ]; omega] at h
                exact h
              have HIS : Hid (∀ W, MaxL W → Calls Tryd.prog 15 #[.string p] W fun e w' => e = .returned (.bool true) ∧ Below W.heap.size W w') := fun W hW => by
                have h := is_any p W hpz hW
                rw [show isP (bs p) = true by rw [(HQ.out ()).2.1]; rw [show fineJ j = false by simp [fineJ]; omega]; rw [show (bs p).isEmpty = true by rw [hpe]; rfl]; rfl] at h
                exact h
              have HDP : Hid (∀ W, MaxL W → Calls Tryd.prog 24 #[.string p] W fun e w' => e = .returned (.int .i64 0) ∧ Below W.heap.size W w') := fun W hW => by
                have h := depthP_any p W hpz hW
                rw [show ((segsB p).length : Int) = 0 by rw [(HQ.out ()).2.2.1]; rw [show fineJ j = false by simp [fineJ]; omega]; rfl] at h
                exact h
              have HPE : Hid (∀ _ : Unit, (p == ⟨#[]⟩) = true) := fun _ => by rw [hpe]; exact eqs_yes _
              have hpeb : p.toList.isEmpty = true := emp_is (HPE.out ())
              clear HQ
              clear hpe
              go_wp2_with (first
                | (go_at_call 13; refine (HSG.out _).mono ?_; rintro e w' ⟨he, hw⟩; subst he; subst hw)
                | (go_at_call 15; refine (HIS.out _ (HM.out.below hm.below)).mono ?_; rintro e w' ⟨he, hb⟩; subst he; replace hm := hm.call hb; clear hb)
                | (go_at_call 24; refine (HDP.out _ (HM.out.below hm.below)).mono ?_; rintro e w' ⟨he, hb⟩; subst he; replace hm := hm.call hb; clear hb)
                | ((with_reducible refine at_op (some 62) (.binOp .eql 9 (.tmp 61) (.const (.string { data := #[] })) 9) ?_); go_must (refine wpl_execG (.bool true) rfl (exec_eqsB p ⟨#[]⟩ true rfl rfl (HPE.out ())) ?_)))
              go_ret
              exact ⟨rfl, hm.below⟩
            · have hk0i : ((k : Int) == 0) = false := by rw [beq_eq_false_iff_ne]; omega
              have hd0 : ((0 : Int) == (k : Int)) = false := by rw [beq_eq_false_iff_ne]; omega
              by_cases hpe : p = ⟨#[]⟩
              · have HSG : Hid (∀ W, Calls Tryd.prog 13 #[.string sX] W fun e w' => e = .returned (.bool false) ∧ w' = W) := fun W => by
                  have h := segment_any sX W
                  rw [(HQ.out ()).1, show fineJ j = false by simp [fineJ]; omega] at h
                  exact h
                have HIS : Hid (∀ W, MaxL W → Calls Tryd.prog 15 #[.string p] W fun e w' => e = .returned (.bool true) ∧ Below W.heap.size W w') := fun W hW => by
                  have h := is_any p W hpz hW
                  rw [show isP (bs p) = true by rw [(HQ.out ()).2.1]; rw [show fineJ j = false by simp [fineJ]; omega, show (bs p).isEmpty = true by rw [hpe]; rfl]; simp] at h
                  exact h
                have HDP : Hid (∀ W, MaxL W → Calls Tryd.prog 24 #[.string p] W fun e w' => e = .returned (.int .i64 0) ∧ Below W.heap.size W w') := fun W hW => by
                  have h := depthP_any p W hpz hW
                  rw [show ((segsB p).length : Int) = 0 by rw [(HQ.out ()).2.2.1]; rw [show fineJ j = false by simp [fineJ]; omega]; rfl] at h
                  exact h
                have HPE : Hid (∀ _ : Unit, (p == ⟨#[]⟩) = true) := fun _ => by rw [hpe]; exact eqs_yes _
                have hpeb : p.toList.isEmpty = true := emp_is (HPE.out ())
                clear HQ
                clear hpe
                go_wp2_with (first
                  | (go_at_call 13; refine (HSG.out _).mono ?_; rintro e w' ⟨he, hw⟩; subst he; subst hw)
                  | (go_at_call 15; refine (HIS.out _ (HM.out.below hm.below)).mono ?_; rintro e w' ⟨he, hb⟩; subst he; replace hm := hm.call hb; clear hb)
                  | (go_at_call 24; refine (HDP.out _ (HM.out.below hm.below)).mono ?_; rintro e w' ⟨he, hb⟩; subst he; replace hm := hm.call hb; clear hb)
                  | ((with_reducible refine at_op (some 62) (.binOp .eql 9 (.tmp 61) (.const (.string { data := #[] })) 9) ?_); go_must (refine wpl_execG (.bool true) rfl (exec_eqsB p ⟨#[]⟩ true rfl rfl (HPE.out ())) ?_)))
                go_ret
                exact ⟨rfl, hm.below⟩
              · have HSG : Hid (∀ W, Calls Tryd.prog 13 #[.string sX] W fun e w' => e = .returned (.bool false) ∧ w' = W) := fun W => by
                  have h := segment_any sX W
                  rw [(HQ.out ()).1, show fineJ j = false by simp [fineJ]; omega] at h
                  exact h
                have HIS : Hid (∀ W, MaxL W → Calls Tryd.prog 15 #[.string p] W fun e w' => e = .returned (.bool false) ∧ Below W.heap.size W w') := fun W hW => by
                  have h := is_any p W hpz hW
                  rw [show isP (bs p) = false by rw [(HQ.out ()).2.1]; rw [show fineJ j = false by simp [fineJ]; omega, HNEM.out hpe]; rfl] at h
                  exact h
                have HDP : Hid (∀ W, MaxL W → Calls Tryd.prog 24 #[.string p] W fun e w' => e = .returned (.int .i64 0) ∧ Below W.heap.size W w') := fun W hW => by
                  have h := depthP_any p W hpz hW
                  rw [show ((segsB p).length : Int) = 0 by rw [(HQ.out ()).2.2.1]; rw [show fineJ j = false by simp [fineJ]; omega]; rfl] at h
                  exact h
                have HPE : Hid (∀ _ : Unit, (p == ⟨#[]⟩) = false) := fun _ => eqs_no hpe
                have hpeb : p.toList.isEmpty = false := emp_is (HPE.out ())
                clear HQ
                clear hpe
                go_wp2_with (first
                  | (go_at_call 13; refine (HSG.out _).mono ?_; rintro e w' ⟨he, hw⟩; subst he; subst hw)
                  | (go_at_call 15; refine (HIS.out _ (HM.out.below hm.below)).mono ?_; rintro e w' ⟨he, hb⟩; subst he; replace hm := hm.call hb; clear hb)
                  | (go_at_call 24; refine (HDP.out _ (HM.out.below hm.below)).mono ?_; rintro e w' ⟨he, hb⟩; subst he; replace hm := hm.call hb; clear hb)
                  | ((with_reducible refine at_op (some 62) (.binOp .eql 9 (.tmp 61) (.const (.string { data := #[] })) 9) ?_); go_must (refine wpl_execG (.bool false) rfl (exec_eqsB p ⟨#[]⟩ false rfl rfl (HPE.out ())) ?_)))
                go_ret
                exact ⟨rfl, hm.below⟩
end Go.Proofs.YtikmmheknfljkaaDoor
