/- Package term: skip, kind. -/
import Derived.Test.YtbiinchmbclmcaaDoorTmRead
namespace Go.Proofs.YtbiinchmbclmcaaDoor
open Go Go.RowKit
set_option maxHeartbeats 1000000 in
set_option maxRecDepth 100000 in
theorem skip_any (R P : List UInt8) (room : Int) (g : Nat) (w : World) (hr : Row w g (rdv R room) 53) :
    Calls Tryd.prog 33 #[.pointer (some ⟨g, 0, none⟩), .string (mkS P)] w fun e w' => e = .returned (.bool (Lib.hasPrefix R P)) ∧ Row w' g (rdv (Lib.trimPrefix R P) room) 53 ∧ Upd g w w' := by
  have hm := Mem.enter hr
  have HCP : Hid (∀ W, Calls Tryd.prog 40 #[.string (mkS R), .string (mkS P)] W fun e w' => e = .returned (.tuple #[.string (mkS (Lib.trimPrefix R P)), .bool (Lib.hasPrefix R P)]) ∧ w' = W) := fun W => by
    have := cutp_any (mkS R) (mkS P) W
    rw [bs_mkS, bs_mkS] at this
    exact this
  clear hr
  go_enter Tryd.func33, Tryd.ntmps33
  go_wp2_with (first
    | ((with_reducible refine at_op (some 11) (.load 9 (.tmp 10)) ?_); go_must (refine wpl_execG (.string (mkS R)) rfl (exec_ldx (.string (mkS R)) (Mem.cell hm 0 rfl 0) rfl ag_str) ?_))
    | (go_at_call 40; go_must (refine (HCP.out _).mono ?_); rintro e w' ⟨he, hw⟩; subst he; replace hw := hw.symm; subst hw)
    | ((with_reducible refine at_op none (.store 9 (.tmp 19) (.tmp 17)) ?_); go_must (refine wpl_stc 0 0 (.string (mkS (Lib.trimPrefix R P))) hm rfl rfl rfl sz_str (by show 0 < 2; omega) rfl rfl ?_); clear hm; intro w2 hm))
  go_ret
  exact ⟨rfl, hm.get 0 rfl, hm.toUpd⟩
set_option maxRecDepth 100000 in
theorem skip_yes {R P : List UInt8} (h : Lib.hasPrefix R P = true) (room : Int) (g : Nat) (w : World) (hr : Row w g (rdv R room) 53) :
    Calls Tryd.prog 33 #[.pointer (some ⟨g, 0, none⟩), .string (mkS P)] w fun e w' => e = .returned (.bool true) ∧ Row w' g (rdv (R.drop P.length) room) 53 ∧ Upd g w w' := by
  have := skip_any R P room g w hr
  rw [h, trim_yes h] at this
  exact this
set_option maxRecDepth 100000 in
theorem skip_no {R P : List UInt8} (h : Lib.hasPrefix R P = false) (room : Int) (g : Nat) (w : World) (hr : Row w g (rdv R room) 53) :
    Calls Tryd.prog 33 #[.pointer (some ⟨g, 0, none⟩), .string (mkS P)] w fun e w' => e = .returned (.bool false) ∧ Row w' g (rdv R room) 53 ∧ Upd g w w' := by
  have := skip_any R P room g w hr
  rw [h, trim_no h] at this
  exact this
set_option maxHeartbeats 4000000 in
set_option maxRecDepth 100000 in
theorem kind_any (R : List UInt8) (room : Int) (g : Nat) (w : World) (hr : Row w g (rdv R room) 53) :
    Calls Tryd.prog 28 #[.pointer (some ⟨g, 0, none⟩)] w fun e w' => e = .returned (.int .i64 (kdOf R)) ∧ Row w' g (rdv (R.drop (wd (kdOf R)).length) room) 53 ∧ Upd g w w' := by
  have hm := Mem.enter hr
  clear hr
  go_enter Tryd.func28, Tryd.ntmps28
  go_wp2_with (first
    | ((with_reducible refine at_op (some 7) (.buildSlice 76 4 #[(0, .const (.int .i64 1)), (1, .const (.int .i64 2)), (2, .const (.int .i64 3)), (3, .const (.int .i64 5))]) ?_); go_must (refine wpl_kds rfl hm ?_); clear hm; intro w7 g7 hm))
  go_loopw [9] (fun vi wr => ∃ k : Nat, k ≤ 4 ∧ vi = .int .i64 (k : Int) ∧ Hid (∀ j, j < k → Lib.hasPrefix R (wd (kd j)) = false) ∧ Hid (Mem w [g] wr [(g7, kds, 3), (g, rdv R room, 53)])) (fun vi _ => 4 - (intOf vi).toNat)
  case atStart => exact ⟨0, by omega, rfl, fun j hj => absurd hj (by omega), hm⟩
  case round =>
    clear hm
    obtain ⟨k, hk, rfl, HA, HMM⟩ := hrel
    by_cases hlt : k < 4
    · have hki : (k : Int) < 4 := by omega
      have hm := HMM.out
      have hkr := kd_range hlt
      have HKG : Hid (∀ _ : Unit, kds[k]? = some (.int .i64 (kd k))) := fun _ => kds_get hlt
      have HF1 : Hid (∀ _ : Unit, ∀ v ∈ [Value.string (mkS (wd (kd k))), .bool (nb (kd k)), .int .i64 (kn (kd k) : Int)], v.oneCell' = true) := fun _ => by rw [← fmv_get hkr]; exact fmv_one _
      have HFO : Hid (∀ W, Calls Tryd.prog 24 #[.int .i64 (kd k)] W fun e w' => e = .returned (.tuple #[.agg [Value.string (mkS (wd (kd k))), .bool (nb (kd k)), .int .i64 (kn (kd k) : Int)].toArray, .bool true]) ∧ Below W.heap.size W w') := fun W => by
        have := formOf_any (kd k) W
        rw [fmv_get hkr, decide_eq_true hkr] at this
        exact this
      clear HMM hkr
      cases hp : Lib.hasPrefix R (wd (kd k)) with
      | false =>
        have HSK : Hid (∀ W, Row W g (rdv R room) 53 → Calls Tryd.prog 33 #[.pointer (some ⟨g, 0, none⟩), .string (mkS (wd (kd k)))] W fun e w' => e = .returned (.bool false) ∧ Row w' g (rdv R room) 53 ∧ Upd g W w') := fun W hW => skip_no hp room g W hW
        have HB : Hid (∀ j, j < k + 1 → Lib.hasPrefix R (wd (kd j)) = false) := fun j hj => by
          by_cases h : j = k
          · subst h; exact hp
          · exact HA.out j (by omega)
        clear hp HA
        go_wp2_with (first
          | ((with_reducible refine at_op (some 11) (.indexAddr 76 (.tmp 7) (.tmp 9)) ?_); go_must (refine wpl_execG (.pointer (some ⟨g7, k, none⟩)) rfl (exec_ixI0 k rfl rfl rfl hlt) ?_))
          | ((with_reducible refine at_op (some 12) (.load 3 (.tmp 11)) ?_); go_must (refine wpl_execG (.int .i64 (kd k)) rfl (exec_ldx (.int .i64 (kd k)) ((Mem.cell hm 0 rfl k).trans (HKG.out ())) rfl ag_int) ?_))
          | (go_at_call 24; go_must (refine (HFO.out _).mono ?_); rintro e w8 ⟨he, hb⟩; subst he; replace hm := hm.call hb; clear hb)
          | ((with_reducible refine at_op (some 5) (.alloc 57) ?_); go_must (refine wpl_alloc _ zero_form hm ?_); clear hm; intro w9 g9 hm)
          | ((with_reducible refine at_op none (.store 57 (.tmp 5) (.tmp 16)) ?_); go_must (refine wpl_stw 0 ([Value.string (mkS (wd (kd k))), .bool (nb (kd k)), .int .i64 (kn (kd k) : Int)]) hm rfl rfl rfl 3 sz_form rfl rfl ((HF1.out ())) ?_); clear hm; intro w10 hm)
          | ((with_reducible refine at_op (some 20) (.load 9 (.tmp 19)) ?_); go_must (refine wpl_execG (.string (mkS (wd (kd k)))) rfl (exec_ldx (.string (mkS (wd (kd k)))) (Mem.cell hm 0 rfl 0) rfl ag_str) ?_))
          | (go_at_call 33; go_must (refine (HSK.out _ (hm.get 2 rfl)).mono ?_); rintro e w11 ⟨he, hr, hu⟩; subst he; replace hm := hm.upd 2 rfl hu hr; clear hr hu))
        go_roundw
        case rel => exact ⟨k + 1, by omega, by go_num, HB.out, hm.tail⟩
        case measure => simp [intOf]; omega
      | true =>
        have HSK : Hid (∀ W, Row W g (rdv R room) 53 → Calls Tryd.prog 33 #[.pointer (some ⟨g, 0, none⟩), .string (mkS (wd (kd k)))] W fun e w' => e = .returned (.bool true) ∧ Row w' g (rdv (R.drop (wd (kd k)).length) room) 53 ∧ Upd g W w') := fun W hW => skip_yes hp room g W hW
        have HR : Hid (∀ _ : Unit, kdOf R = kd k) := fun _ => kdOf_at hlt HA.out hp
        clear hp HA
        go_wp2_with (first
          | ((with_reducible refine at_op (some 11) (.indexAddr 76 (.tmp 7) (.tmp 9)) ?_); go_must (refine wpl_execG (.pointer (some ⟨g7, k, none⟩)) rfl (exec_ixI0 k rfl rfl rfl hlt) ?_))
          | ((with_reducible refine at_op (some 12) (.load 3 (.tmp 11)) ?_); go_must (refine wpl_execG (.int .i64 (kd k)) rfl (exec_ldx (.int .i64 (kd k)) ((Mem.cell hm 0 rfl k).trans (HKG.out ())) rfl ag_int) ?_))
          | (go_at_call 24; go_must (refine (HFO.out _).mono ?_); rintro e w8 ⟨he, hb⟩; subst he; replace hm := hm.call hb; clear hb)
          | ((with_reducible refine at_op (some 5) (.alloc 57) ?_); go_must (refine wpl_alloc _ zero_form hm ?_); clear hm; intro w9 g9 hm)
          | ((with_reducible refine at_op none (.store 57 (.tmp 5) (.tmp 16)) ?_); go_must (refine wpl_stw 0 ([Value.string (mkS (wd (kd k))), .bool (nb (kd k)), .int .i64 (kn (kd k) : Int)]) hm rfl rfl rfl 3 sz_form rfl rfl ((HF1.out ())) ?_); clear hm; intro w10 hm)
          | ((with_reducible refine at_op (some 20) (.load 9 (.tmp 19)) ?_); go_must (refine wpl_execG (.string (mkS (wd (kd k)))) rfl (exec_ldx (.string (mkS (wd (kd k)))) (Mem.cell hm 0 rfl 0) rfl ag_str) ?_))
          | (go_at_call 33; go_must (refine (HSK.out _ (hm.get 2 rfl)).mono ?_); rintro e w11 ⟨he, hr, hu⟩; subst he; replace hm := hm.upd 2 rfl hu hr; clear hr hu))
        go_ret
        refine ⟨by rw [HR.out ()]; rfl, ?_, hm.toUpd⟩
        rw [HR.out ()]
        exact hm.get 2 rfl
    · have hk4 : k = 4 := by omega
      subst hk4
      have hki : ¬ ((4 : Nat) : Int) < 4 := by omega
      have HR : Hid (∀ _ : Unit, kdOf R = 4) := fun _ => kdOf_none HA.out
      have hm := HMM.out
      clear HA
      go_wp2_with fail
      go_ret
      refine ⟨by rw [HR.out ()]; rfl, ?_, hm.toUpd⟩
      rw [HR.out ()]
      exact hm.get 1 rfl
end Go.Proofs.YtbiinchmbclmcaaDoor
