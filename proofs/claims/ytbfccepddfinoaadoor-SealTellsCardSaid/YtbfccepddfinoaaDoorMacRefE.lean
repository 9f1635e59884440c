/- The contract of the reference's Expand. -/
import Derived.Test.YtbfccepddfinoaaDoorMacRef
import Derived.Test.YtbfccepddfinoaaDoorAnyG
namespace Go.Proofs.YtbfccepddfinoaaDoor
open Go Go.RowKit

theorem ty_key (g : Nat) (l : List Value) : ∀ r ∈ [((g, l, 23) : Nat × List Value × TypeId)], r.2.2 ≠ 5 := by
  intro r hr
  simp only [List.mem_cons, List.not_mem_nil, or_false] at hr
  subst hr
  show (23 : Nat) ≠ 5
  decide
theorem OwnB.slice {e : TypeId} {w : World} {base : Nat} {v : Value} {zs : List Int} (h : OwnB e w base v zs) (n : Nat) (hn : zs.length = n) : ∃ p c, v = .slice p n c ∧ n ≤ c := by
  obtain ⟨p, c, h1, h2, _⟩ := h.old
  subst hn
  exact ⟨p, c, h1, h2⟩
set_option maxHeartbeats 2000000 in
set_option maxRecDepth 100000 in
theorem expandRef_some (ks info : List Int) (v : Value) (N : Nat) (hN0 : 0 < N) (hN : N ≤ 8160) (hkl : ks.length = 32) (hkb : Bytes ks) (hib : Bytes info) (hil : info.length ≤ 100000) (w : World) (hv : SlOld w v info) :
    Calls Tryd.prog 38 #[.agg (u8s ks).toArray, v, .int .i64 (N : Int)] w fun e w' => ∃ v', e = .returned v' ∧ SlOld w' v' (expandOf ks info N) ∧ Below w.heap.size w w' := by
  obtain ⟨pi, ci, rfl, _⟩ := hv.len
  have hm := Mem.start w
  have HKL : Hid _ := hkl
  have HKB : Hid _ := hkb
  have HIB : Hid _ := hib
  have HV : Hid (SlOld w (.slice pi info.length ci) info) := hv
  have hn1 : ¬ ((8160 : Int) < (N : Int)) := by omega
  have hn2 : (0 : Int) < (N : Int) := by omega
  have hn3 : ¬ ((N : Int) < 0) := by omega
  have hn4 : ¬ ((N : Int) ≤ 0) := by omega
  have hn5 : (N : Int) ≤ 8160 := by omega
  clear hkl hkb hib hv
  go_enter Tryd.func38, Tryd.ntmps38
  go_wp2_with (first
    | ((with_reducible refine at_op (some 3) (.box 23 (.tmp 0)) ?_); refine wpl_box (u8s ks) rfl hm ?_; clear hm; intro w1 g3 hm))

  go_loopw [7, 8, 9] (fun v7 v8 vi wr => ∃ j : Nat, 32 * j < N + 32 ∧ vi = .int .i64 ((j : Int) + 1) ∧ Hid (Two w wr v7 (rowsOf ks info j) v8 (pieceOf ks info j)) ∧ Mem w [] wr [(g3, u8s ks, 23)]) (fun _ _ vi _ => N + 64 - 32 * (intOf vi).toNat)
  case atStart => exact ⟨0, by omega, rfl, Two.start _ _, hm⟩
  case round =>
    clear hm
    obtain ⟨j, hj, rfl, HTW, hm⟩ := hrel
    obtain ⟨po, co, hvo, hco⟩ := OwnB.slice HTW.out.own1 (32 * j) (rowsOf_length _ _ _)
    subst hvo
    by_cases hlt : 32 * j < N
    · have hti : ((32 * j : Nat) : Int) < (N : Int) := by omega
      obtain ⟨pt, ct, hvt, _⟩ := OwnB.slice HTW.out.own2 _ rfl
      subst hvt
      have hj1 : (j : Int) + 1 < 256 := by omega
      have HPL : Hid _ := pieceOf_le ks info j
      have HPN : Hid ((pieceOf ks info (j + 1)).length = 32) := pieceOf_length ks info j
      obtain ⟨Pn, hPn⟩ : ∃ p, p = pieceOf ks info (j + 1) := ⟨_, rfl⟩
      have HPE : Hid (∀ _ : Unit, macOf ks (pieceOf ks info j ++ info ++ [(j : Int) + 1]) = Pn) := by intro _; rw [hPn]; rfl
      have HPR : Hid (∀ _ : Unit, rowsOf ks info (j + 1) = rowsOf ks info j ++ Pn) := by intro _; rw [hPn]; rfl
      have HPF : Hid (∀ _ : Unit, Pn = pieceOf ks info (j + 1)) := fun _ => hPn
      have HPQ : Hid (Pn.length = 32) := by show _ = _; rw [hPn]; exact HPN.out
      have HBM : Hid (Bytes (pieceOf ks info j ++ info ++ [(j : Int) + 1])) := by
        refine (Bytes.append (pieceOf_bytes ks info j) HIB.out).append ?_
        intro x hx
        simp only [List.mem_cons, List.not_mem_nil, or_false] at hx
        omega
      have HLM : Hid ((pieceOf ks info j ++ info ++ [(j : Int) + 1]).length ≤ 500000) := by show _ ≤ _; have := HPL.out; simp; omega
      have HL1 : Hid (([] : List Int).length + (pieceOf ks info j).length ≤ 1099511627776) := by show _ ≤ _; have := HPL.out; simp; omega
      have HL2 : Hid ((pieceOf ks info j).length + info.length ≤ 1099511627776) := by show _ ≤ _; have := HPL.out; omega
      have HL3 : Hid ((pieceOf ks info j ++ info).length + [(j : Int) + 1].length ≤ 1099511627776) := by show _ ≤ _; have := HPL.out; simp; omega
      have HL4 : Hid (([] : List Int).length + Pn.length ≤ 1099511627776) := by show _ ≤ _; rw [HPQ.out]; simp
      have HL5 : Hid ((rowsOf ks info j).length + Pn.length ≤ 1099511627776) := by show _ ≤ _; rw [HPQ.out, rowsOf_length]; omega
      have HTA : Hid (Two w wr (.slice none 0 0) [] (.slice po (32 * j) co) (rowsOf ks info j)) := Two.swap (Two.fresh HTW.out.own1)
      have HST : Hid (SlOld wr (.slice pt (pieceOf ks info j).length ct) (pieceOf ks info j)) := HTW.out.own2.old
      clear hPn HTW
      go_wp2_with (first
        | ((with_reducible refine at_op (some 22) (.call { callee := .builtin .append, args := #[.const (.slice none 0 0), .tmp 21], argTypes := #[26, 26] }) ?_); go_must (refine wpl_appT (pieceOf ks info j) HTA.out hm (ty_key _ _) rfl rfl HST.out HL1.out ?_); intro va wa ha hma; have HTB : Hid (Two w wa va (pieceOf ks info j) (.slice po (32 * j) co) (rowsOf ks info j)) := ha; clear hm ha HTA HST)
        | ((with_reducible refine at_op (some 24) (.call { callee := .builtin .append, args := #[.tmp 22, .tmp 23], argTypes := #[26, 26] }) ?_); go_must (refine wpl_appT info HTB.out hma (ty_key _ _) rfl rfl (SlOld.mem HV.out hma) HL2.out ?_); intro vb wb hb hmb; have HTC : Hid (Two w wb vb (pieceOf ks info j ++ info) (.slice po (32 * j) co) (rowsOf ks info j)) := hb; clear hma hb HTB)
        | ((with_reducible refine at_op (some 27) (.buildSlice 26 1 #[(0, .tmp 26)]) ?_); go_must (refine wpl_bsl1 rfl (.int .u8 0) (.int .u8 ((j : Int) + 1)) un_bs info_u8 rfl rfl rfl hmb ?_); intro wc gc hbc hmc; have HTD : Hid (Two w wc vb (pieceOf ks info j ++ info) (.slice po (32 * j) co) (rowsOf ks info j)) := Two.below HTC.out hbc; clear hmb hbc HTC)
        | ((with_reducible refine at_op (some 28) (.call { callee := .builtin .append, args := #[.tmp 24, .tmp 27], argTypes := #[26, 26] }) ?_); go_must (refine wpl_appT [(j : Int) + 1] HTD.out hmc.tail (ty_key _ _) rfl rfl (old_all (l := [(j : Int) + 1]) (hmc.get 0 rfl) rfl (Nat.le_refl _)) HL3.out ?_); intro vd wd hd hmd; have HTE : Hid (Two w wd vd (pieceOf ks info j ++ info ++ [(j : Int) + 1]) (.slice po (32 * j) co) (rowsOf ks info j)) := hd; clear hmc hd HTD)
        | (go_at_call 31; refine (macRef_any ks (pieceOf ks info j ++ info ++ [(j : Int) + 1]) _ _ HKB.out HBM.out (by rw [HKL.out]; omega) HLM.out _ (old_all (hmd.get 0 rfl) HKL.out (Nat.le_refl _)) HTE.out.own1.old).mono ?_; rintro e we ⟨he, hb⟩; rw [HPE.out ()] at he; subst he; have HTF : Hid (Two w we vd (pieceOf ks info j ++ info ++ [(j : Int) + 1]) (.slice po (32 * j) co) (rowsOf ks info j)) := Two.below HTE.out hb; have hme := hmd.call hb; clear hb hmd HTE)
        | ((with_reducible refine at_op (some 11) (.alloc 22) ?_); refine wpl_allocT _ zero_b32 hme ?_; intro wf g11 hbf hmf; have HTG : Hid (Two w wf vd (pieceOf ks info j ++ info ++ [(j : Int) + 1]) (.slice po (32 * j) co) (rowsOf ks info j)) := Two.below HTF.out hbf; clear hbf hme HTF)
        | ((with_reducible refine at_op none (.store 22 (.tmp 11) (.tmp 31)) ?_); go_must (refine wpl_stwV 0 (u8s Pn) hmf rfl rfl rfl 32 sz_b32 (by simp [u8s_length]) (by rw [u8s_length]; exact HPQ.out) (u8s_one _) ?_); intro wg hug hmg; have HTH : Hid (Two w wg (.slice none 0 0) [] (.slice po (32 * j) co) (rowsOf ks info j)) := Two.swap (Two.fresh (Two.upd HTG.out (hmf.get 0 rfl) (by show (22 : Nat) ≠ 5; decide) hug).own2); clear hug hmf HTG)
        | ((with_reducible refine at_op (some 33) (.call { callee := .builtin .append, args := #[.const (.slice none 0 0), .tmp 32], argTypes := #[26, 26] }) ?_); go_must (refine wpl_appT Pn HTH.out hmg (ty_more (ty_key _ _)) rfl rfl (old_all (hmg.get 0 rfl) HPQ.out (Nat.le_refl _)) HL4.out ?_); intro vh wh hh hmh; replace hh : Two w wh vh Pn (.slice po (32 * j) co) (rowsOf ks info j) := hh; obtain ⟨ph, ch, hvh, _⟩ := OwnB.slice hh.own1 32 HPQ.out; subst hvh; have HTI : Hid (Two w wh (.slice po (32 * j) co) (rowsOf ks info j) (.slice ph 32 ch) Pn) := Two.swap hh; clear hmg hh HTH)
        | ((with_reducible refine at_op (some 36) (.call { callee := .builtin .append, args := #[.tmp 34, .tmp 35], argTypes := #[26, 26] }) ?_); go_must (refine wpl_appT Pn HTI.out hmh (ty_more (ty_key _ _)) rfl rfl HTI.out.own2.old HL5.out ?_); intro vi wi hi2 hmi; rw [← HPR.out (), HPF.out ()] at hi2; have HTJ : Hid (Two w wi vi (rowsOf ks info (j + 1)) (.slice ph 32 ch) (pieceOf ks info (j + 1))) := hi2; clear hmh hi2 HTI))

      go_roundw
      case rel => exact ⟨j + 1, by omega, by go_num, HTJ.out, hmi.tail⟩
      case measure => simp [intOf]; omega
    · have hti : ¬ ((32 * j : Nat) : Int) < (N : Int) := by omega
      have ho := HTW.out.own1.old
      rw [rowsOf_length] at ho
      have HSO : Hid (SlOld wr (.slice (cutHi po co) N co) (expandOf ks info N)) := by
        rw [expandOf_at ks info N j (by omega)]
        have h2 : SlOld wr (.slice po (32 * j) co) (rowsOf ks info j) := HTW.out.own1.old
        exact old_hi h2 N (by omega)
      clear ho HTW
      go_wp2_with (first
        | ((with_reducible refine at_op (some 39) (.slice 26 (.tmp 37) none (some (.tmp 38)) none) ?_); go_must (refine wpl_execG (.slice (cutHi po co) N co) rfl (exec_sHi un_bs sz_u8 N (by omega) rfl rfl rfl) ?_)))
      go_ret
      exact ⟨_, rfl, HSO.out, hm.below⟩
set_option maxHeartbeats 1000000 in
set_option maxRecDepth 100000 in
theorem expandRef_neg (ks info : List Int) (v : Value) (n : Int) (hn : n < 0) (w : World) (hv : SlOld w v info) :
    Calls Tryd.prog 38 #[.agg (u8s ks).toArray, v, .int .i64 n] w fun e w' => ∃ v', e = .returned v' ∧ SlOld w' v' [] ∧ Below w.heap.size w w' := by
  obtain ⟨pi, ci, rfl, _⟩ := hv.len
  clear hv
  have hm := Mem.start w
  have hn1 : ¬ ((8160 : Int) < n) := by omega
  have hn2 : ¬ (0 : Int) < n := by omega
  have hn3 : n ≤ 0 := by omega
  go_enter Tryd.func38, Tryd.ntmps38
  go_wp2_with (first
    | ((with_reducible refine at_op (some 3) (.box 23 (.tmp 0)) ?_); refine wpl_box (u8s ks) rfl hm ?_; clear hm; intro w1 g3 hm))

  refine wp_loop_rounds 1 ?_
  rw [rounds_succ]
  go_wp2_with (first
    | ((with_reducible refine at_op (some 39) (.slice 26 (.tmp 37) none (some (.tmp 38)) none) ?_); go_must (refine wpl_execG (.slice (cutHi none 0) 0 0) rfl (exec_sHi un_bs sz_u8 0 (by omega) rfl rfl rfl) ?_)))
  go_ret
  exact ⟨_, rfl, old_hi (cs := []) ⟨none, 0, rfl, Nat.le_refl _, fun h => absurd h (by simp)⟩ 0 (Nat.le_refl _), hm.below⟩
set_option maxHeartbeats 1000000 in
set_option maxRecDepth 100000 in
theorem expandRef_nought (ks info : List Int) (v : Value) (w : World) (hv : SlOld w v info) :
    Calls Tryd.prog 38 #[.agg (u8s ks).toArray, v, .int .i64 0] w fun e w' => ∃ v', e = .returned v' ∧ SlOld w' v' [] ∧ Below w.heap.size w w' := by
  obtain ⟨pi, ci, rfl, _⟩ := hv.len
  clear hv
  have hm := Mem.start w
  go_enter Tryd.func38, Tryd.ntmps38
  go_wp2_with (first
    | ((with_reducible refine at_op (some 3) (.box 23 (.tmp 0)) ?_); refine wpl_box (u8s ks) rfl hm ?_; clear hm; intro w1 g3 hm))

  refine wp_loop_rounds 1 ?_
  rw [rounds_succ]
  go_wp2_with (first
    | ((with_reducible refine at_op (some 39) (.slice 26 (.tmp 37) none (some (.tmp 38)) none) ?_); go_must (refine wpl_execG (.slice (cutHi none 0) 0 0) rfl (exec_sHi un_bs sz_u8 0 (by omega) rfl rfl rfl) ?_)))
  go_ret
  exact ⟨_, rfl, old_hi (cs := []) ⟨none, 0, rfl, Nat.le_refl _, fun h => absurd h (by simp)⟩ 0 (Nat.le_refl _), hm.below⟩
theorem expandRef_any (ks info : List Int) (v : Value) (N : Nat) (hN : N ≤ 8160) (hkl : ks.length = 32) (hkb : Bytes ks) (hib : Bytes info) (hil : info.length ≤ 100000) (w : World) (hv : SlOld w v info) :
    Calls Tryd.prog 38 #[.agg (u8s ks).toArray, v, .int .i64 (N : Int)] w fun e w' => ∃ v', e = .returned v' ∧ SlOld w' v' (expandOf ks info N) ∧ Below w.heap.size w w' := by
  rcases Nat.eq_zero_or_pos N with rfl | h
  · exact expandRef_nought ks info v w hv
  · exact expandRef_some ks info v N h hN hkl hkb hib hil w hv
end Go.Proofs.YtbfccepddfinoaaDoor
