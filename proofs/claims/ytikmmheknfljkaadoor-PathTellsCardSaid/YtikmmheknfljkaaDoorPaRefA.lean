/- The document's segments and parts. -/
import Derived.Laws.Strings3
import Derived.Test.YtikmmheknfljkaaDoorPaCodW
import Derived.Test.YtikmmheknfljkaaDoorPaBsl
namespace Go.Proofs.YtikmmheknfljkaaDoor
open Go Go.RowKit
set_option maxRecDepth 100000 in
theorem seg_bad {l : List UInt8} {k : Nat} {b : UInt8} (hb : l[k]? = some b) (ho : okU b = false) : seg l = false := by
  have hall : l.all okU = false := by
    rw [List.all_eq_false]
    exact ⟨b, List.mem_of_getElem? hb, by rw [ho]; simp⟩
  unfold seg
  rw [hall]; simp
set_option maxHeartbeats 4000000 in
set_option maxRecDepth 100000 in
theorem segR_any (s : ByteArray) (w : World) (hs : s.size ≤ maxLen) : Calls Tryd.prog 14 #[.string s] w fun e w' => e = .returned (.bool (seg (bs s))) ∧ w' = w := by
  obtain ⟨n, hn⟩ : ∃ n : Nat, n = s.size := ⟨_, rfl⟩
  have HN : Hid (∀ _ : Unit, n = s.size) := fun _ => hn
  have hnm : n ≤ 9223372036854775807 := by unfold maxLen at hs; omega
  clear hn hs
  go_enter Tryd.func14, Tryd.ntmps14
  go_wp2_with fail
  go_loopw [3] (fun vi wr => ∃ k : Nat, k ≤ n ∧ vi = .int .i64 (k : Int) ∧ Hid (((bs s).take k).all okU = true) ∧ wr = w) (fun vi _ => n - (intOf vi).toNat)
  case atStart => exact ⟨0, by omega, rfl, rfl, rfl⟩
  case round =>
    obtain ⟨k, hk, rfl, HA, rfl⟩ := hrel
    by_cases hlt : k < n
    · have hki : (k : Int) < (s.size : Int) := by have := HN.out (); omega
      obtain ⟨b, hb, hb2⟩ := byte_at s k (by have := HN.out (); omega)
      obtain ⟨x, hx⟩ : ∃ x : Int, x = (b.toNat : Int) := ⟨_, rfl⟩
      have HB : Hid (∀ _ : Unit, ∃ c, s.data[k]? = some c ∧ (c.toNat : Int) = x) := fun _ => ⟨b, hb, hx.symm⟩
      have HB2 : Hid (∀ _ : Unit, (bs s)[k]? = some b) := fun _ => hb2
      have HXB : Hid (∀ _ : Unit, okU b = okc x) := fun _ => by rw [hx]; rfl
      clear hb hb2 hx
      by_cases h1 : 97 ≤ x
      · by_cases h2 : x ≤ 122
        · have HO : Hid (∀ _ : Unit, okU b = true) := fun _ => by rw [HXB.out ()]; simp [okc]; omega
          go_wp2_with (first
            | ((with_reducible refine at_op (some 12) (.index 9 (.tmp 10) (.tmp 11)) ?_); refine wpl_ixs un_strT s k x rfl rfl rfl (HB.out ()) ?_)
            | ((with_reducible refine at_opG (some 17) (.index 9 (.tmp 15) (.tmp 16)) (some (4, true)) ?_); go_must (refine wpl_execG (.int .u8 x) rfl (exec_ixs un_strT s k x rfl rfl rfl (HB.out ())) ?_))
            | ((with_reducible refine at_opG (some 23) (.index 9 (.tmp 21) (.tmp 22)) (some (10, false)) ?_); go_must (refine wpl_execG (.int .u8 x) rfl (exec_ixs un_strT s k x rfl rfl rfl (HB.out ())) ?_))
            | ((with_reducible refine at_opG (some 28) (.index 9 (.tmp 26) (.tmp 27)) (some (15, true)) ?_); go_must (refine wpl_execG (.int .u8 x) rfl (exec_ixs un_strT s k x rfl rfl rfl (HB.out ())) ?_)))
          go_roundw
          case rel => exact ⟨k + 1, by omega, by go_num, all_take HA.out (HB2.out ()) (HO.out ()), by first | rfl | trivial⟩
          case measure => simp [intOf]; omega
        · have h3 : 48 ≤ x := by omega
          have h4 : ¬ x ≤ 57 := by omega
          have HO : Hid (∀ _ : Unit, okU b = false) := fun _ => by rw [HXB.out ()]; simp [okc]; omega
          go_wp2_with (first
            | ((with_reducible refine at_op (some 12) (.index 9 (.tmp 10) (.tmp 11)) ?_); refine wpl_ixs un_strT s k x rfl rfl rfl (HB.out ()) ?_)
            | ((with_reducible refine at_opG (some 17) (.index 9 (.tmp 15) (.tmp 16)) (some (4, true)) ?_); go_must (refine wpl_execG (.int .u8 x) rfl (exec_ixs un_strT s k x rfl rfl rfl (HB.out ())) ?_))
            | ((with_reducible refine at_opG (some 23) (.index 9 (.tmp 21) (.tmp 22)) (some (10, false)) ?_); go_must (refine wpl_execG (.int .u8 x) rfl (exec_ixs un_strT s k x rfl rfl rfl (HB.out ())) ?_))
            | ((with_reducible refine at_opG (some 28) (.index 9 (.tmp 26) (.tmp 27)) (some (15, true)) ?_); go_must (refine wpl_execG (.int .u8 x) rfl (exec_ixs un_strT s k x rfl rfl rfl (HB.out ())) ?_)))
          go_ret
          refine ⟨?_, rfl⟩
          rw [seg_bad (HB2.out ()) (HO.out ())]
          rfl
      · by_cases h3 : 48 ≤ x
        · by_cases h4 : x ≤ 57
          · have HO : Hid (∀ _ : Unit, okU b = true) := fun _ => by rw [HXB.out ()]; simp [okc]; omega
            go_wp2_with (first
              | ((with_reducible refine at_op (some 12) (.index 9 (.tmp 10) (.tmp 11)) ?_); refine wpl_ixs un_strT s k x rfl rfl rfl (HB.out ()) ?_)
              | ((with_reducible refine at_opG (some 17) (.index 9 (.tmp 15) (.tmp 16)) (some (4, true)) ?_); go_must (refine wpl_execG (.int .u8 x) rfl (exec_ixs un_strT s k x rfl rfl rfl (HB.out ())) ?_))
              | ((with_reducible refine at_opG (some 23) (.index 9 (.tmp 21) (.tmp 22)) (some (10, false)) ?_); go_must (refine wpl_execG (.int .u8 x) rfl (exec_ixs un_strT s k x rfl rfl rfl (HB.out ())) ?_))
              | ((with_reducible refine at_opG (some 28) (.index 9 (.tmp 26) (.tmp 27)) (some (15, true)) ?_); go_must (refine wpl_execG (.int .u8 x) rfl (exec_ixs un_strT s k x rfl rfl rfl (HB.out ())) ?_)))
            go_roundw
            case rel => exact ⟨k + 1, by omega, by go_num, all_take HA.out (HB2.out ()) (HO.out ()), by first | rfl | trivial⟩
            case measure => simp [intOf]; omega
          · have HO : Hid (∀ _ : Unit, okU b = false) := fun _ => by rw [HXB.out ()]; simp [okc]; omega
            go_wp2_with (first
              | ((with_reducible refine at_op (some 12) (.index 9 (.tmp 10) (.tmp 11)) ?_); refine wpl_ixs un_strT s k x rfl rfl rfl (HB.out ()) ?_)
              | ((with_reducible refine at_opG (some 17) (.index 9 (.tmp 15) (.tmp 16)) (some (4, true)) ?_); go_must (refine wpl_execG (.int .u8 x) rfl (exec_ixs un_strT s k x rfl rfl rfl (HB.out ())) ?_))
              | ((with_reducible refine at_opG (some 23) (.index 9 (.tmp 21) (.tmp 22)) (some (10, false)) ?_); go_must (refine wpl_execG (.int .u8 x) rfl (exec_ixs un_strT s k x rfl rfl rfl (HB.out ())) ?_))
              | ((with_reducible refine at_opG (some 28) (.index 9 (.tmp 26) (.tmp 27)) (some (15, true)) ?_); go_must (refine wpl_execG (.int .u8 x) rfl (exec_ixs un_strT s k x rfl rfl rfl (HB.out ())) ?_)))
            go_ret
            refine ⟨?_, rfl⟩
            rw [seg_bad (HB2.out ()) (HO.out ())]
            rfl
        · have HO : Hid (∀ _ : Unit, okU b = false) := fun _ => by rw [HXB.out ()]; simp [okc]; omega
          go_wp2_with (first
            | ((with_reducible refine at_op (some 12) (.index 9 (.tmp 10) (.tmp 11)) ?_); refine wpl_ixs un_strT s k x rfl rfl rfl (HB.out ()) ?_)
            | ((with_reducible refine at_opG (some 17) (.index 9 (.tmp 15) (.tmp 16)) (some (4, true)) ?_); go_must (refine wpl_execG (.int .u8 x) rfl (exec_ixs un_strT s k x rfl rfl rfl (HB.out ())) ?_))
            | ((with_reducible refine at_opG (some 23) (.index 9 (.tmp 21) (.tmp 22)) (some (10, false)) ?_); go_must (refine wpl_execG (.int .u8 x) rfl (exec_ixs un_strT s k x rfl rfl rfl (HB.out ())) ?_))
            | ((with_reducible refine at_opG (some 28) (.index 9 (.tmp 26) (.tmp 27)) (some (15, true)) ?_); go_must (refine wpl_execG (.int .u8 x) rfl (exec_ixs un_strT s k x rfl rfl rfl (HB.out ())) ?_)))
          go_ret
          refine ⟨?_, rfl⟩
          rw [seg_bad (HB2.out ()) (HO.out ())]
          rfl
    · have hki : ¬ (k : Int) < (s.size : Int) := by have := HN.out (); omega
      have hall : (bs s).all okU = true := by
        have := HA.out
        rw [List.take_of_length_le (by rw [bs_length]; have := HN.out (); omega)] at this
        exact this
      have HS : Hid (∀ _ : Unit, seg (bs s) = (decide (1 ≤ s.size) && decide (s.size ≤ 10))) := fun _ => by rw [seg, hall, bs_length, Bool.and_true]
      clear hall
      by_cases h1 : 1 ≤ s.size
      · have h1i : (1 : Int) ≤ (s.size : Int) := by omega
        by_cases h10 : s.size ≤ 10
        · have h10i : (s.size : Int) ≤ 10 := by omega
          go_wp2_with fail
          go_ret
          exact ⟨by rw [HS.out (), decide_eq_true h1, decide_eq_true h10]; rfl, rfl⟩
        · have h10i : ¬ (s.size : Int) ≤ 10 := by omega
          go_wp2_with fail
          go_ret
          exact ⟨by rw [HS.out (), decide_eq_true h1, decide_eq_false h10]; rfl, rfl⟩
      · have h1i : ¬ (1 : Int) ≤ (s.size : Int) := by omega
        go_wp2_with fail
        go_ret
        exact ⟨by rw [HS.out (), decide_eq_false h1]; rfl, rfl⟩
section
variable {a : Act} {w : World} {dst : Option Tmp} {typ : TypeId} {pos : String} {aft : Array Edge} {gd : Option (Nat × Bool)}
set_option maxRecDepth 100000 in
theorem ext_bs (s : ByteArray) (l h : Nat) : bs (s.extract l h) = ((bs s).take h).drop l := by
  show (s.extract l h).data.toList = _
  rw [ByteArray.data_extract, Array.toList_extract, List.extract_eq_take_drop, List.drop_take]; rfl
set_option maxRecDepth 100000 in
theorem exec_slhS {x lo h : Operand} (s r : ByteArray) (l n : Nat) (hl : l ≤ n) (hn : n ≤ s.size) (hr : bs r = ((bs s).take n).drop l) (hx : a.eval x = .string s) (hlo : a.eval lo = .int .i64 (l : Int)) (hh : a.eval h = .int .i64 (n : Int)) :
    (execOp a.eval { dst := dst, op := .slice 9 x (some lo) (some h) none, type := typ, pos := pos, after := aft, guard := gd }).run Tryd.prog w = .ok (.value (.string r)) w := by
  have e : s.extract l n = r := bs_inj (by rw [hr, ext_bs])
  have h0 : (0 : Int) ≤ (l : Int) := by omega
  have h3 : (0 : Int) ≤ (n : Int) := by omega
  unfold execOp
  simp only [hx, Option.map_none, Option.map_some, hlo, hh, Sem.run_bind, run_sliceAt_string _ _ _ _ _ _ un_strT]
  simp [Instr.slice, Instr.sliceBounds, Instr.sliceBound, asIntOf, run_underlying un_strT, h0, h3, hl, hn, e, Result.andThen]
set_option maxRecDepth 100000 in
theorem exec_sloS {x lo : Operand} (s r : ByteArray) (l : Nat) (hl : l ≤ s.size) (hr : bs r = (bs s).drop l) (hx : a.eval x = .string s) (hlo : a.eval lo = .int .i64 (l : Int)) :
    (execOp a.eval { dst := dst, op := .slice 9 x (some lo) none none, type := typ, pos := pos, after := aft, guard := gd }).run Tryd.prog w = .ok (.value (.string r)) w := by
  have e : s.extract l s.size = r := bs_inj (by rw [hr, ext_bs, List.take_of_length_le (by rw [bs_length]; exact Nat.le_refl _)])
  have hc : (0 : Int) ≤ (l : Int) ∧ (l : Int) ≤ (s.size : Int) := by omega
  unfold execOp
  simp only [hx, Option.map_none, Option.map_some, hlo, Sem.run_bind, run_sliceAt_string _ _ _ _ _ _ un_strT, run_slice_string_from_if _ _ _ _ _ un_strT, if_pos hc, Int.toNat_natCast, e, Result.andThen_ok, Sem.run_pure]
end
end Go.Proofs.YtikmmheknfljkaaDoor
