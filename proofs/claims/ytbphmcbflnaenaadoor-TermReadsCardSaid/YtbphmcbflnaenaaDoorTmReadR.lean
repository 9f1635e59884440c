/- The document's reader of terms: what it takes, its numbers. -/
import Derived.Laws.Strings3
import Derived.Test.YtbphmcbflnaenaaDoorTmKnown
namespace Go.Proofs.YtbphmcbflnaenaaDoor
open Go Go.RowKit
set_option maxRecDepth 100000 in
theorem ext_bs (s : ByteArray) (l h : Nat) : bs (s.extract l h) = ((bs s).take h).drop l := by
  show (s.extract l h).data.toList = _
  rw [ByteArray.data_extract, Array.toList_extract, List.extract_eq_take_drop, List.drop_take]; rfl
section
variable {a : Act} {w : World} {dst : Option Tmp} {typ : TypeId} {pos : String} {aft : Array Edge} {gd : Option (Nat × Bool)}
set_option maxRecDepth 100000 in
theorem exec_ixsS {x ix : Operand} (s : ByteArray) (j : Nat) (b : UInt8) {k : IntKind} {i : Int} (hx : a.eval x = .string s) (hix : a.eval ix = .int k i) (hi : i = (j : Int)) (hb : (bs s)[j]? = some b) :
    (execOp a.eval { dst := dst, op := .index 9 x ix, type := typ, pos := pos, after := aft, guard := gd }).run Tryd.prog w = .ok (.value (.int .u8 (b.toNat : Int))) w := by
  unfold execOp
  have hb2 : s.data[j]? = some b := by rw [← hb, bs, Array.getElem?_toList]
  simp only [hx, hix, run_ixs w un_strT s j b hi hb2, Sem.run_bind, Sem.run_pure, Result.andThen_ok]
set_option maxRecDepth 100000 in
theorem exec_sloS {x lo : Operand} (s r : ByteArray) (l : Nat) (hl : l ≤ s.size) (hr : bs r = (bs s).drop l) (hx : a.eval x = .string s) (hlo : a.eval lo = .int .i64 (l : Int)) :
    (execOp a.eval { dst := dst, op := .slice 9 x (some lo) none none, type := typ, pos := pos, after := aft, guard := gd }).run Tryd.prog w = .ok (.value (.string r)) w := by
  have e : s.extract l s.size = r := bs_inj (by rw [hr, ext_bs, List.take_of_length_le (by rw [bs_length]; exact Nat.le_refl _)])
  have hc : (0 : Int) ≤ (l : Int) ∧ (l : Int) ≤ (s.size : Int) := by omega
  unfold execOp
  simp only [hx, Option.map_none, Option.map_some, hlo, Sem.run_bind, run_sliceAt_string _ _ _ _ _ _ un_strT, run_slice_string_from_if _ _ _ _ _ un_strT, if_pos hc, Int.toNat_natCast, e, Result.andThen_ok, Sem.run_pure]
end
set_option maxRecDepth 100000 in
theorem hp_take {s p : List UInt8} : Lib.hasPrefix s p = decide (s.take p.length = p) := by
  rw [Bool.eq_iff_iff, decide_eq_true_iff]
  constructor
  · intro h
    have := hp_app h
    rw [this]; simp
  · intro h
    have := List.take_append_drop p.length s
    rw [h] at this
    rw [← this]; exact hp_of _ _
set_option maxRecDepth 100000 in
theorem noD_hd {c : UInt8} {r : List UInt8} (h : isDig c = false) : ldg (c :: r) = [] := by
  unfold ldg; rw [List.takeWhile_cons, h]; rfl
set_option maxRecDepth 100000 in
theorem ldg_cons {c : UInt8} {r : List UInt8} (h : isDig c = true) : ldg (c :: r) = c :: ldg r := by
  unfold ldg; rw [List.takeWhile_cons, h]; rfl
set_option maxHeartbeats 2000000 in
set_option maxRecDepth 100000 in
theorem take_yes (Sv Pv R : ByteArray) (n : Int) (b : Bool) (g : Nat) (w : World) (_hz : Sv.size ≤ 100000) (h : Lib.hasPrefix (bs Sv) (bs Pv) = true) (hR : bs R = (bs Sv).drop Pv.size) (hr : Row w g [.string Sv, .int .i64 n, .bool b] 63) :
    Calls Tryd.prog 48 #[.pointer (some ⟨g, 0, none⟩), .string Pv] w fun e w' => e = .returned (.tuple #[]) ∧ Row w' g [.string R, .int .i64 n, .bool b] 63 ∧ Upd g w w' := by
  have hm := Mem.enter hr
  have hl : Pv.size ≤ Sv.size := by
    have := congrArg List.length (hp_app h)
    rw [List.length_append, bs_length, bs_length] at this
    omega
  have hc : ¬ (Sv.size : Int) < (Pv.size : Int) := by omega
  obtain ⟨T, hT⟩ : ∃ T, T = mkS ((bs Sv).take Pv.size) := ⟨_, rfl⟩
  have HT : Hid (∀ _ : Unit, bs T = (bs Sv).take Pv.size) := fun _ => by rw [hT, bs_mkS]
  have HE : Hid (∀ _ : Unit, (T == Pv) = true) := fun _ => by
    rw [hp_take, decide_eq_true_iff, bs_length] at h
    have : T = Pv := bs_inj (by rw [HT.out (), h])
    rw [this]; exact eqs_yes _
  have HL : Hid (∀ _ : Unit, Pv.size ≤ Sv.size) := fun _ => hl
  have HR : Hid (∀ _ : Unit, bs R = (bs Sv).drop Pv.size) := fun _ => hR
  clear hr h hT hR hl
  go_enter Tryd.func48, Tryd.ntmps48
  go_wp2_with (first
    | ((with_reducible refine at_op (some 7) (.load 9 (.tmp 6)) ?_); go_must (refine wpl_execG (.string Sv) rfl (exec_ldx (.string Sv) (Mem.cell hm 0 rfl 0) rfl ag_str) ?_))
    | ((with_reducible refine at_opG (some 16) (.load 9 (.tmp 15)) (some (8, false)) ?_); go_must (refine wpl_execG (.string Sv) rfl (exec_ldx (.string Sv) (Mem.cell hm 0 rfl 0) rfl ag_str) ?_))
    | ((with_reducible refine at_opG (some 19) (.slice 9 (.tmp 16) none (some (.tmp 18)) none) (some (8, false)) ?_); go_must (refine wpl_execG (.string T) rfl (exec_shiS Sv T Pv.size (HL.out ()) (HT.out ()) rfl rfl) ?_))
    | ((with_reducible refine at_opG (some 21) (.binOp .neq 9 (.tmp 19) (.tmp 20) 9) (some (8, false)) ?_); go_must (refine wpl_execG (.bool false) rfl (exec_neB T Pv true rfl rfl (HE.out ())) ?_))
    | ((with_reducible refine at_op (some 30) (.load 9 (.tmp 29)) ?_); go_must (refine wpl_execG (.string Sv) rfl (exec_ldx (.string Sv) (Mem.cell hm 0 rfl 0) rfl ag_str) ?_))
    | ((with_reducible refine at_op (some 33) (.slice 9 (.tmp 30) (some (.tmp 32)) none none) ?_); go_must (refine wpl_execG (.string R) rfl (exec_sloS Sv R Pv.size (HL.out ()) (HR.out ()) rfl rfl) ?_))
    | ((with_reducible refine at_op none (.store 9 (.tmp 35) (.tmp 33)) ?_); go_must (refine wpl_stc 0 0 (.string R) hm rfl rfl rfl sz_str (by show 0 < 3; omega) rfl rfl ?_); clear hm; intro w2 hm))
  go_end0
  exact ⟨rfl, hm.get 0 rfl, hm.toUpd⟩
set_option maxHeartbeats 2000000 in
set_option maxRecDepth 100000 in
theorem take_short (Sv Pv : ByteArray) (n : Int) (b : Bool) (g : Nat) (w : World) (hz : Sv.size ≤ 100000) (hl : Sv.size < Pv.size) (hr : Row w g [.string Sv, .int .i64 n, .bool b] 63) :
    Calls Tryd.prog 48 #[.pointer (some ⟨g, 0, none⟩), .string Pv] w fun e w' => e = .returned (.tuple #[]) ∧ Row w' g [.string Sv, .int .i64 n, .bool true] 63 ∧ Upd g w w' := by
  have hm := Mem.enter hr
  have h91 := hz
  clear h91
  have hc : (Sv.size : Int) < (Pv.size : Int) := by omega
  clear hr hl hz
  go_enter Tryd.func48, Tryd.ntmps48
  go_wp2_with (first
    | ((with_reducible refine at_op (some 7) (.load 9 (.tmp 6)) ?_); go_must (refine wpl_execG (.string Sv) rfl (exec_ldx (.string Sv) (Mem.cell hm 0 rfl 0) rfl ag_str) ?_))
    | ((with_reducible refine at_op none (.store 4 (.tmp 25) (.const (.bool true))) ?_); go_must (refine wpl_stc 0 2 (.bool true) hm rfl rfl rfl sz_bool (by show 2 < 3; omega) rfl rfl ?_); clear hm; intro w2 hm))
  refine bodyPost_ret (results_none rfl _ _ _) rfl ?_
  exact ⟨rfl, hm.get 0 rfl, hm.toUpd⟩
set_option maxHeartbeats 2000000 in
set_option maxRecDepth 100000 in
theorem take_not (Sv Pv : ByteArray) (n : Int) (b : Bool) (g : Nat) (w : World) (hz : Sv.size ≤ 100000) (hl : Pv.size ≤ Sv.size) (h : Lib.hasPrefix (bs Sv) (bs Pv) = false) (hr : Row w g [.string Sv, .int .i64 n, .bool b] 63) :
    Calls Tryd.prog 48 #[.pointer (some ⟨g, 0, none⟩), .string Pv] w fun e w' => e = .returned (.tuple #[]) ∧ Row w' g [.string Sv, .int .i64 n, .bool true] 63 ∧ Upd g w w' := by
  have hm := Mem.enter hr
  have h91 := hz
  clear h91
  have hc : ¬ (Sv.size : Int) < (Pv.size : Int) := by omega
  obtain ⟨T, hT⟩ : ∃ T, T = mkS ((bs Sv).take Pv.size) := ⟨_, rfl⟩
  have HT : Hid (∀ _ : Unit, bs T = (bs Sv).take Pv.size) := fun _ => by rw [hT, bs_mkS]
  have HE : Hid (∀ _ : Unit, (T == Pv) = false) := fun _ => eqs_no (fun he => by
    rw [hp_take, bs_length, ← HT.out (), he] at h
    simp at h)
  have HL : Hid (∀ _ : Unit, Pv.size ≤ Sv.size) := fun _ => hl
  clear hr h hT hl hz
  go_enter Tryd.func48, Tryd.ntmps48
  go_wp2_with (first
    | ((with_reducible refine at_op (some 7) (.load 9 (.tmp 6)) ?_); go_must (refine wpl_execG (.string Sv) rfl (exec_ldx (.string Sv) (Mem.cell hm 0 rfl 0) rfl ag_str) ?_))
    | ((with_reducible refine at_opG (some 16) (.load 9 (.tmp 15)) (some (8, false)) ?_); go_must (refine wpl_execG (.string Sv) rfl (exec_ldx (.string Sv) (Mem.cell hm 0 rfl 0) rfl ag_str) ?_))
    | ((with_reducible refine at_opG (some 19) (.slice 9 (.tmp 16) none (some (.tmp 18)) none) (some (8, false)) ?_); go_must (refine wpl_execG (.string T) rfl (exec_shiS Sv T Pv.size (HL.out ()) (HT.out ()) rfl rfl) ?_))
    | ((with_reducible refine at_opG (some 21) (.binOp .neq 9 (.tmp 19) (.tmp 20) 9) (some (8, false)) ?_); go_must (refine wpl_execG (.bool true) rfl (exec_neB T Pv false rfl rfl (HE.out ())) ?_))
    | ((with_reducible refine at_op none (.store 4 (.tmp 25) (.const (.bool true))) ?_); go_must (refine wpl_stc 0 2 (.bool true) hm rfl rfl rfl sz_bool (by show 2 < 3; omega) rfl rfl ?_); clear hm; intro w2 hm))
  refine bodyPost_ret (results_none rfl _ _ _) rfl ?_
  exact ⟨rfl, hm.get 0 rfl, hm.toUpd⟩
set_option maxRecDepth 100000 in
theorem take_no (Sv Pv : ByteArray) (n : Int) (b : Bool) (g : Nat) (w : World) (hz : Sv.size ≤ 100000) (h : Lib.hasPrefix (bs Sv) (bs Pv) = false) (hr : Row w g [.string Sv, .int .i64 n, .bool b] 63) :
    Calls Tryd.prog 48 #[.pointer (some ⟨g, 0, none⟩), .string Pv] w fun e w' => e = .returned (.tuple #[]) ∧ Row w' g [.string Sv, .int .i64 n, .bool true] 63 ∧ Upd g w w' := by
  by_cases hl : Sv.size < Pv.size
  · exact take_short Sv Pv n b g w hz hl hr
  · exact take_not Sv Pv n b g w hz (by omega) h hr
end Go.Proofs.YtbphmcbflnaenaaDoor
