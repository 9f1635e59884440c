/- Package node: put, head. -/
import Derived.Test.YtnahflppggoplaaNdText
import Derived.Test.YtnahflppggoplaaNdSl
namespace Go.Proofs.Ytnahflppggoplaa
open Go Go.RowKit
set_option maxHeartbeats 1000000 in
set_option maxRecDepth 100000 in
theorem put_any (g o len len' c : Nat) (ds cs : List Int) (v : Value) (hlen : len = c + len') (hc : cs.length = c) (h0 : 0 < c) (ho : 0 < len → o = ds.length) (w : World) (hr : Row w g (u8s (ds ++ List.replicate len 0)) 5) (hv : SlOld w v cs) :
    Calls Try.prog 25 #[.slice (some ⟨g, o, none⟩) len len, v] w fun e w' => ∃ o', e = .returned (.slice (some ⟨g, o', none⟩) len' len') ∧ (0 < len' → o' = (ds ++ cs).length) ∧ Row w' g (u8s ((ds ++ cs) ++ List.replicate len' 0)) 5 ∧ Upd g w w' := by
  obtain ⟨p, cap, rfl, hcap⟩ := hv.len
  have hod := ho (by omega)
  have HV : Hid (SlOld w (.slice p cs.length cap) cs) := hv
  rw [hc] at hcap HV ⊢
  have hm := Mem.enter hr
  have HMI : Hid (c = Nat.min c len) := (Nat.min_eq_left (by omega)).symm
  have HFIT : Hid (o + c ≤ (u8s (ds ++ List.replicate len 0)).length) := by show _ ≤ _; rw [u8s_length, hod]; simp; omega
  have HNEW : Hid (splice (u8s (ds ++ List.replicate len 0)) o (u8s (cs.take c)) = u8s ((ds ++ cs) ++ List.replicate len' 0)) := by
    show _ = _
    rw [List.take_of_length_le (by omega), hod]
    unfold splice u8s
    rw [← List.map_take, ← List.map_drop, ← List.map_append, ← List.map_append]
    congr 1
    rw [List.take_left, List.append_assoc, List.length_map, hc]
    congr 2
    rw [List.drop_append, List.drop_of_length_le (by omega), List.nil_append, List.drop_replicate]
    congr 1
    omega
  have HDL : Hid (o + c = (ds ++ cs).length) := by show _ = _; rw [List.length_append, hc, hod]
  have HLL : Hid (len - c = len') := by show _ = _; omega
  have hcl : c ≤ len := by omega
  clear hv hr ho hod hlen hc
  go_enter Try.func25, Try.ntmps25
  go_wp2_with (first
    | ((with_reducible refine at_op (some 8) (.call { callee := .builtin .copy, args := #[.tmp 6, .tmp 7], argTypes := #[22, 22] }) ?_); go_must (refine wpl_cp 0 cs c (u8s ((ds ++ cs) ++ List.replicate len' 0)) hm rfl rfl rfl _ un_bs sz_u8 HV.out HMI.out HFIT.out HNEW.out ?_); clear hm; intro w2 hm)
    | ((with_reducible refine at_op (some 9) (.slice 22 (.tmp 5) (some (.tmp 8)) none none) ?_); go_must (refine wpl_execG (.slice (cutLo (some ⟨g, o, none⟩) len c) len' len') rfl (HLL.out ▸ exec_sLo un_bs sz_u8 c hcl rfl rfl rfl) ?_)))
  go_ret
  by_cases h1 : len = c
  · refine ⟨o, ?_, fun h => absurd h (by have := HLL.out; omega), hm.get 0 rfl, hm.toUpd⟩
    simp [cutLo, h1]
  · refine ⟨o + c, ?_, fun _ => HDL.out, hm.get 0 rfl, hm.toUpd⟩
    simp [cutLo, h1, add_at]
set_option maxHeartbeats 1000000 in
set_option maxRecDepth 100000 in
theorem head_any (kd : Int) (n : Nat) (hn : n ≤ 65535) (w : World) :
    Calls Try.prog 26 #[.int .u8 kd, .int .i64 (n : Int)] w fun e w' => ∃ g, e = .returned (.slice (some ⟨g, 0, none⟩) 3 3) ∧ w.heap.size ≤ g ∧ Row w' g (u8s ([kd] ++ be2 n)) 5 ∧ Below w.heap.size w w' := by
  have hm := Mem.start w
  have HW : IntKind.u64.wrap (n : Int) = (n : Int) := wrapU_of n (by omega)
  go_enter Try.func26, Try.ntmps26
  go_wp2_with (first
    | ((with_reducible refine at_op (some 6) (.buildSlice 22 1 #[(0, .tmp 5)]) ?_); go_must (refine wpl_bsl1 rfl (.int .u8 0) (.int .u8 kd) un_bs info_u8 rfl rfl rfl hm ?_); clear hm; intro w1 g1 hb1 hm; clear hb1)
    | (go_at_call 30; refine (put_two [kd] _ n (by simp) _ (old_all (hm.get 0 rfl) rfl (Nat.le_refl _))).mono ?_; rintro e w2 ⟨g, rfl, hge, hr, hb⟩; have HGE : Hid (w.heap.size ≤ g) := Nat.le_trans hm.size hge; have HR : Hid (Row w2 g (u8s ([kd] ++ be2 n)) 5) := hr; replace hm := hm.call hb; clear hge hr hb))
  go_ret
  exact ⟨g, rfl, HGE.out, HR.out, hm.below⟩
end Go.Proofs.Ytnahflppggoplaa
