/- Package node: kidsOf. -/
import Derived.Test.YtnahflppggoplaaNdBits
import Derived.Test.YtnahflppggoplaaNdSl
namespace Go.Proofs.Ytnahflppggoplaa
open Go Go.RowKit
set_option maxRecDepth 100000 in
theorem ed_num {cs : List Int} (h : 4 ≤ cs.length) (hb : Bytes cs) : edOf cs = numL (cs.take 4) := by
  obtain ⟨a0, a1⟩ := Bytes.get hb 0
  obtain ⟨b0, b1⟩ := Bytes.get hb 1
  obtain ⟨c0, c1⟩ := Bytes.get hb 2
  obtain ⟨d0, d1⟩ := Bytes.get hb 3
  have e : cs.take 4 = [cs.getD 0 0, cs.getD 1 0, cs.getD 2 0, cs.getD 3 0] := by
    match cs, h with
    | x0 :: x1 :: x2 :: x3 :: r, _ => rfl
  rw [e]
  unfold edOf big4
  generalize cs.getD 0 0 = a at *
  generalize cs.getD 1 0 = b at *
  generalize cs.getD 2 0 = c at *
  generalize cs.getD 3 0 = d at *
  have or_join : ∀ (i : Nat) (x y : Int), 0 ≤ x → x < 4294967296 → 0 ≤ y → x.toNat % 2 ^ i = 0 → y.toNat < 2 ^ i → i ≤ 32 → Go.bits .or .u32 x y = x + y := by
    intro i x y hx0 hx1 hy0 hm hy hi
    have h32 : 2 ^ i ≤ 2 ^ 32 := Nat.pow_le_pow_right (by omega) hi
    rw [u32_or x y hx0 hx1 hy0 (by omega), nat_join i _ _ hm hy]
    omega
  rw [or_join 24 (a * 16777216) (b * 65536) (by omega) (by omega) (by omega) (by omega) (by omega) (by omega), or_join 16 _ (c * 256) (by omega) (by omega) (by omega) (by omega) (by omega) (by omega), or_join 8 _ d (by omega) (by omega) (by omega) (by omega) (by omega) (by omega)]
  simp only [numL, List.foldl_cons, List.foldl_nil]
  omega
set_option maxHeartbeats 1000000 in
set_option maxRecDepth 100000 in
theorem kidsOf_any (cs : List Int) (v : Value) (hNl : cs.length ≤ 30000) (hcb : Bytes cs) (w : World) (hv : SlOld w v cs) :
    Calls Try.prog 22 #[v] w fun e w' => ∃ v', e = .returned v' ∧ SlU w' v' (kidsL cs (cs.length / 4)) ∧ Below w.heap.size w w' := by
  obtain ⟨p, cap, rfl, hcap⟩ := hv.len
  have HV : Hid (SlOld w (.slice p cs.length cap) cs) := hv
  have HB : Hid (Bytes cs) := hcb
  obtain ⟨N, hN⟩ : ∃ N, N = cs.length := ⟨_, rfl⟩
  have HN : Hid (cs.length = N) := hN.symm
  rw [← hN] at hNl hcap HV ⊢
  obtain ⟨q, hq⟩ : ∃ q, q = N / 4 := ⟨_, rfl⟩
  have hq4 : 4 * q ≤ N := by omega
  have hq5 : N < 4 * q + 4 := by omega
  rw [← hq]
  clear hv hcb hN hq
  go_enter Try.func22, Try.ntmps22
  go_wp2_with fail
  go_loopw [0, 3] (fun vb vk wr => ∃ k M c : Nat, ∃ pk : Option Addr, k ≤ q ∧ vb = .slice pk M c ∧ M + 4 * k = N ∧ Hid (SlOld w (.slice pk M c) (cs.drop (4 * k))) ∧ Hid (wr.ownsRow w.heap.size 43 1 vk k (u32s (kidsL cs k))) ∧ Hid (Below w.heap.size w wr)) (fun vb _ _ => (slLen vb))
  case atStart => exact ⟨0, N, cap, p, by omega, rfl, rfl, HV.out, World.ownsRow_nil _ _ _ _, Below.refl _ _⟩
  case round =>
    obtain ⟨k, M, c, pk, hk, rfl, hM, HS, HO, HW⟩ := hrel
    by_cases hlt : 4 ≤ M
    · have hki : (M : Int) ≥ 4 := by omega
      have HS2 : Hid (SlOld wr (.slice pk M c) (cs.drop (4 * k))) := SlOld.below HS.out HW.out
      have hdl : (cs.drop (4 * k)).length = M := by rw [List.length_drop, HN.out]; omega
      have HBD : Hid (Bytes (cs.drop (4 * k))) := Bytes.drop HB.out _
      have HED : Hid (edOf (cs.drop (4 * k)) = numL ((cs.drop (4 * k)).take 4)) := ed_num (by omega) HBD.out
      have HDL : Hid (4 ≤ (cs.drop (4 * k)).length) := by show _ ≤ _; omega
      obtain ⟨x, hx⟩ : ∃ x, x = numL ((cs.drop (4 * k)).take 4) := ⟨_, rfl⟩
      have HKL : Hid (u32s (kidsL cs (k + 1)) = u32s (kidsL cs k) ++ [.int .u32 x]) := by
        show _ = _
        rw [kidsL, hx]; simp [u32s]
      rw [← hx] at HED
      have HSD : Hid (SlOld w (.slice (cutLo pk c 4) (M - 4) (c - 4)) (cs.drop (4 * (k + 1)))) := by
        have h9 := old_lo HS.out 4 hlt
        rw [List.drop_drop, show 4 * k + 4 = 4 * (k + 1) by omega] at h9
        exact h9
      have hm := Mem.start wr
      have hk3 : k ≤ 100000 := by omega
      clear hdl hx HS
      go_wp2_with (first
        | (go_at_call 38; refine (bigN_any (cs.drop (4 * k)) _ HDL.out HBD.out _ HS2.out).mono ?_; rintro e w1 ⟨he, hb⟩; rw [HED.out] at he; subst he; replace hm := hm.call hb; clear hb)
        | ((with_reducible refine at_op (some 12) (.buildSlice 31 1 #[(0, .tmp 11)]) ?_); go_must (refine wpl_bsl1 rfl (.int .u32 0) (.int .u32 x) un_u32s info_u32 rfl rfl rfl hm ?_); clear hm; intro w2 g2 hb2 hm; clear hb2)
        | ((with_reducible refine at_op (some 13) (.call { callee := .builtin .append, args := #[.tmp 9, .tmp 12], argTypes := #[31, 31] }) ?_); go_must (refine wpl_appV (.int .u32 0) 1 4 rfl un_u32s made_u32 rfl (by omega) (by omega) (own_below HO.out hm.below) (Nat.le_trans HW.out.size hm.size) rfl rfl (hm.get 0 rfl) rfl (by simp [Value.oneCell']) hk3 ?_); intro v3 w3 ho3 hg3 hl3; have HO3 : Hid (w3.ownsRow w.heap.size 43 1 v3 (k + 1) (u32s (kidsL cs k) ++ [.int .u32 x])) := ho3; have HW3 : Hid (Below w.heap.size w w3) := below_grown (below_next HW.out HW.out.size hm.below) (Nat.le_trans HW.out.size hm.size) (own_below HO.out hm.below) hg3; clear ho3 hg3 hl3 hm)
        | ((with_reducible refine at_op (some 8) (.slice 22 (.tmp 7) (some (.const (.int .i64 4))) none none) ?_); go_must (refine wpl_execG (.slice (cutLo pk c 4) (M - 4) (c - 4)) rfl (exec_sLo un_bs sz_u8 4 hlt rfl rfl rfl) ?_)))
      go_roundw
      case rel => exact ⟨k + 1, M - 4, c - 4, cutLo pk c 4, by omega, rfl, by omega, HSD.out, by show World.ownsRow _ _ _ _ _ _ _; rw [HKL.out]; exact HO3.out, HW3.out⟩
      case measure => simp [slLen]; omega
    · have hni : ¬ ((M : Int) ≥ 4) := by omega
      have hkq : k = q := by omega
      go_wp2_with fail
      go_ret
      exact ⟨_, rfl, by unfold SlU; rw [kidsL_length, ← hkq]; exact own_sl HO.out, HW.out⟩
end Go.Proofs.Ytnahflppggoplaa
