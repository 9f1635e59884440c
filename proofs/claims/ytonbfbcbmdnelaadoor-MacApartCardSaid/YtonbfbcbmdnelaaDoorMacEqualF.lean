/- The contract of Equal. -/
import Derived.Test.YtonbfbcbmdnelaaDoorMacCode
namespace Go.Proofs.YtonbfbcbmdnelaaDoor
open Go Go.RowKit

theorem eg_b32 : Tryd.prog.eqGuardType Tryd.prog.depth 23 = false := by kernel_rfl
theorem zeros_iff (l : List Int) (n : Nat) (h : l.length = n) : l = List.replicate n 0 ↔ ∀ j, j < n → l.getD j 0 = 0 := by
  constructor
  · intro e j hj
    rw [e]
    simp [hj]
  · intro hz
    apply List.ext_getElem
    · simp [h]
    · intro j h1 h2
      have := hz j (by omega)
      simpa [h1] using this
theorem take_snoc_iff (xs ys : List Int) (k : Nat) (h1 : k < xs.length) (h2 : k < ys.length) : xs.take (k + 1) = ys.take (k + 1) ↔ xs.take k = ys.take k ∧ xs.getD k 0 = ys.getD k 0 := by
  rw [List.take_succ_eq_append_getElem h1, List.take_succ_eq_append_getElem h2]
  have e1 : xs.getD k 0 = xs[k] := by simp [h1]
  have e2 : ys.getD k 0 = ys[k] := by simp [h2]
  rw [e1, e2]
  constructor
  · intro h
    obtain ⟨h3, h4⟩ := List.append_inj h (by simp; omega)
    exact ⟨h3, by simpa using h4⟩
  · rintro ⟨h3, h4⟩
    rw [h3, h4]
theorem acc_step (xs ys u : List Int) (k r : Nat) (h1 : k < xs.length) (h2 : k < ys.length) (hba : Bytes xs) (hbb : Bytes ys) (hu : Bytes u) (hul : u.length = 32) (hr : r < 32) (hiff : u = List.replicate 32 0 ↔ xs.take k = ys.take k) :
    u.set r (bits .or .u8 (u.getD r 0) (bits .xor .u8 (xs.getD k 0) (ys.getD k 0))) = List.replicate 32 0 ↔ xs.take (k + 1) = ys.take (k + 1) := by
  have hx := xor_byte (hba.get k) (hbb.get k)
  have hur := hu.get r
  rw [take_snoc_iff xs ys k h1 h2, ← hiff, zeros_iff _ 32 (by simp [hul]), zeros_iff u 32 hul, ← xor_nought (hba.get k) (hbb.get k)]
  constructor
  · intro h
    have h0 := h r hr
    rw [show (u.set r (bits .or .u8 (u.getD r 0) (bits .xor .u8 (xs.getD k 0) (ys.getD k 0)))).getD r 0 = bits .or .u8 (u.getD r 0) (bits .xor .u8 (xs.getD k 0) (ys.getD k 0)) by simp [hul, hr]] at h0
    have h3 := (or_nought hur hx).1 h0
    refine ⟨fun j hj => ?_, h3.2⟩
    by_cases hjr : j = r
    · rw [hjr]; exact h3.1
    · have := h j hj
      rwa [show (u.set r (bits .or .u8 (u.getD r 0) (bits .xor .u8 (xs.getD k 0) (ys.getD k 0)))).getD j 0 = u.getD j 0 by simp [Ne.symm hjr]] at this
  · rintro ⟨h, h3⟩ j hj
    by_cases hjr : j = r
    · subst hjr
      rw [show (u.set j (bits .or .u8 (u.getD j 0) (bits .xor .u8 (xs.getD k 0) (ys.getD k 0)))).getD j 0 = bits .or .u8 (u.getD j 0) (bits .xor .u8 (xs.getD k 0) (ys.getD k 0)) by simp [hul, hr]]
      exact (or_nought hur hx).2 ⟨h j hj, h3⟩
    · rw [show (u.set r (bits .or .u8 (u.getD r 0) (bits .xor .u8 (xs.getD k 0) (ys.getD k 0)))).getD j 0 = u.getD j 0 by simp [Ne.symm hjr]]
      exact h j hj
theorem wps_ldx {P : Program} {ops : Array Oper} {rest : List Oper} {a : Act} {w : World} {dst : Option Tmp} {typ : TypeId} {pos : String} {aft : Array Edge} {Q : Act → Prop} {ty : TypeId} {x : Operand} {b j : Nat} (v : Value) (hc : w.cell? ⟨b, j, none⟩ = some v) (hx : a.eval x = .pointer (some ⟨b, j, none⟩)) (ha : ∀ w, (isAgg ty).run P w = .ok false w)
    (h : wpStill P ops w Q rest (a.put dst v)) : wpStill P ops w Q ({ dst := dst, op := .load ty x, type := typ, pos := pos, after := aft, guard := none } :: rest) a := by
  have hld : (loadVar ty ⟨b, j, none⟩).run P w = .ok v w := by simp [loadVar, ha, go_sem, hc]
  refine wps_run rfl _ ?_ h
  unfold execOp
  simp only [hx, Instr.loadAt, Instr.sureAddr, Sem.run_bind, Sem.run_pure, Result.andThen_ok, hld]
set_option maxHeartbeats 800000 in
theorem equal_any (xs ys : List Int) (va vb : Value) (hba : Bytes xs) (hbb : Bytes ys) (hxl : xs.length ≤ 9223372036854775807) (w : World) (hva : SlOld w va xs) (hvb : SlOld w vb ys) :
    Calls Tryd.prog 14 #[va, vb] w fun e w' => e = .returned (.bool (decide (xs = ys))) ∧ Below w.heap.size w w' := by
  obtain ⟨pa, ca, rfl, hca⟩ := hva.len
  obtain ⟨pb, cb, rfl, hcb⟩ := hvb.len
  have hm := Mem.start w
  by_cases hll : xs.length = ys.length
  · have hq : ((xs.length : Int) == (ys.length : Int)) = true := beq_iff_eq.2 (by omega)
    have HPA : Hid (0 < xs.length → ∃ b off, pa = some ⟨b, off, none⟩ ∧ Seg w b off xs) := hva.src0.2.2
    have HPB : Hid (0 < ys.length → ∃ b off, pb = some ⟨b, off, none⟩ ∧ Seg w b off ys) := hvb.src0.2.2
    have HBA : Hid _ := hba
    have HBB : Hid _ := hbb
    clear hva hvb hba hbb
    go_enter Tryd.func14, Tryd.ntmps14
    go_wp2_with (first
      | ((with_reducible refine at_op (some 5) (.alloc 23) ?_); refine wpl_alloc _ zero_b32 hm ?_; clear hm; intro w1 g5 hm))

    go_loopw [14] (fun vi wr => ∃ (k : Nat) (u : List Int), k ≤ xs.length ∧ vi = .int .i64 k ∧ Hid (u.length = 32) ∧ Hid (Bytes u) ∧ Hid (u = List.replicate 32 0 ↔ xs.take k = ys.take k) ∧ Mem w [] wr [(g5, u8s u, 23)]) (fun vi _ => xs.length - (intOf vi).toNat)
    case atStart => exact ⟨0, List.replicate 32 0, by omega, rfl, (by show _ = _; simp), Bytes.zeros _, ⟨fun _ => rfl, fun _ => rfl⟩, hm⟩
    case round =>
      clear hm
      obtain ⟨k, u, hk, rfl, HUL, HUB, HIF, hm⟩ := hrel
      by_cases hlt : k < xs.length
      · obtain ⟨ba, oa, rfl, hsa⟩ := HPA.out (by omega)
        obtain ⟨bb, ob, rfl, hsb⟩ := HPB.out (by omega)
        have hki : (k : Int) < (xs.length : Int) := by omega
        have hki2 : (k : Int) < (ys.length : Int) := by omega
        have hxi : (xs.length : Int) ≤ 9223372036854775807 := by omega
        obtain ⟨r, hr⟩ : ∃ r, r = k % 32 := ⟨_, rfl⟩
        have hr32 : r < 32 := by omega
        have hri : (k : Int).tmod 32 = (r : Int) := by rw [Int.tmod_eq_emod_of_nonneg (by omega)]; omega
        have hr0 : (0 : Int) ≤ (r : Int) := by omega
        have hr1 : (r : Int) < 32 := by omega
        clear hr
        obtain ⟨x, hx⟩ : ∃ x, x = xs.getD k 0 := ⟨_, rfl⟩
        obtain ⟨y, hy⟩ : ∃ y, y = ys.getD k 0 := ⟨_, rfl⟩
        obtain ⟨z, hz⟩ : ∃ z, z = u.getD r 0 := ⟨_, rfl⟩
        have HXB : Hid (0 ≤ bits .xor .u8 x y ∧ bits .xor .u8 x y < 256) := by rw [hx, hy]; exact xor_byte (Bytes.get HBA.out k) (Bytes.get HBB.out k)
        have HZB : Hid (0 ≤ z ∧ z < 256) := by rw [hz]; exact Bytes.get HUB.out r
        have HST : Hid (u.set r (bits .or .u8 z (bits .xor .u8 x y)) = List.replicate 32 0 ↔ xs.take (k + 1) = ys.take (k + 1)) := by
          rw [hx, hy, hz]; exact acc_step xs ys u k r hlt (by omega) HBA.out HBB.out HUB.out HUL.out hr32 HIF.out
        have HCX : Hid (w.cell? ⟨ba, oa + k, none⟩ = some (.int .u8 x)) := by rw [hx]; exact hsa k hlt
        have HCY : Hid (w.cell? ⟨bb, ob + k, none⟩ = some (.int .u8 y)) := by rw [hy]; exact hsb k (by omega)
        have HCZ : Hid ((u8s u)[r]? = some (.int .u8 z)) := by rw [hz]; exact u8s_get u r (by rw [HUL.out]; exact hr32)
        have HLT : Hid (r < (u8s u).length) := by show _ < _; rw [u8s_length, HUL.out]; exact hr32
        clear hsa hsb hx hy hz
        go_wp2_with fail
        refine wp_tail 15 (by kernel_rfl) (by kernel_rfl) hm ?_
        clear hm
        intro w2 hm
        have HA2 : Hid (w2.cell? ⟨ba, oa + k, none⟩ = some (.int .u8 x)) := (hm.old (p := ⟨ba, oa + k, none⟩) (block_lt_of_cell HCX.out) (by simp)).trans HCX.out
        have HB2 : Hid (w2.cell? ⟨bb, ob + k, none⟩ = some (.int .u8 y)) := (hm.old (p := ⟨bb, ob + k, none⟩) (block_lt_of_cell HCY.out) (by simp)).trans HCY.out
        simp only [List.take_succ_cons, List.take_zero, List.drop_succ_cons, List.drop_zero]
        still_step
        still_step
        try rw [hri]
        still_step
        refine wps_ldr r (.int .u8 z) (hm.get 0 rfl) rfl ag_u8 HCZ.out ?_
        still_step
        still_step
        still_step
        refine wps_ldx (.int .u8 x) HA2.out rfl ag_u8 ?_
        still_step
        still_step
        still_step
        refine wps_ldx (.int .u8 y) HB2.out rfl ag_u8 ?_
        still_step
        still_step
        still_step
        refine wpStill_nil ?_
        go_wp2_with (first
          | ((with_reducible refine at_op none (.store 5 (.tmp 31) (.tmp 30)) ?_); refine wpl_stc 0 r (.int .u8 (bits .or .u8 z (bits .xor .u8 x y))) hm rfl (rfl) rfl sz_u8 (HLT.out) rfl rfl ?_; clear hm; intro w3 hm))

        rw [List.set_cons_zero, u8s_set] at hm
        go_roundw
        case rel => exact ⟨k + 1, _, by omega, by go_num, (by show _ = _; rw [List.length_set]; exact HUL.out), Bytes.set HUB.out r _ (or_byte HZB.out HXB.out), HST.out, hm⟩
        case measure => simp [intOf]; omega
      · have hkn : k = xs.length := by omega
        subst hkn
        have hni : ¬ (xs.length : Int) < (xs.length : Int) := by omega
        have HDE : Hid (decide (u = List.replicate 32 0) = decide (xs = ys)) := by
          show _ = _
          have h := HIF.out
          rw [List.take_of_length_le (Nat.le_refl _), List.take_of_length_le (by omega)] at h
          rw [Bool.eq_iff_iff, decide_eq_true_iff, decide_eq_true_iff]
          exact h
        have HUL2 : Hid ((u8s u).length = 32) := by show _ = _; rw [u8s_length]; exact HUL.out
        go_wp2_with (first
          | ((with_reducible refine at_op (some 33) (.load 23 (.tmp 5)) ?_); refine wpl_ldw 0 hm rfl rfl _ un_b32 rfl 32 sz_b32 (HUL2.out) ?_)
          | ((with_reducible refine at_op (some 34) (.build 23 #[]) ?_); refine wpl_build (pl := []) (u8s (List.replicate 32 0)) [] rfl (by kernel_rfl) ?_)
          | ((with_reducible refine at_op (some 35) (.binOp .eql 23 (.tmp 33) (.tmp 34) 23) ?_); refine wpl_execG (.bool (decide (xs = ys))) rfl (by rw [← HDE.out]; exact exec_eqa _ 32 .u8 u (List.replicate 32 0) rfl rfl un_b32 un_u8 sz_u8 eg_b32 HUL.out (by simp)) ?_))

        go_ret
        exact ⟨rfl, hm.below⟩
  · have hq : ((xs.length : Int) == (ys.length : Int)) = false := beq_eq_false_iff_ne.2 (by omega)
    have hne : decide (xs = ys) = false := decide_eq_false (fun h => hll (by rw [h]))
    clear hva hvb hba hbb hll
    rw [hne]
    clear hne
    go_enter Tryd.func14, Tryd.ntmps14
    go_wp2_with fail
    go_ret
    exact ⟨rfl, hm.below⟩
end Go.Proofs.YtonbfbcbmdnelaaDoor
