/- The contract of Image. -/
import Derived.Test.YtbaijhlkkeongaaSecOwn
namespace Go.Proofs.Ytbaijhlkkeongaa
open Go Go.RowKit Go.Maps

section
variable {P : Program} {ops : Array Oper} {rest : List Oper} {a : Act} {w w0 : World} {Q : Exit → Act → World → Prop} {dst : Option Tmp} {typ : TypeId} {pos : String} {aft : Array Edge} {gd : Option (Nat × Bool)} {S : List Nat} {rows : List (Nat × List Value × TypeId)}
set_option maxRecDepth 100000 in
theorem own_row {e : TypeId} {base g : Nat} {zs : List Int} (hr : Row w g (u8s zs) e) (hb : base ≤ g) (hl : zs.length ≤ 1000000) : OwnB e w base (.slice (some ⟨g, 0, none⟩) zs.length zs.length) zs := by
  refine ⟨by rw [u8s_length, Nat.mul_one], Or.inr ⟨g, zs.length, (u8s zs).toArray, rfl, hb, hr, Nat.le_refl _, by unfold maxLen; omega, by simp [u8s_length], ?_⟩⟩
  rw [Nat.mul_one]
  exact List.take_of_length_le (by rw [u8s_length]; exact Nat.le_refl _)
set_option maxRecDepth 100000 in
theorem own_empty {e : TypeId} {base g n : Nat} (hr : Row w g (List.replicate n (.int .u8 0)) e) (hb : base ≤ g) (hl : n ≤ 1000000) : OwnB e w base (.slice (some ⟨g, 0, none⟩) 0 n) [] :=
  ⟨by simp [u8s], Or.inr ⟨g, n, (List.replicate n (Value.int .u8 0)).toArray, rfl, hb, hr, Nat.zero_le _, by unfold maxLen; omega, by simp, by simp [u8s]⟩⟩
set_option maxRecDepth 100000 in
theorem wpl_makeE {ty : TypeId} {x y : Operand} (elem : TypeId) (hu : P.underlying ty = some (.slice elem)) (z : Value) (hi : (P.info? elem).map (fun i => (i.zero, i.size, i.bytes)) = some (some z, 1, 1)) (hz : z.cells = #[z]) (n : Nat) {j : Int} (hx : a.eval x = .int .i64 0) (hy : a.eval y = .int .i64 j) (hyj : j = (n : Int)) (hn : n ≤ 1000000) (hm : Mem w0 S w rows)
    (h : ∀ w' g, Mem w0 S w' ((g, List.replicate n z, elem) :: rows) → wpList P ops Q rest (a.put dst (.slice (some ⟨g, 0, none⟩) 0 n)) w') :
    wpList P ops Q ({ dst := dst, op := .makeSlice ty x y, type := typ, pos := pos, after := aft, guard := none } :: rest) a w := by
  subst hyj
  refine wpList_plain rfl fun K hK => ?_
  have hh := hK _ _ (h _ _ (hm.alloc (List.replicate n z) elem))
  have hr : (Instr.makeSlice ty (.int .i64 0) (.int .i64 (n : Int))).run P w = .ok (.slice (some ⟨w.heap.size, 0, none⟩) 0 n) (w.alloc (.cells (List.replicate n z).toArray elem)) := by
    cases hq : P.info? elem with
    | none => simp [hq] at hi
    | some q =>
      simp only [hq, Option.map_some, Option.some.injEq, Prod.mk.injEq] at hi
      obtain ⟨h0, h1, h2⟩ := hi
      have := run_makeSlice (P := P) w ty elem q z hu hq h0 .i64 .i64 0 (n : Int) (by omega) (by omega) (by rw [h1]; simp; omega) (by rw [h2]; simp; omega) (by omega)
      rw [this, h1, hz]
      have e : madeCells #[z] ((n : Int).toNat * 1) = (List.replicate n z).toArray := by
        unfold madeCells
        apply Array.ext
        · simp
        · intro k h1 h2
          simp [Nat.mod_one]
      rw [e]
      simp
  unfold Oper.wp execOp
  simp only [hx, hy, Sem.run_bind, Sem.run_pure, Result.andThen_ok, hr]
  exact hh
end
set_option maxHeartbeats 2000000 in
set_option maxRecDepth 100000 in
theorem image_any (g mb : Nat) (kv : Value) (d : Dk) (w : World) (hd : DkAt w g mb kv d) :
    Calls Try.prog 16 #[.pointer (some ⟨g, 0, none⟩)] w fun e w' => ∃ v, e = .returned v ∧ OwnB 5 w' w.heap.size v (flatK d.kept d.n) ∧ Below w.heap.size w w' := by
  have hm := Mem.start w
  have HD : Hid (DkAt w g mb kv d) := hd
  obtain ⟨p, cap, hk⟩ := hd.kept.slice
  have hn4 := hd.ok.n
  have HKE0 : Hid (∀ _ : Unit, kv = .slice p d.n cap) := fun _ => hk
  obtain ⟨n, hn⟩ : ∃ n, n = d.n := ⟨_, rfl⟩
  rw [← hn] at hn4 hk
  have HN : Hid (∀ _ : Unit, d.n = n) := fun _ => hn.symm
  have HKE : Hid (kv = .slice p n cap) := hk
  have HKL : Hid (∀ i, i < d.n → (d.kept i).length = 64) := hd.ok.kept
  have HZ : Hid ((u8s zeroK).length = 64) := by show _ = _; rw [u8s_length]; exact zeroK_length
  rw [← hn]
  clear hd hk hn
  have hmul : ((n : Int) * 64) = ((n * 64 : Nat) : Int) := by omega
  have HMU : Hid (∀ _ : Unit, ((n : Int) * 64) = ((n * 64 : Nat) : Int)) := fun _ => hmul
  clear hmul
  go_enter Try.func16, Try.ntmps16
  go_wp2_with (first
    | ((with_reducible refine at_op (some 9) (.load 44 (.tmp 8)) ?_); go_must (refine wpl_ldr 0 (.slice p n cap) (DkAt.row (HD.out.mem hm)) rfl ag_cons (by rw [← HKE.out]; rfl) ?_))
    | ((with_reducible refine at_op (some 12) (.makeSlice 28 (.const (.int .i64 0)) (.tmp 11)) ?_); go_must (refine wpl_makeE _ un_bs (.int .u8 0) made_u8 rfl (n * 64) rfl rfl (HMU.out ()) (by omega) (Mem.start _) ?_); intro w1 qi hq; have HO' := own_empty (base := w.heap.size) (hq.get 0 rfl) (by have := hq.fresh _ (List.mem_cons_self ..); simp at this; have := hm.size; omega) (by omega); replace hm := hm.call hq.below; clear hq; have HO : Hid (OwnB 5 w1 w.heap.size (.slice (some ⟨qi, 0, none⟩) 0 (n * 64)) []) := HO'; clear HO')
    | ((with_reducible refine at_op (some 16) (.load 44 (.tmp 15)) ?_); go_must (refine wpl_ldr 0 (.slice p n cap) (DkAt.row (HD.out.mem hm)) rfl ag_cons (by rw [← HKE.out]; rfl) ?_)))
  go_loopw [3, 18] (fun vb vk wr => ∃ k : Nat, k ≤ n ∧ vk = .int .i64 (k : Int) ∧ OwnB 5 wr w.heap.size vb (flatK d.kept k) ∧ Mem w [] wr []) (fun _ vk _ => n - (intOf vk).toNat)
  case atStart => exact ⟨0, by omega, rfl, HO.out, hm⟩
  case round =>
    clear HO hm
    obtain ⟨k, hk, rfl, ho, hm⟩ := hrel
    have HO : Hid (OwnB 5 wr w.heap.size u3 (flatK d.kept k)) := ho
    clear ho
    by_cases hlt : k < n
    · have hlt2 : (k : Int) < (n : Int) := by omega
      have HLT : Hid (k < d.n) := by show k < d.n; rw [HN.out ()]; exact hlt
      obtain ⟨kb, cap', tl, hkv, hcap, hrk⟩ := HD.out.kept.some (by have := HLT.out; omega)
      have HRK : Hid (Row w kb (u8s (flatK d.kept d.n) ++ tl) 54) := hrk
      have hp : p = some ⟨kb, 0, none⟩ := by
        have h := HKE.out.symm.trans hkv
        simp only [Value.slice.injEq] at h
        exact h.1
      subst hp
      have HXL : Hid ((u8s (d.kept k)).length = 64) := by show _ = _; rw [u8s_length]; exact HKL.out k HLT.out
      clear hkv hcap hrk
      go_wp2_with (first
        | ((with_reducible refine at_op (some 20) (.indexAddr 44 (.tmp 16) (.tmp 18)) ?_); go_must (refine wpl_execG (.pointer (some ⟨kb, k * 64, none⟩)) rfl (exec_ixK k rfl rfl rfl hlt) ?_))
        | ((with_reducible refine at_op (some 21) (.load 54 (.tmp 20)) ?_); go_must (refine wpl_execG (.agg (u8s (d.kept k)).toArray) rfl (exec_ldK k (Row.below' HRK.out hm.below) HKL.out HLT.out rfl) ?_))
        | ((with_reducible refine at_op (some 5) (.alloc 54) ?_); go_must (refine wpl_alloc _ zero_con (Mem.start _) ?_); intro w2 q hq; have HO' := OwnB.below HO.out hq.below; have hm' := hm.callNew hq.below (hq.get 0 rfl) (by have := hq.fresh _ (List.mem_cons_self ..); simpa using this); clear hm HO hq; have hm := hm'; have HO : Hid (OwnB 5 w2 w.heap.size u3 (flatK d.kept k)) := HO'; clear hm' HO')
        | ((with_reducible refine at_op none (.store 54 (.tmp 5) (.tmp 21)) ?_); go_must (refine wpl_stw 0 (u8s (d.kept k)) (Mem.enter (hm.get 0 rfl)) rfl rfl rfl 64 sz_con HZ.out HXL.out (u8s_one _) ?_); intro w3 hq; have HO' := OwnB.upd HO.out (hm.get 0 rfl) (by decide) hq.toUpd; have hm' := hm.upd 0 rfl hq.toUpd (hq.get 0 rfl); clear hm HO hq; have hm := hm'; have HO : Hid (OwnB 5 w3 w.heap.size u3 (flatK d.kept k)) := HO'; clear hm' HO')
        | ((with_reducible refine at_op (some 23) (.slice 54 (.tmp 5) none none none) ?_); refine wpl_sla 64 un_con sz_u8 0 64 (by omega) (by omega) rfl (Or.inr ⟨rfl, rfl⟩) (Or.inr ⟨rfl, rfl⟩) ?_)
        | ((with_reducible refine at_op (some 24) (.call { callee := .builtin .append, args := #[.tmp 22, .tmp 23], argTypes := #[28, 28] }) ?_); go_must (refine wpl_app rfl un_bs made_u8 (d.kept k) hm HO.out (by intro r hr; simp only [List.mem_cons, List.not_mem_nil, or_false, List.set_cons_zero] at hr; subst hr; simp) rfl rfl (by rw [HKL.out k HLT.out]) (fun _ => ⟨q, 0, rfl, Seg.row (hm.get 0 rfl)⟩) (by rw [HKL.out k HLT.out, flatK_length _ _ (fun i hi => HKL.out i (by have := HLT.out; omega))]; omega) ?_); intro v4 w4 ho4 hm4; have HO4 : Hid (OwnB 5 w4 w.heap.size v4 (flatK d.kept (k + 1))) := ho4; replace hm := hm4.tail; clear ho4 hm4 HO))
      go_roundw
      case rel => exact ⟨k + 1, by omega, by go_num, HO4.out, hm⟩
      case measure => simp [intOf]; omega
    · have hk2 : ¬ ((k : Int) < (n : Int)) := by omega
      have hkn : k = n := by omega
      have HOF : Hid (OwnB 5 wr w.heap.size u3 (flatK d.kept n)) := by rw [← hkn]; exact HO.out
      clear hkn HO
      go_wp2_with fail
      go_ret
      exact ⟨_, rfl, HOF.out, hm.below⟩
end Go.Proofs.Ytbaijhlkkeongaa
