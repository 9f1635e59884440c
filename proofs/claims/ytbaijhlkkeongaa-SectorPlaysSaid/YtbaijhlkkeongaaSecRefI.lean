/- The contract of the document's Image. -/
import Derived.Test.YtbaijhlkkeongaaSecRefF
namespace Go.Proofs.Ytbaijhlkkeongaa
open Go Go.RowKit Go.Maps
set_option maxHeartbeats 2000000 in
set_option maxRecDepth 100000 in
theorem imageR_any (q a b c : Nat) (d : Dk) (hok : d.Ok) (w : World) (h : Rf w q a b c d) :
    Calls Try.prog 17 #[.pointer (some ⟨q, 0, none⟩)] w fun e w' => ∃ v, e = .returned v ∧ OwnB 5 w' w.heap.size v (flatK d.kept d.n) ∧ Below w.heap.size w w' := by
  have hm := Mem.start w
  obtain ⟨n, hn⟩ : ∃ n, n = d.n := ⟨_, rfl⟩
  have hn4 : n ≤ 4000 := by rw [hn]; exact hok.n
  obtain ⟨KP, hKP⟩ : ∃ f, f = d.kept := ⟨_, rfl⟩
  have HKL : Hid (∀ j, j < n → (KP j).length = 64) := fun j hj => by rw [hKP]; rw [hn] at hj; exact hok.kept j hj
  have HZ : Hid ((u8s zeroK).length = 64) := by show _ = _; rw [u8s_length]; exact zeroK_length
  have HR : Hid (Row w q (rrow a b c n d.steps d.left d.off) 51 ∧ Row w b (u8s (flatK KP n)) 53) := by
    rw [hn, hKP]
    exact ⟨h.row, h.kept⟩
  have HQ : Hid (∀ V, Mem w [] V [] → Row V q (rrow a b c n d.steps d.left d.off) 51) := fun V hV => Row.below' HR.out.1 hV.below
  rw [← hn, ← hKP]
  have HO : Hid (OwnB 5 w w.heap.size (.slice none 0 0) []) := OwnB.nil _ _ _
  clear h hok hn hKP
  go_enter Try.func17, Try.ntmps17
  go_wp2_with fail
  go_loopw [3, 4] (fun vb vk wr => ∃ k : Nat, k ≤ n ∧ vk = .int .i64 (k : Int) ∧ OwnB 5 wr w.heap.size vb (flatK KP k) ∧ Mem w [] wr []) (fun _ vk _ => n - (intOf vk).toNat)
  case atStart => exact ⟨0, by omega, rfl, HO.out, hm⟩
  case round =>
    clear HO hm
    obtain ⟨k, hk, rfl, ho, hm⟩ := hrel
    have HO : Hid (OwnB 5 wr w.heap.size u3 (flatK KP k)) := ho
    clear ho
    by_cases hlt : k < n
    · have hlt2 : (k : Int) < (n : Int) := by omega
      have HXL : Hid ((u8s (KP k)).length = 64) := by show _ = _; rw [u8s_length]; exact HKL.out k hlt
      go_wp2_with (first
        | ((with_reducible refine at_op (some 10) (.load 48 (.tmp 9)) ?_); go_must (refine wpl_ldr 1 (.slice (some ⟨b, 0, none⟩) n n) (HQ.out _ hm) rfl ag_rs rfl ?_))
        | ((with_reducible refine at_op (some 18) (.load 48 (.tmp 17)) ?_); go_must (refine wpl_ldr 1 (.slice (some ⟨b, 0, none⟩) n n) (HQ.out _ hm) rfl ag_rs rfl ?_))
        | ((with_reducible refine at_op (some 20) (.indexAddr 48 (.tmp 18) (.tmp 19)) ?_); go_must (refine wpl_execG (.pointer (some ⟨b, k * 64, none⟩)) rfl (exec_ixR k rfl rfl rfl hlt) ?_))
        | ((with_reducible refine at_op (some 21) (.load 53 (.tmp 20)) ?_); go_must (refine wpl_execG (.agg (u8s (KP k)).toArray) rfl (exec_ldR k (Row.below' HR.out.2 hm.below) HKL.out hlt rfl) ?_))
        | ((with_reducible refine at_op (some 5) (.alloc 53) ?_); go_must (refine wpl_alloc _ zero_b64 (Mem.start _) ?_); intro w2 r hq; have HO' := OwnB.below HO.out hq.below; have hm' := hm.callNew hq.below (hq.get 0 rfl) (by have := hq.fresh _ (List.mem_cons_self ..); simpa using this); clear hm HO hq; have hm := hm'; have HO : Hid (OwnB 5 w2 w.heap.size u3 (flatK KP k)) := HO'; clear hm' HO')
        | ((with_reducible refine at_op none (.store 53 (.tmp 5) (.tmp 21)) ?_); go_must (refine wpl_stw 0 (u8s (KP k)) (Mem.enter (hm.get 0 rfl)) rfl rfl rfl 64 sz_b64 HZ.out HXL.out (u8s_one _) ?_); intro w3 hq; have HO' := OwnB.upd HO.out (hm.get 0 rfl) (by decide) hq.toUpd; have hm' := hm.upd 0 rfl hq.toUpd (hq.get 0 rfl); clear hm HO hq; have hm := hm'; have HO : Hid (OwnB 5 w3 w.heap.size u3 (flatK KP k)) := HO'; clear hm' HO')
        | ((with_reducible refine at_op (some 23) (.slice 53 (.tmp 5) none none none) ?_); refine wpl_sla 64 un_b64 sz_u8 0 64 (by omega) (by omega) rfl (Or.inr ⟨rfl, rfl⟩) (Or.inr ⟨rfl, rfl⟩) ?_)
        | ((with_reducible refine at_op (some 24) (.call { callee := .builtin .append, args := #[.tmp 22, .tmp 23], argTypes := #[28, 28] }) ?_); go_must (refine wpl_app rfl un_bs made_u8 (KP k) hm HO.out (by intro r hr; simp only [List.mem_cons, List.not_mem_nil, or_false, List.set_cons_zero] at hr; subst hr; simp) rfl rfl (by rw [HKL.out k hlt]) (fun _ => ⟨r, 0, rfl, Seg.row (hm.get 0 rfl)⟩) (by rw [HKL.out k hlt, flatK_length _ _ (fun i hi => HKL.out i (by omega))]; omega) ?_); intro v4 w4 ho4 hm4; have HO4 : Hid (OwnB 5 w4 w.heap.size v4 (flatK KP (k + 1))) := ho4; replace hm := hm4.tail; clear ho4 hm4 HO))
      go_roundw
      case rel => exact ⟨k + 1, by omega, by go_num, HO4.out, hm⟩
      case measure => simp [intOf]; omega
    · have hk2 : ¬ ((k : Int) < (n : Int)) := by omega
      have hkn : k = n := by omega
      have HOF : Hid (OwnB 5 wr w.heap.size u3 (flatK KP n)) := by rw [← hkn]; exact HO.out
      clear hkn HO
      go_wp2_with (first
        | ((with_reducible refine at_op (some 10) (.load 48 (.tmp 9)) ?_); go_must (refine wpl_ldr 1 (.slice (some ⟨b, 0, none⟩) n n) (HQ.out _ hm) rfl ag_rs rfl ?_)))
      go_ret
      exact ⟨_, rfl, HOF.out, hm.below⟩
end Go.Proofs.Ytbaijhlkkeongaa
