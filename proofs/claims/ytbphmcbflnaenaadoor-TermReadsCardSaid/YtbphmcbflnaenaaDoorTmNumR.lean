/- The document's reader of terms: its numbers. -/
import Derived.Test.YtbphmcbflnaenaaDoorTmReadR
namespace Go.Proofs.YtbphmcbflnaenaaDoor
open Go Go.RowKit
/-- As many digits as are read, and where the reading stops. -/
structure Kk (S : List UInt8) (m : Nat) : Prop where
  two : m ≤ 2
  dig : ∀ i, i < m → ∃ c, S[i]? = some c ∧ 48 ≤ c.toNat ∧ c.toNat ≤ 57
  stop : S.length = m ∨ m = 2 ∨ ∃ c, S[m]? = some c ∧ (c.toNat < 48 ∨ 57 < c.toNat)
set_option maxRecDepth 100000 in
theorem kk_of (S : List UInt8) : Kk S ((ldg S).take 2).length := by
  match S with
  | [] => exact ⟨by simp [ldg], fun i hi => absurd hi (by simp [ldg]), Or.inl rfl⟩
  | a :: r =>
    cases ha : isDig a with
    | false =>
      rw [noD_hd ha]
      refine ⟨by simp, fun i hi => absurd hi (by simp), Or.inr (Or.inr ⟨a, rfl, ?_⟩)⟩
      simp only [isDig, decide_eq_false_iff_not] at ha
      omega
    | true =>
      rw [ldg_cons ha]
      simp only [isDig, decide_eq_true_iff] at ha
      match r with
      | [] => exact ⟨by simp [ldg], fun i hi => by simp [ldg] at hi; subst hi; exact ⟨a, rfl, ha.1, ha.2⟩, Or.inl (by simp [ldg])⟩
      | b :: r =>
        cases hb : isDig b with
        | false =>
          rw [noD_hd hb]
          refine ⟨by simp, fun i hi => by simp at hi; subst hi; exact ⟨a, rfl, ha.1, ha.2⟩, Or.inr (Or.inr ⟨b, rfl, ?_⟩)⟩
          simp only [isDig, decide_eq_false_iff_not] at hb
          omega
        | true =>
          rw [ldg_cons hb]
          simp only [isDig, decide_eq_true_iff] at hb
          refine ⟨by simp, fun i hi => ?_, Or.inr (Or.inl (by simp))⟩
          have : i = 0 ∨ i = 1 := by simp at hi; omega
          rcases this with rfl | rfl
          · exact ⟨a, rfl, ha.1, ha.2⟩
          · exact ⟨b, rfl, hb.1, hb.2⟩
def nvD (D : List UInt8) : Int := D.foldl (fun n c => 10 * n + dv c) 0
set_option maxRecDepth 100000 in
theorem nvD_bound {D : List UInt8} (hl : D.length ≤ 2) (h : ∀ b ∈ D, isDig b = true) : 0 ≤ nvD D ∧ nvD D ≤ 99 := by
  match D, hl, h with
  | [], _, _ => exact ⟨by decide, by decide⟩
  | [a], _, h =>
    obtain ⟨_, h2, h3⟩ := dig_byte (h a (by simp))
    simp only [nvD, List.foldl, dv]; omega
  | [a, b], _, h =>
    obtain ⟨_, h2, h3⟩ := dig_byte (h a (by simp))
    obtain ⟨_, h5, h6⟩ := dig_byte (h b (by simp))
    simp only [nvD, List.foldl, dv]; omega
  | _ :: _ :: _ :: _, hl, _ => simp at hl
set_option maxRecDepth 100000 in
theorem nvD_num {D : List UInt8} {v : Int} (h : numV D = some v) : nvD D = v := by
  unfold numV at h
  split at h
  · simp only [Option.some.injEq] at h; subst h; first | rfl | simp [nvD]
  · split at h
    · cases h
    · simp only [Option.some.injEq] at h; subst h; first | rfl | simp [nvD]
  · cases h
set_option maxRecDepth 100000 in
theorem take2_of (S : List UInt8) : S.take ((ldg S).take 2).length = (ldg S).take 2 := by
  have h := ldg_take S
  rw [List.length_take]
  by_cases h2 : 2 ≤ (ldg S).length
  · rw [Nat.min_eq_left h2]
    have := congrArg (List.take 2) h
    rw [List.take_take, Nat.min_eq_left h2] at this
    exact this
  · rw [Nat.min_eq_right (by omega), List.take_of_length_le (l := ldg S) (by omega)]
    exact h
set_option maxRecDepth 100000 in
theorem nvD_snoc {D : List UInt8} {i : Nat} {c : UInt8} (h : D[i]? = some c) : nvD (D.take (i + 1)) = 10 * nvD (D.take i) + dv c := by
  rw [List.take_add_one, h]
  simp [nvD]
set_option maxHeartbeats 8000000 in
set_option maxRecDepth 100000 in
theorem numR_empty (Sv : ByteArray) (S : List UInt8) (hS : bs Sv = S) (n : Int) (b : Bool) (g : Nat) (w : World) (h0 : (ldg S).take 2 = []) (hr : Row w g [.string Sv, .int .i64 n, .bool b] 63) :
    Calls Tryd.prog 47 #[.pointer (some ⟨g, 0, none⟩)] w fun e w' => e = .returned (.int .i64 0) ∧ Row w' g [.string Sv, .int .i64 n, .bool true] 63 ∧ Upd g w w' := by
  have hm := Mem.enter hr
  have hmm : ((ldg S).take 2).length = 0 := by rw [h0]; rfl
  have hkk := kk_of S
  rw [hmm] at hkk
  have HKK : Hid (Kk S 0) := hkk
  have HSB : Hid (∀ _ : Unit, bs Sv = S) := fun _ => hS
  have HSL : Hid (∀ _ : Unit, S.length = Sv.size) := fun _ => by rw [← hS, bs_length]
  clear hr hkk
  clear h0 hmm hS
  go_enter Tryd.func47, Tryd.ntmps47
  go_wp2_with fail
  go_loopw [3] (fun vk wr => ∃ k : Nat, k ≤ 0 ∧ vk = .int .i64 (k : Int) ∧ Hid (Mem w [g] wr [(g, [.string Sv, .int .i64 n, .bool b], 63)])) (fun vk _ => 0 - (intOf vk).toNat)
  case atStart => exact ⟨0, by omega, rfl, hm⟩
  case round =>
    clear hm
    obtain ⟨k, hk, rfl, HMM⟩ := hrel
    have hm := HMM.out
    clear HMM
    by_cases hlt : k < 0
    · exact absurd hlt (by omega)
    · obtain rfl : k = 0 := by omega
      by_cases hs : Sv.size = 0
      · have hks : ¬ (0 : Int) < (Sv.size : Int) := by omega
        have hks2 : ¬ 0 < Sv.size := by omega
        clear hs hlt hk
        go_wp2_with (first
          | ((with_reducible refine at_op (some 10) (.load 9 (.tmp 9)) ?_); go_must (refine wpl_execG (.string Sv) rfl (exec_ldx (.string Sv) (Mem.cell hm 0 rfl 0) rfl ag_str) ?_))
          | ((with_reducible refine at_op none (.store 4 (.tmp 53) (.const (.bool true))) ?_); go_must (refine wpl_stc 0 2 (.bool true) hm rfl rfl rfl sz_bool (by show 2 < 3; omega) rfl rfl ?_); clear hm; intro w2 hm))
        go_ret
        exact ⟨rfl, hm.get 0 rfl, hm.toUpd⟩
      · obtain ⟨c, hc, hst⟩ : ∃ c, S[0]? = some c ∧ (c.toNat < 48 ∨ 57 < c.toNat) := by
          rcases HKK.out.stop with h | h | h
          · exact absurd ((HSL.out ()).symm.trans h) hs
          · omega
          · exact h
        have HC : Hid (∀ _ : Unit, (bs Sv)[0]? = some c) := fun _ => by rw [HSB.out ()]; exact hc
        have hks : (0 : Int) < (Sv.size : Int) := by have h1 := (List.getElem?_eq_some_iff.1 hc).1; have h2 := HSL.out (); omega
        have hks2 : 0 < Sv.size := by omega
        clear hs hc hlt hk
        rcases hst with hst | hst
        · have hge : ¬ (48 : Int) ≤ (c.toNat : Int) := by omega
          have hge2 : ¬ 48 ≤ c.toNat := by omega
          clear hst
          go_wp2_with (first
            | ((with_reducible refine at_op (some 10) (.load 9 (.tmp 9)) ?_); go_must (refine wpl_execG (.string Sv) rfl (exec_ldx (.string Sv) (Mem.cell hm 0 rfl 0) rfl ag_str) ?_))
            | ((with_reducible refine at_opG (some 21) (.load 9 (.tmp 20)) (some (11, true)) ?_); go_must (refine wpl_execG (.string Sv) rfl (exec_ldx (.string Sv) (Mem.cell hm 0 rfl 0) rfl ag_str) ?_))
            | ((with_reducible refine at_opG (some 23) (.index 9 (.tmp 21) (.tmp 22)) (some (11, true)) ?_); go_must (refine wpl_execG (.int .u8 (c.toNat : Int)) rfl (exec_ixsS Sv 0 c rfl rfl rfl (HC.out ())) ?_))
            | ((with_reducible refine at_op none (.store 4 (.tmp 53) (.const (.bool true))) ?_); go_must (refine wpl_stc 0 2 (.bool true) hm rfl rfl rfl sz_bool (by show 2 < 3; omega) rfl rfl ?_); clear hm; intro w2 hm))
          go_ret
          exact ⟨rfl, hm.get 0 rfl, hm.toUpd⟩
        · have hge : (48 : Int) ≤ (c.toNat : Int) := by omega
          have hge2 : 48 ≤ c.toNat := by omega
          have hle : ¬ (c.toNat : Int) ≤ 57 := by omega
          have hle2 : ¬ c.toNat ≤ 57 := by omega
          clear hst
          go_wp2_with (first
            | ((with_reducible refine at_op (some 10) (.load 9 (.tmp 9)) ?_); go_must (refine wpl_execG (.string Sv) rfl (exec_ldx (.string Sv) (Mem.cell hm 0 rfl 0) rfl ag_str) ?_))
            | ((with_reducible refine at_opG (some 21) (.load 9 (.tmp 20)) (some (11, true)) ?_); go_must (refine wpl_execG (.string Sv) rfl (exec_ldx (.string Sv) (Mem.cell hm 0 rfl 0) rfl ag_str) ?_))
            | ((with_reducible refine at_opG (some 23) (.index 9 (.tmp 21) (.tmp 22)) (some (11, true)) ?_); go_must (refine wpl_execG (.int .u8 (c.toNat : Int)) rfl (exec_ixsS Sv 0 c rfl rfl rfl (HC.out ())) ?_))
            | ((with_reducible refine at_opG (some 30) (.load 9 (.tmp 29)) (some (20, true)) ?_); go_must (refine wpl_execG (.string Sv) rfl (exec_ldx (.string Sv) (Mem.cell hm 0 rfl 0) rfl ag_str) ?_))
            | ((with_reducible refine at_opG (some 32) (.index 9 (.tmp 30) (.tmp 31)) (some (20, true)) ?_); go_must (refine wpl_execG (.int .u8 (c.toNat : Int)) rfl (exec_ixsS Sv 0 c rfl rfl rfl (HC.out ())) ?_))
            | ((with_reducible refine at_op none (.store 4 (.tmp 53) (.const (.bool true))) ?_); go_must (refine wpl_stc 0 2 (.bool true) hm rfl rfl rfl sz_bool (by show 2 < 3; omega) rfl rfl ?_); clear hm; intro w2 hm))
          go_ret
          exact ⟨rfl, hm.get 0 rfl, hm.toUpd⟩
set_option maxHeartbeats 8000000 in
set_option maxRecDepth 100000 in
theorem numR_zero (Sv : ByteArray) (S : List UInt8) (hS : bs Sv = S) (n : Int) (b : Bool) (g : Nat) (w : World) (c0 c1 : UInt8) (h0 : (ldg S).take 2 = [c0, c1]) (hc0 : c0 = 48) (hr : Row w g [.string Sv, .int .i64 n, .bool b] 63) :
    Calls Tryd.prog 47 #[.pointer (some ⟨g, 0, none⟩)] w fun e w' => e = .returned (.int .i64 0) ∧ Row w' g [.string Sv, .int .i64 n, .bool true] 63 ∧ Upd g w w' := by
  have hm := Mem.enter hr
  have hmm : ((ldg S).take 2).length = 2 := by rw [h0]; rfl
  have hkk := kk_of S
  rw [hmm] at hkk
  have HKK : Hid (Kk S 2) := hkk
  have HSB : Hid (∀ _ : Unit, bs Sv = S) := fun _ => hS
  have HSL : Hid (∀ _ : Unit, S.length = Sv.size) := fun _ => by rw [← hS, bs_length]
  clear hr hkk
  have HC0 : Hid (∀ _ : Unit, (bs Sv)[0]? = some c0) := fun _ => by
    have h9 := take2_of S
    rw [hmm, h0] at h9
    have h8 := congrArg (·[0]?) h9
    rw [HSB.out ()]
    simpa [List.getElem?_take] using h8
  have hcz : ((c0.toNat : Int) == 48) = true := beq_int _ _ (by rw [hc0]; rfl)
  clear h0 hmm hS hc0
  go_enter Tryd.func47, Tryd.ntmps47
  go_wp2_with fail
  go_loopw [3] (fun vk wr => ∃ k : Nat, k ≤ 2 ∧ vk = .int .i64 (k : Int) ∧ Hid (Mem w [g] wr [(g, [.string Sv, .int .i64 n, .bool b], 63)])) (fun vk _ => 2 - (intOf vk).toNat)
  case atStart => exact ⟨0, by omega, rfl, hm⟩
  case round =>
    clear hm
    obtain ⟨k, hk, rfl, HMM⟩ := hrel
    have hm := HMM.out
    clear HMM
    by_cases hlt : k < 2
    · obtain ⟨c, hc, hc1, hc2⟩ := HKK.out.dig k hlt
      have HC : Hid (∀ _ : Unit, (bs Sv)[k]? = some c) := fun _ => by rw [HSB.out ()]; exact hc
      have hks : (k : Int) < (Sv.size : Int) := by have h1 := (List.getElem?_eq_some_iff.1 hc).1; have h2 := HSL.out (); omega
      have hks2 : k < Sv.size := by have h1 := (List.getElem?_eq_some_iff.1 hc).1; have h2 := HSL.out (); omega
      have hk2 : (k : Int) < 2 := by omega
      have hk22 : k < 2 := by omega
      have hge : (48 : Int) ≤ (c.toNat : Int) := by omega
      have hle : (c.toNat : Int) ≤ 57 := by omega
      have hge2 : 48 ≤ c.toNat := by omega
      have hle2 : c.toNat ≤ 57 := by omega
      clear hc hc1 hc2
      go_wp2_with (first
        | ((with_reducible refine at_op (some 10) (.load 9 (.tmp 9)) ?_); go_must (refine wpl_execG (.string Sv) rfl (exec_ldx (.string Sv) (Mem.cell hm 0 rfl 0) rfl ag_str) ?_))
        | ((with_reducible refine at_opG (some 21) (.load 9 (.tmp 20)) (some (11, true)) ?_); go_must (refine wpl_execG (.string Sv) rfl (exec_ldx (.string Sv) (Mem.cell hm 0 rfl 0) rfl ag_str) ?_))
        | ((with_reducible refine at_opG (some 23) (.index 9 (.tmp 21) (.tmp 22)) (some (11, true)) ?_); go_must (refine wpl_execG (.int .u8 (c.toNat : Int)) rfl (exec_ixsS Sv k c rfl rfl rfl (HC.out ())) ?_))
        | ((with_reducible refine at_opG (some 30) (.load 9 (.tmp 29)) (some (20, true)) ?_); go_must (refine wpl_execG (.string Sv) rfl (exec_ldx (.string Sv) (Mem.cell hm 0 rfl 0) rfl ag_str) ?_))
        | ((with_reducible refine at_opG (some 32) (.index 9 (.tmp 30) (.tmp 31)) (some (20, true)) ?_); go_must (refine wpl_execG (.int .u8 (c.toNat : Int)) rfl (exec_ixsS Sv k c rfl rfl rfl (HC.out ())) ?_)))
      go_roundw
      case rel => exact ⟨k + 1, by omega, by go_num, hm⟩
      case measure => simp [intOf]; omega
    · obtain rfl : k = 2 := by omega
      by_cases hs : Sv.size = 2
      · have hks : ¬ (2 : Int) < (Sv.size : Int) := by omega
        have hks2 : ¬ 2 < Sv.size := by omega
        clear hs hlt hk
        go_wp2_with (first
          | ((with_reducible refine at_op (some 10) (.load 9 (.tmp 9)) ?_); go_must (refine wpl_execG (.string Sv) rfl (exec_ldx (.string Sv) (Mem.cell hm 0 rfl 0) rfl ag_str) ?_))
          | ((with_reducible refine at_opG (some 46) (.load 9 (.tmp 45)) (some (5, true)) ?_); go_must (refine wpl_execG (.string Sv) rfl (exec_ldx (.string Sv) (Mem.cell hm 0 rfl 0) rfl ag_str) ?_))
          | ((with_reducible refine at_opG (some 47) (.index 9 (.tmp 46) (.const (.int .i64 0))) (some (5, true)) ?_); go_must (refine wpl_execG (.int .u8 (c0.toNat : Int)) rfl (exec_ixsS Sv 0 c0 rfl rfl rfl (HC0.out ())) ?_))
          | ((with_reducible refine at_op none (.store 4 (.tmp 53) (.const (.bool true))) ?_); go_must (refine wpl_stc 0 2 (.bool true) hm rfl rfl rfl sz_bool (by show 2 < 3; omega) rfl rfl ?_); clear hm; intro w2 hm))
        go_ret
        exact ⟨rfl, hm.get 0 rfl, hm.toUpd⟩
      · have hks : (2 : Int) < (Sv.size : Int) := by
          obtain ⟨c1, hc1, _⟩ := HKK.out.dig 1 (by omega)
          have h1 := (List.getElem?_eq_some_iff.1 hc1).1
          have h2 := HSL.out ()
          omega
        have hks2 : 2 < Sv.size := by omega
        clear hs hlt hk
        go_wp2_with (first
          | ((with_reducible refine at_op (some 10) (.load 9 (.tmp 9)) ?_); go_must (refine wpl_execG (.string Sv) rfl (exec_ldx (.string Sv) (Mem.cell hm 0 rfl 0) rfl ag_str) ?_))
          | ((with_reducible refine at_opG (some 46) (.load 9 (.tmp 45)) (some (5, true)) ?_); go_must (refine wpl_execG (.string Sv) rfl (exec_ldx (.string Sv) (Mem.cell hm 0 rfl 0) rfl ag_str) ?_))
          | ((with_reducible refine at_opG (some 47) (.index 9 (.tmp 46) (.const (.int .i64 0))) (some (5, true)) ?_); go_must (refine wpl_execG (.int .u8 (c0.toNat : Int)) rfl (exec_ixsS Sv 0 c0 rfl rfl rfl (HC0.out ())) ?_))
          | ((with_reducible refine at_op none (.store 4 (.tmp 53) (.const (.bool true))) ?_); go_must (refine wpl_stc 0 2 (.bool true) hm rfl rfl rfl sz_bool (by show 2 < 3; omega) rfl rfl ?_); clear hm; intro w2 hm))
        go_ret
        exact ⟨rfl, hm.get 0 rfl, hm.toUpd⟩
set_option maxHeartbeats 16000000 in
set_option maxRecDepth 100000 in
theorem numR_one (Sv : ByteArray) (S : List UInt8) (hS : bs Sv = S) (n : Int) (b : Bool) (g : Nat) (w : World) (v : Int) (R : ByteArray) (hv : numV ((ldg S).take 2) = some v) (hR : bs R = S.drop ((ldg S).take 2).length) (h1 : ((ldg S).take 2).length = 1) (hr : Row w g [.string Sv, .int .i64 n, .bool b] 63) :
    Calls Tryd.prog 47 #[.pointer (some ⟨g, 0, none⟩)] w fun e w' => e = .returned (.int .i64 v) ∧ Row w' g [.string R, .int .i64 n, .bool b] 63 ∧ Upd g w w' := by
  have hm := Mem.enter hr
  have hmm : ((ldg S).take 2).length = 1 := by exact h1
  have hkk := kk_of S
  rw [hmm] at hkk
  have HKK : Hid (Kk S 1) := hkk
  have HSB : Hid (∀ _ : Unit, bs Sv = S) := fun _ => hS
  have HSL : Hid (∀ _ : Unit, S.length = Sv.size) := fun _ => by rw [← hS, bs_length]
  clear hr hkk
  have HVV : Hid (∀ _ : Unit, nvD ((ldg S).take 2) = v) := fun _ => nvD_num hv
  have HRR : Hid (∀ _ : Unit, bs R = (bs Sv).drop 1) := fun _ => by rw [hR, hmm, HSB.out ()]
  have HDM : Hid (∀ _ : Unit, ((ldg S).take 2).length = 1) := fun _ => hmm
  have HBN : Hid (∀ i, 0 ≤ nvD (((ldg S).take 2).take i) ∧ nvD (((ldg S).take 2).take i) ≤ 99) := fun i => nvD_bound (by simp; omega) (fun b hb => ldg_all S b (List.mem_of_mem_take (List.mem_of_mem_take hb)))
  have HMS : Hid (∀ _ : Unit, 1 ≤ Sv.size) := fun _ => by
    have h8 := congrArg List.length (take2_of S)
    rw [List.length_take, hmm] at h8
    have h9 := HSL.out ()
    omega
  have HD2 : Hid (∀ (i : Nat) (d : UInt8), i < 1 → S[i]? = some d → ((ldg S).take 2)[i]? = some d) := fun i d hi hd => by
    rw [← take2_of S, hmm, List.getElem?_take, if_pos hi]
    exact hd
  clear h1
  clear hmm hS hv hR
  go_enter Tryd.func47, Tryd.ntmps47
  go_wp2_with fail
  go_loopw [3] (fun vk wr => ∃ k : Nat, k ≤ 1 ∧ vk = .int .i64 (k : Int) ∧ Hid (Mem w [g] wr [(g, [.string Sv, .int .i64 n, .bool b], 63)])) (fun vk _ => 1 - (intOf vk).toNat)
  case atStart => exact ⟨0, by omega, rfl, hm⟩
  case round =>
    clear hm
    obtain ⟨k, hk, rfl, HMM⟩ := hrel
    have hm := HMM.out
    clear HMM
    by_cases hlt : k < 1
    · obtain ⟨c, hc, hc1, hc2⟩ := HKK.out.dig k hlt
      have HC : Hid (∀ _ : Unit, (bs Sv)[k]? = some c) := fun _ => by rw [HSB.out ()]; exact hc
      have hks : (k : Int) < (Sv.size : Int) := by have h1 := (List.getElem?_eq_some_iff.1 hc).1; have h2 := HSL.out (); omega
      have hks2 : k < Sv.size := by have h1 := (List.getElem?_eq_some_iff.1 hc).1; have h2 := HSL.out (); omega
      have hk2 : (k : Int) < 2 := by omega
      have hk22 : k < 2 := by omega
      have hge : (48 : Int) ≤ (c.toNat : Int) := by omega
      have hle : (c.toNat : Int) ≤ 57 := by omega
      have hge2 : 48 ≤ c.toNat := by omega
      have hle2 : c.toNat ≤ 57 := by omega
      clear hc hc1 hc2
      go_wp2_with (first
        | ((with_reducible refine at_op (some 10) (.load 9 (.tmp 9)) ?_); go_must (refine wpl_execG (.string Sv) rfl (exec_ldx (.string Sv) (Mem.cell hm 0 rfl 0) rfl ag_str) ?_))
        | ((with_reducible refine at_opG (some 21) (.load 9 (.tmp 20)) (some (11, true)) ?_); go_must (refine wpl_execG (.string Sv) rfl (exec_ldx (.string Sv) (Mem.cell hm 0 rfl 0) rfl ag_str) ?_))
        | ((with_reducible refine at_opG (some 23) (.index 9 (.tmp 21) (.tmp 22)) (some (11, true)) ?_); go_must (refine wpl_execG (.int .u8 (c.toNat : Int)) rfl (exec_ixsS Sv k c rfl rfl rfl (HC.out ())) ?_))
        | ((with_reducible refine at_opG (some 30) (.load 9 (.tmp 29)) (some (20, true)) ?_); go_must (refine wpl_execG (.string Sv) rfl (exec_ldx (.string Sv) (Mem.cell hm 0 rfl 0) rfl ag_str) ?_))
        | ((with_reducible refine at_opG (some 32) (.index 9 (.tmp 30) (.tmp 31)) (some (20, true)) ?_); go_must (refine wpl_execG (.int .u8 (c.toNat : Int)) rfl (exec_ixsS Sv k c rfl rfl rfl (HC.out ())) ?_)))
      go_roundw
      case rel => exact ⟨k + 1, by omega, by go_num, hm⟩
      case measure => simp [intOf]; omega
    · obtain rfl : k = 1 := by omega
      by_cases hs : Sv.size = 1
      · have hks : ¬ (1 : Int) < (Sv.size : Int) := by omega
        have hks2 : ¬ 1 < Sv.size := by omega
        clear hs hlt hk
        go_wp2_with (first
          | ((with_reducible refine at_op (some 10) (.load 9 (.tmp 9)) ?_); go_must (refine wpl_execG (.string Sv) rfl (exec_ldx (.string Sv) (Mem.cell hm 0 rfl 0) rfl ag_str) ?_)))
        go_loopw [5, 4] (fun vi vn wr => ∃ i : Nat, i ≤ 1 ∧ vi = .int .i64 (i : Int) ∧ vn = .int .i64 (nvD (((ldg S).take 2).take i)) ∧ Hid (Mem w [g] wr [(g, [.string Sv, .int .i64 n, .bool b], 63)])) (fun vi _ _ => 1 - (intOf vi).toNat)
        case atStart => exact ⟨0, by omega, rfl, rfl, hm⟩
        case round =>
          clear hm
          obtain ⟨i, hi, rfl, rfl, HMM⟩ := hrel
          have hm := HMM.out
          clear HMM
          have hbn := HBN.out i
          obtain ⟨N, hN⟩ : ∃ N, N = nvD (((ldg S).take 2).take i) := ⟨_, rfl⟩
          rw [← hN] at hbn ⊢
          by_cases hlt2 : i < 1
          · have hii : (i : Int) < 1 := by omega
            obtain ⟨d, hd, hd1, hd2⟩ := HKK.out.dig i hlt2
            have HD : Hid (∀ _ : Unit, (bs Sv)[i]? = some d) := fun _ => by rw [HSB.out ()]; exact hd
            have HNX : Hid (∀ _ : Unit, nvD (((ldg S).take 2).take (i + 1)) = 10 * N + ((d.toNat : Int) - 48)) := fun _ => by
              rw [hN]
              exact nvD_snoc (HD2.out i d hlt2 hd)
            have hw1 : IntKind.i64.wrap (10 * N) = 10 * N := wrapi _ (by omega) (by omega)
            have hw2 : IntKind.u8.wrap ((d.toNat : Int) - 48) = (d.toNat : Int) - 48 := wrapb _ (by omega) (by omega)
            have hw3 : IntKind.i64.wrap (10 * N + ((d.toNat : Int) - 48)) = 10 * N + ((d.toNat : Int) - 48) := wrapi _ (by omega) (by omega)
            clear hd hN
            go_wp2_with (first
              | ((with_reducible refine at_op (some 64) (.load 9 (.tmp 63)) ?_); go_must (refine wpl_execG (.string Sv) rfl (exec_ldx (.string Sv) (Mem.cell hm 0 rfl 0) rfl ag_str) ?_))
              | ((with_reducible refine at_op (some 66) (.index 9 (.tmp 64) (.tmp 65)) ?_); go_must (refine wpl_execG (.int .u8 (d.toNat : Int)) rfl (exec_ixsS Sv i d rfl rfl rfl (HD.out ())) ?_)))
            go_roundw
            case rel => exact ⟨i + 1, by omega, by go_num, by rw [HNX.out ()], hm⟩
            case measure => simp [intOf]; omega
          · obtain rfl : i = 1 := by omega
            have HNV : Hid (∀ _ : Unit, N = v) := fun _ => by rw [hN, List.take_of_length_le (by rw [HDM.out ()]; exact Nat.le_refl _), HVV.out ()]
            clear hN hlt2 hi
            go_wp2_with (first
              | ((with_reducible refine at_op (some 74) (.load 9 (.tmp 73)) ?_); go_must (refine wpl_execG (.string Sv) rfl (exec_ldx (.string Sv) (Mem.cell hm 0 rfl 0) rfl ag_str) ?_))
              | ((with_reducible refine at_op (some 76) (.slice 9 (.tmp 74) (some (.tmp 75)) none none) ?_); go_must (refine wpl_execG (.string R) rfl (exec_sloS Sv R 1 (HMS.out ()) (HRR.out ()) rfl rfl) ?_))
              | ((with_reducible refine at_op none (.store 9 (.tmp 78) (.tmp 76)) ?_); go_must (refine wpl_stc 0 0 (.string R) hm rfl rfl rfl sz_str (by show 0 < 3; omega) rfl rfl ?_); clear hm; intro w3 hm))
            go_ret
            exact ⟨by rw [← HNV.out ()]; rfl, hm.get 0 rfl, hm.toUpd⟩
      · obtain ⟨c, hc, hst⟩ : ∃ c, S[1]? = some c ∧ (c.toNat < 48 ∨ 57 < c.toNat) := by
          rcases HKK.out.stop with h | h | h
          · exact absurd ((HSL.out ()).symm.trans h) hs
          · omega
          · exact h
        have HC : Hid (∀ _ : Unit, (bs Sv)[1]? = some c) := fun _ => by rw [HSB.out ()]; exact hc
        have hks : (1 : Int) < (Sv.size : Int) := by have h1 := (List.getElem?_eq_some_iff.1 hc).1; have h2 := HSL.out (); omega
        have hks2 : 1 < Sv.size := by omega
        clear hs hc hlt hk
        rcases hst with hst | hst
        · have hge : ¬ (48 : Int) ≤ (c.toNat : Int) := by omega
          have hge2 : ¬ 48 ≤ c.toNat := by omega
          clear hst
          go_wp2_with (first
            | ((with_reducible refine at_op (some 10) (.load 9 (.tmp 9)) ?_); go_must (refine wpl_execG (.string Sv) rfl (exec_ldx (.string Sv) (Mem.cell hm 0 rfl 0) rfl ag_str) ?_))
            | ((with_reducible refine at_opG (some 21) (.load 9 (.tmp 20)) (some (11, true)) ?_); go_must (refine wpl_execG (.string Sv) rfl (exec_ldx (.string Sv) (Mem.cell hm 0 rfl 0) rfl ag_str) ?_))
            | ((with_reducible refine at_opG (some 23) (.index 9 (.tmp 21) (.tmp 22)) (some (11, true)) ?_); go_must (refine wpl_execG (.int .u8 (c.toNat : Int)) rfl (exec_ixsS Sv 1 c rfl rfl rfl (HC.out ())) ?_)))
          go_loopw [5, 4] (fun vi vn wr => ∃ i : Nat, i ≤ 1 ∧ vi = .int .i64 (i : Int) ∧ vn = .int .i64 (nvD (((ldg S).take 2).take i)) ∧ Hid (Mem w [g] wr [(g, [.string Sv, .int .i64 n, .bool b], 63)])) (fun vi _ _ => 1 - (intOf vi).toNat)
          case atStart => exact ⟨0, by omega, rfl, rfl, hm⟩
          case round =>
            clear hm
            obtain ⟨i, hi, rfl, rfl, HMM⟩ := hrel
            have hm := HMM.out
            clear HMM
            have hbn := HBN.out i
            obtain ⟨N, hN⟩ : ∃ N, N = nvD (((ldg S).take 2).take i) := ⟨_, rfl⟩
            rw [← hN] at hbn ⊢
            by_cases hlt2 : i < 1
            · have hii : (i : Int) < 1 := by omega
              obtain ⟨d, hd, hd1, hd2⟩ := HKK.out.dig i hlt2
              have HD : Hid (∀ _ : Unit, (bs Sv)[i]? = some d) := fun _ => by rw [HSB.out ()]; exact hd
              have HNX : Hid (∀ _ : Unit, nvD (((ldg S).take 2).take (i + 1)) = 10 * N + ((d.toNat : Int) - 48)) := fun _ => by
                rw [hN]
                exact nvD_snoc (HD2.out i d hlt2 hd)
              have hw1 : IntKind.i64.wrap (10 * N) = 10 * N := wrapi _ (by omega) (by omega)
              have hw2 : IntKind.u8.wrap ((d.toNat : Int) - 48) = (d.toNat : Int) - 48 := wrapb _ (by omega) (by omega)
              have hw3 : IntKind.i64.wrap (10 * N + ((d.toNat : Int) - 48)) = 10 * N + ((d.toNat : Int) - 48) := wrapi _ (by omega) (by omega)
              clear hd hN
              go_wp2_with (first
                | ((with_reducible refine at_op (some 64) (.load 9 (.tmp 63)) ?_); go_must (refine wpl_execG (.string Sv) rfl (exec_ldx (.string Sv) (Mem.cell hm 0 rfl 0) rfl ag_str) ?_))
                | ((with_reducible refine at_op (some 66) (.index 9 (.tmp 64) (.tmp 65)) ?_); go_must (refine wpl_execG (.int .u8 (d.toNat : Int)) rfl (exec_ixsS Sv i d rfl rfl rfl (HD.out ())) ?_)))
              go_roundw
              case rel => exact ⟨i + 1, by omega, by go_num, by rw [HNX.out ()], hm⟩
              case measure => simp [intOf]; omega
            · obtain rfl : i = 1 := by omega
              have HNV : Hid (∀ _ : Unit, N = v) := fun _ => by rw [hN, List.take_of_length_le (by rw [HDM.out ()]; exact Nat.le_refl _), HVV.out ()]
              clear hN hlt2 hi
              go_wp2_with (first
                | ((with_reducible refine at_op (some 74) (.load 9 (.tmp 73)) ?_); go_must (refine wpl_execG (.string Sv) rfl (exec_ldx (.string Sv) (Mem.cell hm 0 rfl 0) rfl ag_str) ?_))
                | ((with_reducible refine at_op (some 76) (.slice 9 (.tmp 74) (some (.tmp 75)) none none) ?_); go_must (refine wpl_execG (.string R) rfl (exec_sloS Sv R 1 (HMS.out ()) (HRR.out ()) rfl rfl) ?_))
                | ((with_reducible refine at_op none (.store 9 (.tmp 78) (.tmp 76)) ?_); go_must (refine wpl_stc 0 0 (.string R) hm rfl rfl rfl sz_str (by show 0 < 3; omega) rfl rfl ?_); clear hm; intro w3 hm))
              go_ret
              exact ⟨by rw [← HNV.out ()]; rfl, hm.get 0 rfl, hm.toUpd⟩
        · have hge : (48 : Int) ≤ (c.toNat : Int) := by omega
          have hge2 : 48 ≤ c.toNat := by omega
          have hle : ¬ (c.toNat : Int) ≤ 57 := by omega
          have hle2 : ¬ c.toNat ≤ 57 := by omega
          clear hst
          go_wp2_with (first
            | ((with_reducible refine at_op (some 10) (.load 9 (.tmp 9)) ?_); go_must (refine wpl_execG (.string Sv) rfl (exec_ldx (.string Sv) (Mem.cell hm 0 rfl 0) rfl ag_str) ?_))
            | ((with_reducible refine at_opG (some 21) (.load 9 (.tmp 20)) (some (11, true)) ?_); go_must (refine wpl_execG (.string Sv) rfl (exec_ldx (.string Sv) (Mem.cell hm 0 rfl 0) rfl ag_str) ?_))
            | ((with_reducible refine at_opG (some 23) (.index 9 (.tmp 21) (.tmp 22)) (some (11, true)) ?_); go_must (refine wpl_execG (.int .u8 (c.toNat : Int)) rfl (exec_ixsS Sv 1 c rfl rfl rfl (HC.out ())) ?_))
            | ((with_reducible refine at_opG (some 30) (.load 9 (.tmp 29)) (some (20, true)) ?_); go_must (refine wpl_execG (.string Sv) rfl (exec_ldx (.string Sv) (Mem.cell hm 0 rfl 0) rfl ag_str) ?_))
            | ((with_reducible refine at_opG (some 32) (.index 9 (.tmp 30) (.tmp 31)) (some (20, true)) ?_); go_must (refine wpl_execG (.int .u8 (c.toNat : Int)) rfl (exec_ixsS Sv 1 c rfl rfl rfl (HC.out ())) ?_)))
          go_loopw [5, 4] (fun vi vn wr => ∃ i : Nat, i ≤ 1 ∧ vi = .int .i64 (i : Int) ∧ vn = .int .i64 (nvD (((ldg S).take 2).take i)) ∧ Hid (Mem w [g] wr [(g, [.string Sv, .int .i64 n, .bool b], 63)])) (fun vi _ _ => 1 - (intOf vi).toNat)
          case atStart => exact ⟨0, by omega, rfl, rfl, hm⟩
          case round =>
            clear hm
            obtain ⟨i, hi, rfl, rfl, HMM⟩ := hrel
            have hm := HMM.out
            clear HMM
            have hbn := HBN.out i
            obtain ⟨N, hN⟩ : ∃ N, N = nvD (((ldg S).take 2).take i) := ⟨_, rfl⟩
            rw [← hN] at hbn ⊢
            by_cases hlt2 : i < 1
            · have hii : (i : Int) < 1 := by omega
              obtain ⟨d, hd, hd1, hd2⟩ := HKK.out.dig i hlt2
              have HD : Hid (∀ _ : Unit, (bs Sv)[i]? = some d) := fun _ => by rw [HSB.out ()]; exact hd
              have HNX : Hid (∀ _ : Unit, nvD (((ldg S).take 2).take (i + 1)) = 10 * N + ((d.toNat : Int) - 48)) := fun _ => by
                rw [hN]
                exact nvD_snoc (HD2.out i d hlt2 hd)
              have hw1 : IntKind.i64.wrap (10 * N) = 10 * N := wrapi _ (by omega) (by omega)
              have hw2 : IntKind.u8.wrap ((d.toNat : Int) - 48) = (d.toNat : Int) - 48 := wrapb _ (by omega) (by omega)
              have hw3 : IntKind.i64.wrap (10 * N + ((d.toNat : Int) - 48)) = 10 * N + ((d.toNat : Int) - 48) := wrapi _ (by omega) (by omega)
              clear hd hN
              go_wp2_with (first
                | ((with_reducible refine at_op (some 64) (.load 9 (.tmp 63)) ?_); go_must (refine wpl_execG (.string Sv) rfl (exec_ldx (.string Sv) (Mem.cell hm 0 rfl 0) rfl ag_str) ?_))
                | ((with_reducible refine at_op (some 66) (.index 9 (.tmp 64) (.tmp 65)) ?_); go_must (refine wpl_execG (.int .u8 (d.toNat : Int)) rfl (exec_ixsS Sv i d rfl rfl rfl (HD.out ())) ?_)))
              go_roundw
              case rel => exact ⟨i + 1, by omega, by go_num, by rw [HNX.out ()], hm⟩
              case measure => simp [intOf]; omega
            · obtain rfl : i = 1 := by omega
              have HNV : Hid (∀ _ : Unit, N = v) := fun _ => by rw [hN, List.take_of_length_le (by rw [HDM.out ()]; exact Nat.le_refl _), HVV.out ()]
              clear hN hlt2 hi
              go_wp2_with (first
                | ((with_reducible refine at_op (some 74) (.load 9 (.tmp 73)) ?_); go_must (refine wpl_execG (.string Sv) rfl (exec_ldx (.string Sv) (Mem.cell hm 0 rfl 0) rfl ag_str) ?_))
                | ((with_reducible refine at_op (some 76) (.slice 9 (.tmp 74) (some (.tmp 75)) none none) ?_); go_must (refine wpl_execG (.string R) rfl (exec_sloS Sv R 1 (HMS.out ()) (HRR.out ()) rfl rfl) ?_))
                | ((with_reducible refine at_op none (.store 9 (.tmp 78) (.tmp 76)) ?_); go_must (refine wpl_stc 0 0 (.string R) hm rfl rfl rfl sz_str (by show 0 < 3; omega) rfl rfl ?_); clear hm; intro w3 hm))
              go_ret
              exact ⟨by rw [← HNV.out ()]; rfl, hm.get 0 rfl, hm.toUpd⟩
set_option maxHeartbeats 16000000 in
set_option maxRecDepth 100000 in
theorem numR_two (Sv : ByteArray) (S : List UInt8) (hS : bs Sv = S) (n : Int) (b : Bool) (g : Nat) (w : World) (v : Int) (R : ByteArray) (hv : numV ((ldg S).take 2) = some v) (hR : bs R = S.drop ((ldg S).take 2).length) (c0 c1 : UInt8) (h0 : (ldg S).take 2 = [c0, c1]) (hc0 : c0 ≠ 48) (hr : Row w g [.string Sv, .int .i64 n, .bool b] 63) :
    Calls Tryd.prog 47 #[.pointer (some ⟨g, 0, none⟩)] w fun e w' => e = .returned (.int .i64 v) ∧ Row w' g [.string R, .int .i64 n, .bool b] 63 ∧ Upd g w w' := by
  have hm := Mem.enter hr
  have hmm : ((ldg S).take 2).length = 2 := by rw [h0]; rfl
  have hkk := kk_of S
  rw [hmm] at hkk
  have HKK : Hid (Kk S 2) := hkk
  have HSB : Hid (∀ _ : Unit, bs Sv = S) := fun _ => hS
  have HSL : Hid (∀ _ : Unit, S.length = Sv.size) := fun _ => by rw [← hS, bs_length]
  clear hr hkk
  have HVV : Hid (∀ _ : Unit, nvD ((ldg S).take 2) = v) := fun _ => nvD_num hv
  have HRR : Hid (∀ _ : Unit, bs R = (bs Sv).drop 2) := fun _ => by rw [hR, hmm, HSB.out ()]
  have HDM : Hid (∀ _ : Unit, ((ldg S).take 2).length = 2) := fun _ => hmm
  have HBN : Hid (∀ i, 0 ≤ nvD (((ldg S).take 2).take i) ∧ nvD (((ldg S).take 2).take i) ≤ 99) := fun i => nvD_bound (by simp; omega) (fun b hb => ldg_all S b (List.mem_of_mem_take (List.mem_of_mem_take hb)))
  have HMS : Hid (∀ _ : Unit, 2 ≤ Sv.size) := fun _ => by
    have h8 := congrArg List.length (take2_of S)
    rw [List.length_take, hmm] at h8
    have h9 := HSL.out ()
    omega
  have HD2 : Hid (∀ (i : Nat) (d : UInt8), i < 2 → S[i]? = some d → ((ldg S).take 2)[i]? = some d) := fun i d hi hd => by
    rw [← take2_of S, hmm, List.getElem?_take, if_pos hi]
    exact hd
  have HC0 : Hid (∀ _ : Unit, (bs Sv)[0]? = some c0) := fun _ => by
    have h9 := take2_of S
    rw [hmm, h0] at h9
    have h8 := congrArg (·[0]?) h9
    rw [HSB.out ()]
    simpa [List.getElem?_take] using h8
  have hcz : ((c0.toNat : Int) == 48) = false := beq_int_no _ _ (fun he => hc0 (UInt8.toNat.inj (by have : (48 : UInt8).toNat = 48 := rfl; omega)))
  clear h0 hc0
  clear hmm hS hv hR
  go_enter Tryd.func47, Tryd.ntmps47
  go_wp2_with fail
  go_loopw [3] (fun vk wr => ∃ k : Nat, k ≤ 2 ∧ vk = .int .i64 (k : Int) ∧ Hid (Mem w [g] wr [(g, [.string Sv, .int .i64 n, .bool b], 63)])) (fun vk _ => 2 - (intOf vk).toNat)
  case atStart => exact ⟨0, by omega, rfl, hm⟩
  case round =>
    clear hm
    obtain ⟨k, hk, rfl, HMM⟩ := hrel
    have hm := HMM.out
    clear HMM
    by_cases hlt : k < 2
    · obtain ⟨c, hc, hc1, hc2⟩ := HKK.out.dig k hlt
      have HC : Hid (∀ _ : Unit, (bs Sv)[k]? = some c) := fun _ => by rw [HSB.out ()]; exact hc
      have hks : (k : Int) < (Sv.size : Int) := by have h1 := (List.getElem?_eq_some_iff.1 hc).1; have h2 := HSL.out (); omega
      have hks2 : k < Sv.size := by have h1 := (List.getElem?_eq_some_iff.1 hc).1; have h2 := HSL.out (); omega
      have hk2 : (k : Int) < 2 := by omega
      have hk22 : k < 2 := by omega
      have hge : (48 : Int) ≤ (c.toNat : Int) := by omega
      have hle : (c.toNat : Int) ≤ 57 := by omega
      have hge2 : 48 ≤ c.toNat := by omega
      have hle2 : c.toNat ≤ 57 := by omega
      clear hc hc1 hc2
      go_wp2_with (first
        | ((with_reducible refine at_op (some 10) (.load 9 (.tmp 9)) ?_); go_must (refine wpl_execG (.string Sv) rfl (exec_ldx (.string Sv) (Mem.cell hm 0 rfl 0) rfl ag_str) ?_))
        | ((with_reducible refine at_opG (some 21) (.load 9 (.tmp 20)) (some (11, true)) ?_); go_must (refine wpl_execG (.string Sv) rfl (exec_ldx (.string Sv) (Mem.cell hm 0 rfl 0) rfl ag_str) ?_))
        | ((with_reducible refine at_opG (some 23) (.index 9 (.tmp 21) (.tmp 22)) (some (11, true)) ?_); go_must (refine wpl_execG (.int .u8 (c.toNat : Int)) rfl (exec_ixsS Sv k c rfl rfl rfl (HC.out ())) ?_))
        | ((with_reducible refine at_opG (some 30) (.load 9 (.tmp 29)) (some (20, true)) ?_); go_must (refine wpl_execG (.string Sv) rfl (exec_ldx (.string Sv) (Mem.cell hm 0 rfl 0) rfl ag_str) ?_))
        | ((with_reducible refine at_opG (some 32) (.index 9 (.tmp 30) (.tmp 31)) (some (20, true)) ?_); go_must (refine wpl_execG (.int .u8 (c.toNat : Int)) rfl (exec_ixsS Sv k c rfl rfl rfl (HC.out ())) ?_)))
      go_roundw
      case rel => exact ⟨k + 1, by omega, by go_num, hm⟩
      case measure => simp [intOf]; omega
    · obtain rfl : k = 2 := by omega
      by_cases hs : Sv.size = 2
      · have hks : ¬ (2 : Int) < (Sv.size : Int) := by omega
        have hks2 : ¬ 2 < Sv.size := by omega
        clear hs hlt hk
        go_wp2_with (first
          | ((with_reducible refine at_op (some 10) (.load 9 (.tmp 9)) ?_); go_must (refine wpl_execG (.string Sv) rfl (exec_ldx (.string Sv) (Mem.cell hm 0 rfl 0) rfl ag_str) ?_))
          | ((with_reducible refine at_opG (some 46) (.load 9 (.tmp 45)) (some (5, true)) ?_); go_must (refine wpl_execG (.string Sv) rfl (exec_ldx (.string Sv) (Mem.cell hm 0 rfl 0) rfl ag_str) ?_))
          | ((with_reducible refine at_opG (some 47) (.index 9 (.tmp 46) (.const (.int .i64 0))) (some (5, true)) ?_); go_must (refine wpl_execG (.int .u8 (c0.toNat : Int)) rfl (exec_ixsS Sv 0 c0 rfl rfl rfl (HC0.out ())) ?_)))
        go_loopw [5, 4] (fun vi vn wr => ∃ i : Nat, i ≤ 2 ∧ vi = .int .i64 (i : Int) ∧ vn = .int .i64 (nvD (((ldg S).take 2).take i)) ∧ Hid (Mem w [g] wr [(g, [.string Sv, .int .i64 n, .bool b], 63)])) (fun vi _ _ => 2 - (intOf vi).toNat)
        case atStart => exact ⟨0, by omega, rfl, rfl, hm⟩
        case round =>
          clear hm
          obtain ⟨i, hi, rfl, rfl, HMM⟩ := hrel
          have hm := HMM.out
          clear HMM
          have hbn := HBN.out i
          obtain ⟨N, hN⟩ : ∃ N, N = nvD (((ldg S).take 2).take i) := ⟨_, rfl⟩
          rw [← hN] at hbn ⊢
          by_cases hlt2 : i < 2
          · have hii : (i : Int) < 2 := by omega
            obtain ⟨d, hd, hd1, hd2⟩ := HKK.out.dig i hlt2
            have HD : Hid (∀ _ : Unit, (bs Sv)[i]? = some d) := fun _ => by rw [HSB.out ()]; exact hd
            have HNX : Hid (∀ _ : Unit, nvD (((ldg S).take 2).take (i + 1)) = 10 * N + ((d.toNat : Int) - 48)) := fun _ => by
              rw [hN]
              exact nvD_snoc (HD2.out i d hlt2 hd)
            have hw1 : IntKind.i64.wrap (10 * N) = 10 * N := wrapi _ (by omega) (by omega)
            have hw2 : IntKind.u8.wrap ((d.toNat : Int) - 48) = (d.toNat : Int) - 48 := wrapb _ (by omega) (by omega)
            have hw3 : IntKind.i64.wrap (10 * N + ((d.toNat : Int) - 48)) = 10 * N + ((d.toNat : Int) - 48) := wrapi _ (by omega) (by omega)
            clear hd hN
            go_wp2_with (first
              | ((with_reducible refine at_op (some 64) (.load 9 (.tmp 63)) ?_); go_must (refine wpl_execG (.string Sv) rfl (exec_ldx (.string Sv) (Mem.cell hm 0 rfl 0) rfl ag_str) ?_))
              | ((with_reducible refine at_op (some 66) (.index 9 (.tmp 64) (.tmp 65)) ?_); go_must (refine wpl_execG (.int .u8 (d.toNat : Int)) rfl (exec_ixsS Sv i d rfl rfl rfl (HD.out ())) ?_)))
            go_roundw
            case rel => exact ⟨i + 1, by omega, by go_num, by rw [HNX.out ()], hm⟩
            case measure => simp [intOf]; omega
          · obtain rfl : i = 2 := by omega
            have HNV : Hid (∀ _ : Unit, N = v) := fun _ => by rw [hN, List.take_of_length_le (by rw [HDM.out ()]; exact Nat.le_refl _), HVV.out ()]
            clear hN hlt2 hi
            go_wp2_with (first
              | ((with_reducible refine at_op (some 74) (.load 9 (.tmp 73)) ?_); go_must (refine wpl_execG (.string Sv) rfl (exec_ldx (.string Sv) (Mem.cell hm 0 rfl 0) rfl ag_str) ?_))
              | ((with_reducible refine at_op (some 76) (.slice 9 (.tmp 74) (some (.tmp 75)) none none) ?_); go_must (refine wpl_execG (.string R) rfl (exec_sloS Sv R 2 (HMS.out ()) (HRR.out ()) rfl rfl) ?_))
              | ((with_reducible refine at_op none (.store 9 (.tmp 78) (.tmp 76)) ?_); go_must (refine wpl_stc 0 0 (.string R) hm rfl rfl rfl sz_str (by show 0 < 3; omega) rfl rfl ?_); clear hm; intro w3 hm))
            go_ret
            exact ⟨by rw [← HNV.out ()]; rfl, hm.get 0 rfl, hm.toUpd⟩
      · have hks : (2 : Int) < (Sv.size : Int) := by
          obtain ⟨c1, hc1, _⟩ := HKK.out.dig 1 (by omega)
          have h1 := (List.getElem?_eq_some_iff.1 hc1).1
          have h2 := HSL.out ()
          omega
        have hks2 : 2 < Sv.size := by omega
        clear hs hlt hk
        go_wp2_with (first
          | ((with_reducible refine at_op (some 10) (.load 9 (.tmp 9)) ?_); go_must (refine wpl_execG (.string Sv) rfl (exec_ldx (.string Sv) (Mem.cell hm 0 rfl 0) rfl ag_str) ?_))
          | ((with_reducible refine at_opG (some 46) (.load 9 (.tmp 45)) (some (5, true)) ?_); go_must (refine wpl_execG (.string Sv) rfl (exec_ldx (.string Sv) (Mem.cell hm 0 rfl 0) rfl ag_str) ?_))
          | ((with_reducible refine at_opG (some 47) (.index 9 (.tmp 46) (.const (.int .i64 0))) (some (5, true)) ?_); go_must (refine wpl_execG (.int .u8 (c0.toNat : Int)) rfl (exec_ixsS Sv 0 c0 rfl rfl rfl (HC0.out ())) ?_)))
        go_loopw [5, 4] (fun vi vn wr => ∃ i : Nat, i ≤ 2 ∧ vi = .int .i64 (i : Int) ∧ vn = .int .i64 (nvD (((ldg S).take 2).take i)) ∧ Hid (Mem w [g] wr [(g, [.string Sv, .int .i64 n, .bool b], 63)])) (fun vi _ _ => 2 - (intOf vi).toNat)
        case atStart => exact ⟨0, by omega, rfl, rfl, hm⟩
        case round =>
          clear hm
          obtain ⟨i, hi, rfl, rfl, HMM⟩ := hrel
          have hm := HMM.out
          clear HMM
          have hbn := HBN.out i
          obtain ⟨N, hN⟩ : ∃ N, N = nvD (((ldg S).take 2).take i) := ⟨_, rfl⟩
          rw [← hN] at hbn ⊢
          by_cases hlt2 : i < 2
          · have hii : (i : Int) < 2 := by omega
            obtain ⟨d, hd, hd1, hd2⟩ := HKK.out.dig i hlt2
            have HD : Hid (∀ _ : Unit, (bs Sv)[i]? = some d) := fun _ => by rw [HSB.out ()]; exact hd
            have HNX : Hid (∀ _ : Unit, nvD (((ldg S).take 2).take (i + 1)) = 10 * N + ((d.toNat : Int) - 48)) := fun _ => by
              rw [hN]
              exact nvD_snoc (HD2.out i d hlt2 hd)
            have hw1 : IntKind.i64.wrap (10 * N) = 10 * N := wrapi _ (by omega) (by omega)
            have hw2 : IntKind.u8.wrap ((d.toNat : Int) - 48) = (d.toNat : Int) - 48 := wrapb _ (by omega) (by omega)
            have hw3 : IntKind.i64.wrap (10 * N + ((d.toNat : Int) - 48)) = 10 * N + ((d.toNat : Int) - 48) := wrapi _ (by omega) (by omega)
            clear hd hN
            go_wp2_with (first
              | ((with_reducible refine at_op (some 64) (.load 9 (.tmp 63)) ?_); go_must (refine wpl_execG (.string Sv) rfl (exec_ldx (.string Sv) (Mem.cell hm 0 rfl 0) rfl ag_str) ?_))
              | ((with_reducible refine at_op (some 66) (.index 9 (.tmp 64) (.tmp 65)) ?_); go_must (refine wpl_execG (.int .u8 (d.toNat : Int)) rfl (exec_ixsS Sv i d rfl rfl rfl (HD.out ())) ?_)))
            go_roundw
            case rel => exact ⟨i + 1, by omega, by go_num, by rw [HNX.out ()], hm⟩
            case measure => simp [intOf]; omega
          · obtain rfl : i = 2 := by omega
            have HNV : Hid (∀ _ : Unit, N = v) := fun _ => by rw [hN, List.take_of_length_le (by rw [HDM.out ()]; exact Nat.le_refl _), HVV.out ()]
            clear hN hlt2 hi
            go_wp2_with (first
              | ((with_reducible refine at_op (some 74) (.load 9 (.tmp 73)) ?_); go_must (refine wpl_execG (.string Sv) rfl (exec_ldx (.string Sv) (Mem.cell hm 0 rfl 0) rfl ag_str) ?_))
              | ((with_reducible refine at_op (some 76) (.slice 9 (.tmp 74) (some (.tmp 75)) none none) ?_); go_must (refine wpl_execG (.string R) rfl (exec_sloS Sv R 2 (HMS.out ()) (HRR.out ()) rfl rfl) ?_))
              | ((with_reducible refine at_op none (.store 9 (.tmp 78) (.tmp 76)) ?_); go_must (refine wpl_stc 0 0 (.string R) hm rfl rfl rfl sz_str (by show 0 < 3; omega) rfl rfl ?_); clear hm; intro w3 hm))
            go_ret
            exact ⟨by rw [← HNV.out ()]; rfl, hm.get 0 rfl, hm.toUpd⟩
set_option maxRecDepth 100000 in
theorem numR_no {Sv : ByteArray} (h : numV ((ldg (bs Sv)).take 2) = none) (n : Int) (b : Bool) (g : Nat) (w : World) (hr : Row w g [.string Sv, .int .i64 n, .bool b] 63) :
    Calls Tryd.prog 47 #[.pointer (some ⟨g, 0, none⟩)] w fun e w' => e = .returned (.int .i64 0) ∧ Row w' g [.string Sv, .int .i64 n, .bool true] 63 ∧ Upd g w w' := by
  obtain ⟨D, hD⟩ : ∃ D, (ldg (bs Sv)).take 2 = D := ⟨_, rfl⟩
  rw [hD] at h
  match D, h, hD with
  | [], _, hD => exact numR_empty Sv _ rfl n b g w hD hr
  | [a], h, _ => cases h
  | [a, c], h, hD =>
    rw [numV] at h
    split at h
    · rename_i ha
      exact numR_zero Sv _ rfl n b g w a c hD ha hr
    · cases h
  | _ :: _ :: _ :: _, _, hD =>
    have := congrArg List.length hD
    simp at this
    omega
set_option maxRecDepth 100000 in
theorem numR_yes {Sv R : ByteArray} {v : Int} (h : numV ((ldg (bs Sv)).take 2) = some v) (hR : bs R = (bs Sv).drop ((ldg (bs Sv)).take 2).length) (n : Int) (b : Bool) (g : Nat) (w : World) (hr : Row w g [.string Sv, .int .i64 n, .bool b] 63) :
    Calls Tryd.prog 47 #[.pointer (some ⟨g, 0, none⟩)] w fun e w' => e = .returned (.int .i64 v) ∧ Row w' g [.string R, .int .i64 n, .bool b] 63 ∧ Upd g w w' := by
  obtain ⟨D, hD⟩ : ∃ D, (ldg (bs Sv)).take 2 = D := ⟨_, rfl⟩
  have h2 := h
  rw [hD] at h2
  match D, h2, hD with
  | [], h2, _ => cases h2
  | [a], _, hD => exact numR_one Sv _ rfl n b g w v R h hR (by rw [hD]; rfl) hr
  | [a, c], h2, hD =>
    rw [numV] at h2
    split at h2
    · cases h2
    · rename_i ha
      exact numR_two Sv _ rfl n b g w v R h hR a c hD ha hr
  | _ :: _ :: _ :: _, _, hD =>
    have := congrArg List.length hD
    simp at this
    omega
end Go.Proofs.YtbphmcbflnaenaaDoor
