/- The contract of Flush. -/
import Derived.Test.YtbaijhlkkeongaaSecWrite
namespace Go.Proofs.Ytbaijhlkkeongaa
open Go Go.RowKit Go.Maps

/-- What is kept while what is pending is kept, entry by entry. -/
def Dk.flOf (d : Dk) (left : Lit → Bool) (i : Nat) : List Int :=
  match d.pend i with
  | some l => if left (.int .i64 (i : Int)) = true then d.kept i else l
  | none => d.kept i
def Dk.fl (d : Dk) (left : Lit → Bool) : Dk := { d with kept := d.flOf left }
set_option maxRecDepth 100000 in
theorem Dk.flOf_len {d : Dk} (h : d.Ok) (left : Lit → Bool) (i : Nat) (hi : i < d.n) : (d.flOf left i).length = 64 ∧ Bytes (d.flOf left i) := by
  unfold Dk.flOf
  cases hp : d.pend i with
  | none => exact ⟨h.kept i hi, h.keptB i hi⟩
  | some l =>
    obtain ⟨_, h1, h2⟩ := h.pend i l hp
    simp only
    split
    · exact ⟨h.kept i hi, h.keptB i hi⟩
    · exact ⟨h1, h2⟩
set_option maxRecDepth 100000 in
theorem Dk.flOf_done (d : Dk) (left : Lit → Bool) (h : ∀ k, left k = false) : d.flOf left = d.now := by
  funext i
  unfold Dk.flOf Dk.now
  cases d.pend i <;> simp [h]
set_option maxRecDepth 100000 in
theorem Dk.flOf_step (d : Dk) (left : Lit → Bool) (i : Nat) (l : List Int) (hp : d.pend i = some l) : d.flOf (fun z => left z && !z.sameKey (.int .i64 (i : Int))) = upf (d.flOf left) i l := by
  funext j
  by_cases he : j = i
  · subst he
    rw [upf_same]
    simp [Dk.flOf, hp, Lit.sameKey]
  · rw [upf_other _ _ he]
    unfold Dk.flOf
    cases hj : d.pend j with
    | none => rfl
    | some x =>
      have hne : ¬ ((j : Int) = (i : Int)) := by omega
      simp [Lit.sameKey, hne]
set_option maxRecDepth 100000 in
theorem DkAt.congr {w : World} {g mb : Nat} {kv : Value} {d d' : Dk} (h : DkAt w g mb kv d) (he : d = d') : DkAt w g mb kv d' := he ▸ h
set_option maxRecDepth 100000 in
theorem Dk.flOf_start {D : DataW Value} (d : Dk) (pm : PM D d.pend) : d.flOf (Maps.has D) = d.kept := by
  funext i
  unfold Dk.flOf
  cases hp : d.pend i with
  | none => rfl
  | some l =>
    simp only
    rw [if_pos (by rw [pm.hasN i, hp]; rfl)]
set_option maxHeartbeats 1000000 in
set_option maxRecDepth 100000 in
theorem flush_off (g mb : Nat) (kv : Value) (d : Dk) (ho : d.step.off = true) (hnu : d.Num) (w : World) (hd : DkAt w g mb kv d) :
    Calls Try.prog 9 #[.pointer (some ⟨g, 0, none⟩)] w fun e w' => e = .returned (.int .i64 61) ∧ DkAt w' g mb kv d.step ∧ UpdS (foot g mb kv) w w' := by
  have HD : Hid _ := hd
  have HNU : Hid _ := hnu
  have HO : Hid (d.step.off = true) := ho
  clear hd hnu ho
  go_enter Try.func9, Try.ntmps9
  go_wp2_with (first
    | (go_at_call 22; refine (step_any g mb kv d HNU.out _ HD.out).mono ?_; rintro e w1 ⟨he, hd1, hu1⟩; rw [HO.out] at he; subst he; clear HD; have HD : Hid _ := hd1; have HU1 : Hid _ := hu1; clear hd1 hu1; have hm := Mem.start w1))
  go_ret
  exact ⟨rfl, HD.out, HU1.out⟩
set_option maxHeartbeats 2000000 in
set_option maxRecDepth 100000 in
theorem flush_good (g mb : Nat) (kv : Value) (d : Dk) (ho : d.step.off = false) (hnu : d.Num) (w : World) (hd : DkAt w g mb kv d) :
    Calls Try.prog 9 #[.pointer (some ⟨g, 0, none⟩)] w fun e w' => e = .returned (.int .i64 0) ∧ DkAt w' g mb kv d.step.flushed ∧ UpdS (foot g mb kv) w w' := by
  have HD : Hid _ := hd
  have HNU : Hid _ := hnu
  have HO : Hid (d.step.off = false) := ho
  clear hd hnu ho
  go_enter Try.func9, Try.ntmps9
  go_wp2_with (first
    | (go_at_call 22; refine (step_any g mb kv d HNU.out _ HD.out).mono ?_; rintro e w1 ⟨he, hd1, hu1⟩; rw [HO.out] at he; subst he; clear HD; have HD : Hid _ := hd1; have HU1 : Hid _ := hu1; clear hd1 hu1; have hm := Mem.start w1)
    | ((with_reducible refine at_op (some 11) (.load 45 (.tmp 10)) ?_); refine wpl_ldr 1 (.map (some mb)) (DkAt.row HD.out) rfl ag_cmap rfl ?_; obtain ⟨qn, D, ho, pm⟩ := HD.out.map; have HPM : Hid _ := pm; have HOW : Hid _ := ho; clear ho pm)
    | ((with_reducible refine at_op (some 12) (.range 45 (.tmp 11)) ?_); go_must (refine wpList_range_own _ rfl _ _ rfl 3 54 key_int un_cmap rdV mb qn D rfl HOW.out ?_); intro w2 hrg0 hg0 hs0))
  have HST : Hid (DkAt w2 g mb kv (d.step.fl (Maps.has D)) ∧ UpdS (foot g mb kv) w w2) := by
    have hb : Below w1.heap.size w1 w2 := ⟨hg0.os, hg0.tape, hg0.output, hg0.size, fun k hk => hg0.block k hk (by simp)⟩
    refine ⟨(HD.out.below hb).congr ?_, HU1.out.trans (UpdS.of_below hb)⟩
    rw [Dk.fl, Dk.flOf_start d.step HPM.out]
  have HFT : Hid (∀ k ∈ foot g mb kv, k < w1.heap.size) := HD.out.lt
  have HOK : Hid d.step.Ok := HD.out.ok
  have HW1 : Hid (w.heap.size ≤ w1.heap.size) := HU1.out.size
  have HRG : Hid _ := hrg0
  clear hrg0 hg0 hs0 HOW hm HNU HO
  go_frame
  go_loopw [3] (fun _ wr => ∃ (left : Lit → Bool) (cnt : Nat), wr.ranges Try.prog 3 rdV mb w1.heap.size qn D left cnt ∧ DkAt wr g mb kv (d.step.fl left) ∧ UpdS (foot g mb kv) w wr)
    (fun _ wr => wr.rangeLeft mb w1.heap.size)
  case atStart => exact ⟨_, _, HRG.out, HST.out.1, HST.out.2⟩
  case round =>
    obtain ⟨left, cnt, hrg, hdr, hur⟩ := hrel
    have HR : Hid _ := hdr
    have HUR : Hid _ := hur
    have HRR : Hid _ := hrg
    have HRL : Hid (wr.rangeLeft mb w1.heap.size = cnt) := hrg.left_eq
    clear hdr hur HRG HST HD HU1 hrg
    go_wp2_with (first
      | (at_next; refine wpList_next_ranges _ rfl _ rfl 3 key_int rdV (fun x : Int => Value.int .i64 x) id (fun key kl hk => by obtain ⟨x, hx, _⟩ := Maps.keyOf_i64 un_int hk; exact ⟨x, hx⟩) (fun v _ _ => ⟨v, rfl⟩) mb w1.heap.size qn D _ _ rfl HRR.out ?_ ?_)
      | go_in)
    · intro _ hl0
      have HL0 : Hid _ := hl0
      clear hl0
      go_wp2_with (first
        | ((with_reducible refine at_op (some 28) (.load 45 (.tmp 27)) ?_); refine wpl_ldr 1 (.map (some mb)) (DkAt.row HR.out) rfl ag_cmap rfl ?_)
        | ((with_reducible refine at_op none (.call { callee := .builtin .clear, args := #[.tmp 28], argTypes := #[45] }) ?_); go_must (refine wpl_clear HR.out rfl ?_); intro w9 hd9 hu9; have HD9 : Hid _ := hd9; have HU9 : Hid _ := hu9; clear hd9 hu9))
      go_ret
      refine ⟨rfl, HD9.out.congr ?_, HUR.out.trans (UpdS.of_upd HU9.out (foot_m ..))⟩
      show ({ d.step.fl left with pend := fun _ => none } : Dk) = d.step.flushed
      rw [Dk.fl, Dk.flOf_done d.step left HL0.out]
      rfl
    · intro x c kl yd yp w3 cnt3 hkey hlk hv hat hrg3 hlt hg3 hs3 hen
      obtain ⟨x', ex, rfl, _⟩ := Maps.keyOf_i64 un_int hkey
      obtain rfl : x = x' := encZ_inj ex
      have hhas : Maps.has D (.int .i64 x) = true := has_true_of_atKey hat
      obtain ⟨i, rfl, hpi⟩ := (HPM.out.has x).1 hhas
      obtain ⟨l, hpl⟩ := Option.isSome_iff_exists.1 hpi
      have hc : c = .agg (u8s l).toArray := by
        have h1 := HPM.out.val i l hpl (.held c)
        rw [hat] at h1
        have h2 := rdV_inj hv
        rw [h2] at h1
        simpa using h1
      subst hc
      have hok := HOK.out.pend i l hpl
      have hb3 : DkAt w3 g mb kv (d.step.fl left) ∧ UpdS (foot g mb kv) w w3 := by
        have hk : ∀ k ∈ foot g mb kv, w3.heap[k]? = wr.heap[k]? := fun k hk => hg3.block k (HR.out.lt k hk) (fun e => by
          have := HFT.out k hk
          simp only [Option.some.injEq] at e
          omega)
        refine ⟨HR.out.keep hk, ⟨hg3.os.trans HUR.out.os, hg3.tape.trans HUR.out.tape, hg3.output.trans HUR.out.output, Nat.le_trans HUR.out.size hg3.size, fun k hk hn => ?_⟩⟩
        refine (hg3.block k (Nat.lt_of_lt_of_le hk HUR.out.size) (fun e => ?_)).trans (HUR.out.block k hk hn)
        have := HW1.out
        simp only [Option.some.injEq] at e
        omega
      have HB3 : Hid _ := hb3.1
      have HU3 : Hid _ := hb3.2
      have HLL : Hid ((u8s l).length = 64) := by show _ = _; rw [u8s_length]; exact hok.2.1
      have HL1 : Hid (l.length = 64) := hok.2.1
      have HLB : Hid (Bytes l) := hok.2.2
      have HZ : Hid ((u8s zeroK).length = 64) := by show _ = _; rw [u8s_length]; exact zeroK_length
      have HPL : Hid (d.step.pend i = some l) := hpl
      have HRG3 : Hid (w3.ranges Try.prog 3 rdV mb w1.heap.size qn D (fun z => left z && !z.sameKey (.int .i64 (i : Int))) cnt3) := hrg3
      have hi : i < d.step.n := hok.1
      obtain ⟨kb, cap, tl, hkv, hcap, hrk⟩ := hb3.1.kept.some (by show 0 < d.step.n; omega)
      have HKV : Hid (∀ _ : Unit, kv = .slice (some ⟨kb, 0, none⟩) d.step.n cap) := fun _ => hkv
      have HKB : Hid (∀ _ : Unit, kb ∈ kbOf kv) := fun _ => by rw [hkv]; simp [kbOf]; show ¬ d.step.n = 0; omega
      obtain ⟨n, hn⟩ : ∃ n, n = d.step.n := ⟨_, rfl⟩
      have HN : Hid (∀ _ : Unit, d.step.n = n) := fun _ => hn.symm
      have HKE : Hid (kv = .slice (some ⟨kb, 0, none⟩) n cap) := by show _ = _; rw [hkv, hn]; rfl
      rw [← hn] at hi
      have hm := Mem.start w3
      clear hkey hlk hv hat hg3 hs3 ex hhas hpi hok hb3 hkv hcap hrk hn HR HUR hrg3 hpl HRR
      go_wp2_with (first
        | ((with_reducible refine at_op (some 4) (.alloc 54) ?_); refine wpl_alloc _ zero_con hm ?_; clear hm; intro w4 q hm)
        | ((with_reducible refine at_op none (.store 54 (.tmp 4) (.tmp 17)) ?_); refine wpl_stw 0 (u8s l) hm rfl rfl rfl 64 sz_con (HZ.out) (HLL.out) (u8s_one _) ?_; clear hm; intro w5 hm))
      refine wp_tail 6 (by kernel_rfl) (by kernel_rfl) hm ?_
      clear hm
      intro w6 hm
      simp only [List.take_succ_cons, List.take_zero, List.drop_succ_cons, List.drop_zero]
      still_step
      still_step
      still_step
      refine wps_ldr 0 (.slice (some ⟨kb, 0, none⟩) n cap) (DkAt.row (HB3.out.mem hm)) rfl ag_cons (by rw [← HKE.out]; rfl) ?_
      still_step
      refine wps_lds 0 0 (u8s l) hm rfl rfl _ un_con rfl 64 sz_con (by rw [HLL.out]; omega) (by rw [List.drop_zero, List.take_of_length_le (by rw [HLL.out]; omega)]) ?_
      refine wpStill_nil ?_
      go_wp2_with (first
        | ((with_reducible refine at_op (some 24) (.indexAddr 44 (.tmp 21) (.tmp 22)) ?_); refine wpl_execG (.pointer (some ⟨kb, i * 64, none⟩)) rfl (exec_ixK i rfl rfl rfl hi) ?_)
        | ((with_reducible refine at_op none (.store 54 (.tmp 24) (.tmp 23)) ?_); go_must (refine wpl_stK (d := d.step.fl left) i l (by have h := HB3.out.mem hm; rw [HKE.out] at h; exact h) (HN.out ()) hi rfl rfl HL1.out HLB.out ?_); intro w7 hd7 hu7; have HD7 : Hid _ := hd7; have HU7 : Hid _ := hu7; clear hd7 hu7))
      have hrg3' : w3.ranges Try.prog 3 rdV mb w1.heap.size qn D (fun z => left z && !z.sameKey (.int .i64 (i : Int))) cnt3 := HRG3.out
      have hrg7 := World.ranges.kept (World.ranges.kept hrg3' (grown_of_below hm.below) (by simp) (by simp)) (grown_of_upd HU7.out) (by
        have := (DkAt.ne_k (HB3.out.mem hm) kb (HKB.out ())).2
        intro e
        exact this (Option.some.inj e).symm) (by
        have := HFT.out kb (by simp only [foot, List.mem_cons]; exact Or.inr (Or.inr (HKB.out ())))
        intro e
        have := Option.some.inj e
        omega)
      have HRG7 : Hid (w7.ranges Try.prog 3 rdV mb w1.heap.size qn D (fun z => left z && !z.sameKey (.int .i64 (i : Int))) cnt3) := hrg7
      have HRL7 : Hid (w7.rangeLeft mb w1.heap.size = cnt3) := hrg7.left_eq
      clear hrg7 hrg3'
      go_frame
      go_roundw
      case rel =>
        refine ⟨_, cnt3, HRG7.out, ?_, (HU3.out.trans (UpdS.of_below hm.below)).trans (UpdS.of_upd HU7.out (by simp only [foot, List.mem_cons]; exact Or.inr (Or.inr (HKB.out ()))))⟩
        have h7 := HD7.out
        rw [← HKE.out] at h7
        refine h7.congr ?_
        show ({ d.step.fl left with kept := upf (d.step.flOf left) i l } : Dk) = d.step.fl _
        rw [Dk.fl, Dk.fl, Dk.flOf_step d.step left i l HPL.out]
      case measure => rw [HRL7.out, HRL.out]; exact hlt
set_option maxRecDepth 100000 in
theorem flush_any (g mb : Nat) (kv : Value) (d : Dk) (hnu : d.Num) (w : World) (hd : DkAt w g mb kv d) :
    Calls Try.prog 9 #[.pointer (some ⟨g, 0, none⟩)] w fun e w' => e = .returned (.int .i64 d.fcode) ∧ DkAt w' g mb kv d.flush ∧ UpdS (foot g mb kv) w w' := by
  unfold Dk.fcode Dk.flush
  cases ho : d.step.off with
  | true =>
    rw [if_pos rfl, if_pos rfl]
    exact flush_off g mb kv d ho hnu w hd
  | false =>
    rw [if_neg (by simp), if_neg (by simp)]
    exact flush_good g mb kv d ho hnu w hd
end Go.Proofs.Ytbaijhlkkeongaa
