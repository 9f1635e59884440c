/- The contract of the document's Flush. -/
import Derived.Test.YtbaijhlkkeongaaSecRefW
namespace Go.Proofs.Ytbaijhlkkeongaa
open Go Go.RowKit Go.Maps

def mixF {α : Type} (i : Nat) (f g : Nat → α) (j : Nat) : α := if j < i then f j else g j
set_option maxRecDepth 100000 in
theorem mixF_zero {α : Type} (f g : Nat → α) : mixF 0 f g = g := by funext j; simp [mixF]
set_option maxRecDepth 100000 in
theorem mixF_step {α : Type} (f g : Nat → α) (i : Nat) (x : α) (hx : x = f i) : upf (mixF i f g) i x = mixF (i + 1) f g := by
  funext j
  by_cases he : j = i
  · subst he; rw [upf_same, hx]; simp [mixF]
  · rw [upf_other _ _ he]
    have : (j < i + 1) ↔ (j < i) := by omega
    simp [mixF, this]
set_option maxRecDepth 100000 in
theorem mixF_all {α : Type} (f g : Nat → α) (i j : Nat) (h : j < i) : mixF i f g j = f j := by simp [mixF, h]
set_option maxRecDepth 100000 in
theorem mixF_at {α : Type} (f g : Nat → α) (i : Nat) : mixF i f g i = g i := by simp [mixF]
set_option maxRecDepth 100000 in
theorem exec_ix0 {P : Program} {a : Act} {w : World} {dst : Option Tmp} {typ : TypeId} {pos : String} {aft : Array Edge} {gd : Option (Nat × Bool)} {x ix : Operand} {t e : TypeId} (hu : P.underlying t = some (.slice e)) (hs : (P.info? e).map (·.size) = some 1) {b n cap : Nat} (i : Nat) {ii : Int} (hx : a.eval x = .slice (some ⟨b, 0, none⟩) n cap) (hix : a.eval ix = .int .i64 ii) (hii : ii = (i : Int)) (hi : i < n) :
    (execOp a.eval { dst := dst, op := .indexAddr t x ix, type := typ, pos := pos, after := aft, guard := gd }).run P w = .ok (.value (.pointer (some ⟨b, i, none⟩))) w := by
  have h := exec_ixI (dst := dst) (typ := typ) (pos := pos) (aft := aft) (gd := gd) (w := w) hu hs i hx hix hii hi
  rw [Nat.zero_add] at h
  exact h
set_option maxRecDepth 100000 in
theorem nd4 {q a b c : Nat} (h : [q, a, b, c].Nodup) : (q ≠ a ∧ q ≠ b ∧ q ≠ c) ∧ (a ≠ b ∧ a ≠ c) ∧ b ≠ c := by
  simp only [List.nodup_cons, List.mem_cons, List.not_mem_nil, or_false, not_or] at h
  exact ⟨h.1, h.2.1, h.2.2.1⟩
set_option maxHeartbeats 1000000 in
set_option maxRecDepth 100000 in
theorem flushR_off (q a b c : Nat) (d : Dk) (ho : d.step.off = true) (hnu : d.Num) (hsn : d.Sane) (w : World) (h : Rf w q a b c d) :
    Calls Try.prog 10 #[.pointer (some ⟨q, 0, none⟩)] w fun e w' => e = .returned (.int .i64 61) ∧ Rf w' q a b c d.step ∧ UpdS [q, a, b, c] w w' := by
  have HD : Hid (Rf w q a b c d) := h
  have HNU : Hid _ := hnu
  have HSN : Hid d.Sane := hsn
  have HO : Hid (d.step.off = true) := ho
  clear h hnu hsn ho
  go_enter Try.func10, Try.ntmps10
  go_wp2_with (first
    | (go_at_call 25; refine (stepR_any q a b c d HNU.out HSN.out _ HD.out).mono ?_; rintro e w1 ⟨he, hd1, hu1⟩; rw [HO.out] at he; subst he; clear HD; have HD : Hid (Rf w1 q a b c d.step) := hd1; have HU1 : Hid _ := hu1; clear hd1 hu1))
  go_ret
  exact ⟨rfl, HD.out, HU1.out⟩
set_option maxHeartbeats 4000000 in
set_option maxRecDepth 100000 in
theorem flushR_good (q a b c : Nat) (d : Dk) (ho : d.step.off = false) (hok : d.Ok) (hnu : d.Num) (hsn : d.Sane) (w : World) (h : Rf w q a b c d) :
    Calls Try.prog 10 #[.pointer (some ⟨q, 0, none⟩)] w fun e w' => e = .returned (.int .i64 0) ∧ Rf w' q a b c d.step.flushed ∧ UpdS [q, a, b, c] w w' := by
  have HD : Hid (Rf w q a b c d) := h
  have HNU : Hid _ := hnu
  have HSN : Hid d.Sane := hsn
  have HO : Hid (d.step.off = false) := ho
  have HND : Hid ((q ≠ a ∧ q ≠ b ∧ q ≠ c) ∧ (a ≠ b ∧ a ≠ c) ∧ b ≠ c) := nd4 h.nd
  have HND0 : Hid ([q, a, b, c].Nodup) := h.nd
  obtain ⟨n, hn⟩ : ∃ n, n = d.n := ⟨_, rfl⟩
  have HN : Hid (∀ _ : Unit, d.step.n = n) := fun _ => hn.symm
  obtain ⟨NW, hNW⟩ : ∃ f, f = d.step.now := ⟨_, rfl⟩
  obtain ⟨KP, hKP⟩ : ∃ f, f = d.step.kept := ⟨_, rfl⟩
  obtain ⟨PP, hPP⟩ : ∃ f, f = pOf d.step := ⟨_, rfl⟩
  have HNW : Hid (∀ _ : Unit, d.step.now = NW) := fun _ => hNW.symm
  have HKP : Hid (∀ _ : Unit, d.step.kept = KP) := fun _ => hKP.symm
  have HPP : Hid (∀ _ : Unit, pOf d.step = PP) := fun _ => hPP.symm
  have HNL : Hid (∀ j, j < n → (NW j).length = 64) := fun j hj => by rw [hNW]; rw [hn] at hj; exact hok.now hj
  have HKL : Hid (∀ j, j < n → (KP j).length = 64) := fun j hj => by rw [hKP]; rw [hn] at hj; exact hok.kept j hj
  have hn4 : n ≤ 4000 := by rw [hn]; exact hok.n
  clear h hnu hsn ho hn hok hNW hKP hPP
  go_enter Try.func10, Try.ntmps10
  go_wp2_with (first
    | (go_at_call 25; refine (stepR_any q a b c d HNU.out HSN.out _ HD.out).mono ?_; rintro e w1 ⟨he, hd1, hu1⟩; rw [HO.out] at he; subst he; clear HD; have HD : Hid (Rf w1 q a b c d.step) := hd1; have HU1 : Hid _ := hu1; clear hd1 hu1))
  have HRW : Hid (RfAt w1 q a b c n NW KP PP d.step.steps d.step.left d.step.off) := by
    have h1 := HD.out
    unfold Rf at h1
    rw [HN.out (), HNW.out (), HKP.out (), HPP.out ()] at h1
    exact h1
  have HQ : Hid (∀ V rows, Mem w1 [b, c] V rows → Row V q (rrow a b c n d.step.steps d.step.left d.step.off) 51 ∧ Row V a (u8s (flatK NW n)) 53) := fun V rows hV => by
    have hnd := HND.out
    constructor
    · unfold Row
      rw [hV.block q (RfAt.row HRW.out).lt (by simp; exact ⟨hnd.1.2.1, hnd.1.2.2⟩)]
      exact RfAt.row HRW.out
    · unfold Row
      rw [hV.block a (RfAt.now HRW.out).lt (by simp; exact hnd.2.1)]
      exact RfAt.now HRW.out
  have HE : Hid (Mem w1 [b, c] w1 [(b, u8s (flatK (mixF 0 NW KP) n), 53), (c, pendL (mixF 0 (fun _ => false) PP) n, 4)]) := by
    rw [mixF_zero, mixF_zero]
    refine ⟨rfl, rfl, rfl, Nat.le_refl _, fun _ _ _ => rfl, ?_, ?_, ?_⟩
    · intro r hr
      simp only [List.mem_cons, List.not_mem_nil, or_false] at hr
      rcases hr with rfl | rfl
      · exact RfAt.kept HRW.out
      · exact RfAt.pend HRW.out
    · simp
      exact HND.out.2.2
    · intro r hr
      simp only [List.mem_cons, List.not_mem_nil, or_false] at hr
      rcases hr with rfl | rfl <;> simp
  go_loopw [3] (fun vi wr => ∃ i : Nat, i ≤ n ∧ vi = .int .i64 (i : Int) ∧ Mem w1 [b, c] wr [(b, u8s (flatK (mixF i NW KP) n), 53), (c, pendL (mixF i (fun _ => false) PP) n, 4)]) (fun vi _ => n - (intOf vi).toNat)
  case atStart => exact ⟨0, by omega, rfl, HE.out⟩
  case round =>
    clear HE
    obtain ⟨i, hi, rfl, hm0⟩ := hrel
    have HM : Hid (Mem w1 [b, c] wr [(b, u8s (flatK (mixF i NW KP) n), 53), (c, pendL (mixF i (fun _ => false) PP) n, 4)]) := hm0
    clear hm0
    have HLQ : Hid (Row wr q (rrow a b c n d.step.steps d.step.left d.step.off) 51) := (HQ.out _ _ HM.out).1
    by_cases hlt : i < n
    · have hlt2 : (i : Int) < (n : Int) := by omega
      have HML : Hid (∀ j, j < n → (mixF i NW KP j).length = 64) := fun j hj => by
        unfold mixF
        split
        · exact HNL.out j hj
        · exact HKL.out j hj
      have HS1 : Hid (splice (u8s (flatK (mixF i NW KP) n)) (i * 64) (u8s (NW i)) = u8s (flatK (mixF (i + 1) NW KP) n)) := by
        show _ = _
        rw [rset _ HML.out (HNL.out i hlt) hlt, mixF_step _ _ _ _ rfl]
      have HS2 : Hid ((pendL (mixF i (fun _ => false) PP) n).set i (.bool false) = pendL (mixF (i + 1) (fun _ => false) PP) n) := by
        show _ = _
        rw [pendL_set, mixF_step _ _ _ _ rfl]
      have HRL : Hid (i * 64 + 64 ≤ (u8s (flatK (mixF i NW KP) n)).length) := rlen HML.out hlt
      have HNI : Hid ((u8s (NW i)).length = 64) := by show _ = _; rw [u8s_length]; exact HNL.out i hlt
      go_wp2_with (first
        | ((with_reducible refine at_op (some 11) (.load 48 (.tmp 10)) ?_); go_must (refine wpl_ldr 0 (.slice (some ⟨a, 0, none⟩) n n) HLQ.out rfl ag_rs rfl ?_)))
      refine wp_ends0 ?_
      refine anyH_start (T := fun V => Mem w1 [b, c] V []) (by kernel_rfl) HM.out ?_
      clear HM HLQ
      intro w5 hm0
      have HM : Hid (Mem w1 [b, c] w5 [(b, u8s (flatK (mixF i NW KP) n), 53), (c, pendL (mixF i (fun _ => false) PP) n, 4)]) := hm0
      have hm : Mem w1 [b, c] w5 [] := hm0.sub (List.nil_sublist _)
      clear hm0
      refine anyH_takeG 0 (v := .pointer (some ⟨q, 0, none⟩)) rfl (by kernel_rfl) (by kernel_rfl) (by kernel_rfl) rfl (fun V _ => by go_simp) hm ?_
      go_simp
      refine anyH_takeG 1 (v := .pointer (some ⟨q, 0, none⟩)) rfl (by kernel_rfl) (by kernel_rfl) (by kernel_rfl) rfl (fun V _ => by go_simp) hm ?_
      go_simp
      refine anyH_takeG 2 (v := .pointer (some ⟨q, 1, none⟩)) rfl (by kernel_rfl) (by kernel_rfl) (by kernel_rfl) rfl (fun V _ => by go_simp) hm ?_
      go_simp
      refine anyH_takeG 3 (v := .slice (some ⟨b, 0, none⟩) n n) rfl (by kernel_rfl) (by kernel_rfl) (by kernel_rfl) rfl (fun V hV => exec_ldrG 1 (.slice (some ⟨b, 0, none⟩) n n) (HQ.out V _ hV).1 rfl ag_rs rfl) hm ?_
      go_simp
      refine anyH_takeG 4 (v := .int .i64 (i : Int)) rfl (by kernel_rfl) (by kernel_rfl) (by kernel_rfl) rfl (fun V _ => by go_simp) hm ?_
      go_simp
      refine anyH_takeG 5 (v := .pointer (some ⟨q, 0, none⟩)) rfl (by kernel_rfl) (by kernel_rfl) (by kernel_rfl) rfl (fun V _ => by go_simp) hm ?_
      go_simp
      refine anyH_takeG 6 (v := .pointer (some ⟨q, 0, none⟩)) rfl (by kernel_rfl) (by kernel_rfl) (by kernel_rfl) rfl (fun V _ => by go_simp) hm ?_
      go_simp
      refine anyH_takeG 7 (v := .pointer (some ⟨q, 2, none⟩)) rfl (by kernel_rfl) (by kernel_rfl) (by kernel_rfl) rfl (fun V _ => by go_simp) hm ?_
      go_simp
      refine anyH_takeG 8 (v := .slice (some ⟨c, 0, none⟩) n n) rfl (by kernel_rfl) (by kernel_rfl) (by kernel_rfl) rfl (fun V hV => exec_ldrG 2 (.slice (some ⟨c, 0, none⟩) n n) (HQ.out V _ hV).1 rfl ag_bos rfl) hm ?_
      go_simp
      refine anyH_takeG 9 (v := .int .i64 (i : Int)) rfl (by kernel_rfl) (by kernel_rfl) (by kernel_rfl) rfl (fun V _ => by go_simp) hm ?_
      go_simp
      refine anyH_takeG 10 (v := .pointer (some ⟨q, 0, none⟩)) rfl (by kernel_rfl) (by kernel_rfl) (by kernel_rfl) rfl (fun V _ => by go_simp) hm ?_
      go_simp
      refine anyH_takeG 11 (v := .pointer (some ⟨q, 0, none⟩)) rfl (by kernel_rfl) (by kernel_rfl) (by kernel_rfl) rfl (fun V _ => by go_simp) hm ?_
      go_simp
      refine anyH_takeG 12 (v := .pointer (some ⟨q, 0, none⟩)) rfl (by kernel_rfl) (by kernel_rfl) (by kernel_rfl) rfl (fun V _ => by go_simp) hm ?_
      go_simp
      refine anyH_takeG 13 (v := .slice (some ⟨a, 0, none⟩) n n) rfl (by kernel_rfl) (by kernel_rfl) (by kernel_rfl) rfl (fun V hV => exec_ldrG 0 (.slice (some ⟨a, 0, none⟩) n n) (HQ.out V _ hV).1 rfl ag_rs rfl) hm ?_
      go_simp
      refine anyH_takeG 14 (v := .int .i64 (i : Int)) rfl (by kernel_rfl) (by kernel_rfl) (by kernel_rfl) rfl (fun V _ => by go_simp) hm ?_
      go_simp
      refine anyH_takeG 15 (v := .pointer (some ⟨a, i * 64, none⟩)) rfl (by kernel_rfl) (by kernel_rfl) (by kernel_rfl) rfl (fun V _ => exec_ixR i rfl rfl rfl hlt) hm ?_
      go_simp
      refine anyH_takeG 16 (v := .agg (u8s (NW i)).toArray) rfl (by kernel_rfl) (by kernel_rfl) (by kernel_rfl) rfl (fun V hV => exec_ldR i (HQ.out V _ hV).2 HNL.out hlt rfl) hm ?_
      go_simp
      refine anyH_takeG 17 (v := .pointer (some ⟨b, i * 64, none⟩)) rfl (by kernel_rfl) (by kernel_rfl) (by kernel_rfl) rfl (fun V _ => exec_ixR i rfl rfl rfl hlt) hm ?_
      go_simp
      refine wpAnyH_all (rs := [18]) (by kernel_rfl) (by simp) ?_
      intro i' hi'
      simp only [List.mem_cons, List.not_mem_nil, or_false] at hi'
      subst hi'
      refine anyH_opW 18 rfl rfl ?_
      intro K hK
      refine wpl_sts 0 (i * 64) (u8s (NW i)) (u8s (flatK (mixF (i + 1) NW KP) n)) HM.out rfl rfl rfl 64 sz_b64 HNI.out HRL.out (u8s_one _) HS1.out ?_
      intro w6 hq
      clear hm HM
      have HM : Hid (Mem w1 [b, c] w6 [(b, u8s (flatK (mixF (i + 1) NW KP) n), 53), (c, pendL (mixF i (fun _ => false) PP) n, 4)]) := hq
      have hm : Mem w1 [b, c] w6 [] := hq.sub (List.nil_sublist _)
      clear hq
      refine wpList_nil ?_
      refine hK _ _ hm ?_
      clear hK K
      go_simp
      refine anyH_takeG 19 (v := .pointer (some ⟨c, i, none⟩)) rfl (by kernel_rfl) (by kernel_rfl) (by kernel_rfl) rfl (fun V _ => exec_ix0 un_bos sz_bool i rfl rfl rfl hlt) hm ?_
      go_simp
      refine wpAnyH_all (rs := [20]) (by kernel_rfl) (by simp) ?_
      intro i' hi'
      simp only [List.mem_cons, List.not_mem_nil, or_false] at hi'
      subst hi'
      refine anyH_opW 20 rfl rfl ?_
      intro K hK
      refine wpl_stc 1 i (.bool false) HM.out rfl rfl rfl sz_bool (by rw [pendL_length]; exact hlt) rfl rfl ?_
      intro w7 hq
      rw [HS2.out] at hq
      clear hm HM
      have HM : Hid (Mem w1 [b, c] w7 [(b, u8s (flatK (mixF (i + 1) NW KP) n), 53), (c, pendL (mixF (i + 1) (fun _ => false) PP) n, 4)]) := hq
      have hm : Mem w1 [b, c] w7 [] := hq.sub (List.nil_sublist _)
      clear hq
      refine wpList_nil ?_
      refine hK _ _ hm ?_
      clear hK K
      go_simp
      refine wpAnyH_done (by kernel_rfl) ?_ _
      simp only [endsIn]
      go_wp2_with fail
      go_roundw
      case rel => exact ⟨i + 1, by omega, by go_num, HM.out⟩
      case measure => simp [intOf]; omega
    · have hlt2 : ¬ ((i : Int) < (n : Int)) := by omega
      have hin : i = n := by omega
      have HMF : Hid (Mem w1 [b, c] wr [(b, u8s (flatK (mixF n NW KP) n), 53), (c, pendL (mixF n (fun _ => false) PP) n, 4)]) := by have h := HM.out; rw [hin] at h; exact h
      clear hin HM
      go_wp2_with (first
        | ((with_reducible refine at_op (some 11) (.load 48 (.tmp 10)) ?_); go_must (refine wpl_ldr 0 (.slice (some ⟨a, 0, none⟩) n n) HLQ.out rfl ag_rs rfl ?_)))
      go_ret
      refine ⟨rfl, ?_, HU1.out.trans ((UpdS.of_mem HMF.out).mono (by simp))⟩
      show RfAt wr q a b c d.step.n d.step.flushed.now d.step.now (pOf d.step.flushed) d.step.steps d.step.left d.step.off
      rw [HN.out (), HNW.out ()]
      have h1 : RfAt wr q a b c n NW (mixF n NW KP) (mixF n (fun _ => false) PP) d.step.steps d.step.left d.step.off :=
        ⟨(HQ.out _ _ HMF.out).1, (HQ.out _ _ HMF.out).2, HMF.out.get 0 rfl, HMF.out.get 1 rfl, HND0.out⟩
      refine h1.congr (fun j _ => ?_) (fun j hj => mixF_all _ _ _ _ hj) (fun j hj => mixF_all _ _ _ _ hj)
      rw [Dk.flushed_now, HNW.out ()]
set_option maxRecDepth 100000 in
theorem flushR_any (q a b c : Nat) (d : Dk) (hok : d.Ok) (hnu : d.Num) (hsn : d.Sane) (w : World) (h : Rf w q a b c d) :
    Calls Try.prog 10 #[.pointer (some ⟨q, 0, none⟩)] w fun e w' => e = .returned (.int .i64 d.fcode) ∧ Rf w' q a b c d.flush ∧ UpdS [q, a, b, c] w w' := by
  unfold Dk.fcode Dk.flush
  cases ho : d.step.off with
  | true =>
    rw [if_pos rfl, if_pos rfl]
    exact flushR_off q a b c d ho hnu hsn w h
  | false =>
    rw [if_neg (by simp), if_neg (by simp)]
    exact flushR_good q a b c d ho hok hnu hsn w h
end Go.Proofs.Ytbaijhlkkeongaa
