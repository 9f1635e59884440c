/- The contract of the document's Crash. -/
import Derived.Test.YtbaijhlkkeongaaSecRefI
namespace Go.Proofs.Ytbaijhlkkeongaa
open Go Go.RowKit Go.Maps

set_option maxRecDepth 100000 in
theorem Mem.restart {w0 w : World} {S : List Nat} {rows : List (Nat × List Value × TypeId)} (h : Mem w0 S w rows) (hS : ∀ r ∈ rows, r.1 ∈ S) : Mem w S w rows :=
  ⟨rfl, rfl, rfl, Nat.le_refl _, fun _ _ _ => rfl, h.row, h.nodup, fun r hr => Or.inl (hS r hr)⟩
set_option maxRecDepth 100000 in
theorem Mem.chain {w0 w w' : World} {S : List Nat} {rows rows' : List (Nat × List Value × TypeId)} (h : Mem w0 S w rows) (k : Mem w S w' rows') (hS : ∀ r ∈ rows', r.1 ∈ S) : Mem w0 S w' rows' :=
  ⟨k.os.trans h.os, k.tape.trans h.tape, k.output.trans h.output, Nat.le_trans h.size k.size, fun i hi hn => (k.block i (Nat.lt_of_lt_of_le hi h.size) hn).trans (h.block i hi hn), k.row, k.nodup, fun r hr => Or.inl (hS r hr)⟩
def cutT (K N : List Int) (sp j : Nat) : List Int := N.take (min j sp) ++ K.drop (min j sp)
set_option maxRecDepth 100000 in
theorem cutT_zero (K N : List Int) (sp : Nat) : cutT K N sp 0 = K := by simp [cutT]
set_option maxRecDepth 100000 in
theorem cutT_length {K N : List Int} (hK : K.length = 64) (hN : N.length = 64) (sp j : Nat) (hj : j ≤ 64) : (cutT K N sp j).length = 64 := by simp [cutT, hK, hN]; omega
set_option maxRecDepth 100000 in
theorem cutT_in {K N : List Int} (hK : K.length = 64) (hN : N.length = 64) (sp j : Nat) (hj : j < 64) (hs : j < sp) : (cutT K N sp j).set j (N.getD j 0) = cutT K N sp (j + 1) := by
  have e1 : min j sp = j := by omega
  have e2 : min (j + 1) sp = j + 1 := by omega
  have hl : (N.take j).length = j := by simp; omega
  unfold cutT
  rw [e1, e2, List.set_append_right _ _ (by omega), hl, Nat.sub_self, List.drop_eq_getElem_cons (by omega), List.set_cons_zero, show N.getD j 0 = N[j] by simp [hN, hj], List.take_succ_eq_append_getElem (by omega), List.append_assoc]
  rfl
set_option maxRecDepth 100000 in
theorem cutT_out (K N : List Int) (sp j : Nat) (hs : ¬ j < sp) : cutT K N sp j = cutT K N sp (j + 1) := by
  have e1 : min j sp = sp := by omega
  have e2 : min (j + 1) sp = sp := by omega
  unfold cutT
  rw [e1, e2]
set_option maxRecDepth 100000 in
theorem cutT_all (K N : List Int) (ch : Int) : cutT K N (spared ch) 64 = tornOf K N ch := by
  have := spared_le ch
  unfold cutT tornOf
  rw [show min 64 (spared ch) = spared ch by omega]
set_option maxRecDepth 100000 in
theorem Dk.rank_pos (d : Dk) (i : Nat) (h : (d.pend i).isSome = true) : d.rank (i + 1) = d.rank i + 1 := by simp [Dk.rank, Dk.pens, List.range_succ, List.filter_append, h]
set_option maxRecDepth 100000 in
theorem Dk.rank_neg (d : Dk) (i : Nat) (h : d.pend i = none) : d.rank (i + 1) = d.rank i := by simp [Dk.rank, Dk.pens, List.range_succ, List.filter_append, h]
set_option maxRecDepth 100000 in
theorem mixF_same {α : Type} (f g : Nat → α) (i : Nat) (h : g i = f i) : mixF i f g = mixF (i + 1) f g := by
  rw [← mixF_step f g i (f i) rfl]
  funext j
  by_cases he : j = i
  · subst he; rw [upf_same, mixF_at, h]
  · rw [upf_other _ _ he]
set_option maxRecDepth 100000 in
theorem exec_ldRV {a : Act} {w : World} {dst : Option Tmp} {typ : TypeId} {pos : String} {aft : Array Edge} {gd : Option (Nat × Bool)} {x : Operand} {ds : Nat → List Int} {n kb : Nat} {t : TypeId} (l : List Int) (i : Nat) (hr : Row w kb (u8s (flatK ds n)) t) (h : ∀ i, i < n → (ds i).length = 64) (hi : i < n) (hl : ds i = l) (hx : a.eval x = .pointer (some ⟨kb, i * 64, none⟩)) :
    (execOp a.eval { dst := dst, op := .load 53 x, type := typ, pos := pos, after := aft, guard := gd }).run Try.prog w = .ok (.value (.agg (u8s l).toArray)) w := by
  subst hl
  exact exec_ldR i hr h hi hx
set_option maxHeartbeats 8000000 in
set_option maxRecDepth 100000 in
theorem crashR_any (q a b c : Nat) (d : Dk) (cs : List Int) (vc : Value) (hcb : Bytes cs) (hok : d.Ok) (w : World) (h : Rf w q a b c d) (hsc : SlA w [q, a, b, c] vc cs) :
    Calls Try.prog 14 #[.pointer (some ⟨q, 0, none⟩), vc] w fun e w' => e = .returned (.tuple #[]) ∧ Rf w' q a b c (d.crash cs) ∧ UpdS [q, a, b, c] w w' := by
  obtain ⟨pc, cc, rfl, hccap, _⟩ := id hsc
  obtain ⟨cl, hcl⟩ : ∃ cl, cl = cs.length := ⟨_, rfl⟩
  have HSC : Hid (SlA w [q, a, b, c] (.slice pc cl cc) cs) := by rw [hcl]; exact hsc
  have HCL : Hid (∀ _ : Unit, cl = cs.length) := fun _ => hcl
  have HCB : Hid (Bytes cs) := hcb
  rw [← hcl]
  have HND : Hid ((q ≠ a ∧ q ≠ b ∧ q ≠ c) ∧ (a ≠ b ∧ a ≠ c) ∧ b ≠ c) := nd4 h.nd
  have HND0 : Hid ([q, a, b, c].Nodup) := h.nd
  obtain ⟨n, hn⟩ : ∃ n, n = d.n := ⟨_, rfl⟩
  have HN : Hid (∀ _ : Unit, d.n = n) := fun _ => hn.symm
  obtain ⟨NW, hNW⟩ : ∃ f, f = d.now := ⟨_, rfl⟩
  obtain ⟨KP, hKP⟩ : ∃ f, f = d.kept := ⟨_, rfl⟩
  obtain ⟨PP, hPP⟩ : ∃ f, f = pOf d := ⟨_, rfl⟩
  obtain ⟨KA, hKA⟩ : ∃ f, f = d.keptAt cs (d.rank d.n) := ⟨_, rfl⟩
  obtain ⟨s, hs0⟩ : ∃ s, s = d.steps := ⟨_, rfl⟩
  have HNL : Hid (∀ j, j < n → (NW j).length = 64) := fun j hj => by rw [hNW]; rw [hn] at hj; exact hok.now hj
  have HKL : Hid (∀ j, j < n → (KP j).length = 64) := fun j hj => by rw [hKP]; rw [hn] at hj; exact hok.kept j hj
  have HAL : Hid (∀ j, j < n → (KA j).length = 64) := fun j hj => by rw [hKA]; rw [hn] at hj; exact (Dk.keptAt_ok hok cs _ j hj).1
  have HPN : Hid (∀ i, i < n → PP i = false → NW i = KA i ∧ KP i = KA i ∧ d.rank (i + 1) = d.rank i) := fun i hi hp => by
    rw [hPP] at hp
    have hpn : d.pend i = none := by
      cases hq : d.pend i with
      | none => rfl
      | some l => simp [pOf, hq] at hp
    rw [hNW, hKA, hKP]
    exact ⟨by simp [Dk.now, Dk.keptAt, hpn], by simp [Dk.keptAt, hpn], d.rank_neg i hpn⟩
  have HPS : Hid (∀ i, i < n → PP i = true → KA i = tornOf (KP i) (NW i) (cs.getD (d.rank i) 0) ∧ d.rank (i + 1) = d.rank i + 1) := fun i hi hp => by
    rw [hPP] at hp
    obtain ⟨l, hl⟩ := Option.isSome_iff_exists.1 hp
    have hlt := d.rank_lt d.n i (by rw [hn] at hi; exact hi) hp
    rw [hNW, hKA, hKP]
    refine ⟨?_, d.rank_pos i hp⟩
    simp [Dk.keptAt, Dk.now, hl, hlt]
  have HRB : Hid (∀ i, i ≤ n → d.rank i ≤ 4000) := fun i hi => Nat.le_trans (d.rank_le i) (by have := hok.n; omega)
  have hn4 : n ≤ 4000 := by rw [hn]; exact hok.n
  have HRW : Hid (RfAt w q a b c n NW KP PP s d.left d.off) := by rw [hn, hNW, hKP, hPP, hs0]; exact h
  have HCR : Hid (∀ W, RfAt W q a b c n KA KA (fun _ => false) s 0 false → Rf W q a b c (d.crash cs)) := fun W hW => by
    rw [hn, hKA, hs0] at hW
    exact RfAt.congr (w := W) hW (fun _ _ => rfl) (fun _ _ => rfl) (fun _ _ => rfl)
  have HZ : Hid ((u8s zeroK).length = 64) := by show _ = _; rw [u8s_length]; exact zeroK_length
  have hm := Mem.enter (RfAt.row HRW.out)
  obtain ⟨l0, hl0⟩ : ∃ l, l = d.left := ⟨_, rfl⟩
  obtain ⟨o0, ho0⟩ : ∃ o, o = d.off := ⟨_, rfl⟩
  rw [← hl0, ← ho0] at hm
  clear h hsc hcb hcl hccap hn hNW hKP hPP hKA hs0 hl0 ho0 hok
  go_enter Try.func14, Try.ntmps14
  go_wp2_with (first
    | ((with_reducible refine at_op none (.store 4 (.tmp 12) (.const (.bool false))) ?_); refine wpl_stc 0 5 (.bool false) hm rfl (rfl) rfl sz_bool (by show _ < 6; omega) rfl rfl ?_; clear hm; intro w1 hm; replace hm : Mem w [q] _ [(q, rrow a b c n s l0 false, 51)] := hm)
    | ((with_reducible refine at_op none (.store 3 (.tmp 14) (.const (.int .i64 0))) ?_); refine wpl_stc 0 4 (.int .i64 0) hm rfl (rfl) rfl sz_int (by show _ < 6; omega) rfl rfl ?_; clear hm; intro w2 hm; replace hm : Mem w [q] _ [(q, rrow a b c n s 0 false, 51)] := hm))
  have HU2 : Hid (Upd q w w2) := hm.toUpd
  have HRW2 : Hid (RfAt w2 q a b c n NW KP PP s 0 false) := RfAt.turn HRW.out hm.toUpd (hm.get 0 rfl)
  have HSC2 : Hid (SlA w2 [q, a, b, c] (.slice pc cl cc) cs) := SlA.upd HSC.out (UpdS.of_upd HU2.out (by simp))
  have HQ : Hid (∀ V rows, Mem w2 [a, b, c] V rows → Row V q (rrow a b c n s 0 false) 51) := fun V rows hV => by
    have hnd := HND.out
    unfold Row
    rw [hV.block q (RfAt.row HRW2.out).lt (by simp; exact ⟨hnd.1.1, hnd.1.2.1, hnd.1.2.2⟩)]
    exact RfAt.row HRW2.out
  have HE : Hid (Mem w2 [a, b, c] w2 [(a, u8s (flatK (mixF 0 KA NW) n), 53), (b, u8s (flatK (mixF 0 KA KP) n), 53), (c, pendL (mixF 0 (fun _ => false) PP) n, 4)]) := by
    rw [mixF_zero, mixF_zero, mixF_zero]
    refine ⟨rfl, rfl, rfl, Nat.le_refl _, fun _ _ _ => rfl, ?_, ?_, ?_⟩
    · intro r hr
      simp only [List.mem_cons, List.not_mem_nil, or_false] at hr
      rcases hr with rfl | rfl | rfl
      · exact RfAt.now HRW2.out
      · exact RfAt.kept HRW2.out
      · exact RfAt.pend HRW2.out
    · have hnd := HND.out
      simp
      exact ⟨hnd.2.1, hnd.2.2⟩
    · intro r hr
      simp only [List.mem_cons, List.not_mem_nil, or_false] at hr
      rcases hr with rfl | rfl | rfl <;> simp
  clear hm HRW HSC
  go_loopw [4, 5] (fun vk vi wr => ∃ i rk : Nat, i ≤ n ∧ vi = .int .i64 (i : Int) ∧ vk = .int .i64 (rk : Int) ∧ rk = d.rank i ∧ Mem w2 [a, b, c] wr [(a, u8s (flatK (mixF i KA NW) n), 53), (b, u8s (flatK (mixF i KA KP) n), 53), (c, pendL (mixF i (fun _ => false) PP) n, 4)]) (fun _ vi _ => n - (intOf vi).toNat)
  case atStart => exact ⟨0, 0, by omega, rfl, rfl, rfl, HE.out⟩
  case round =>
    clear HE
    obtain ⟨i, rk, hi, rfl, rfl, hrk, hm0⟩ := hrel
    have HM : Hid (Mem w2 [a, b, c] wr [(a, u8s (flatK (mixF i KA NW) n), 53), (b, u8s (flatK (mixF i KA KP) n), 53), (c, pendL (mixF i (fun _ => false) PP) n, 4)]) := hm0
    have HRK0 : Hid (∀ _ : Unit, rk = d.rank i) := fun _ => hrk
    have hrk4 : rk ≤ 4000 := by rw [hrk]; exact HRB.out i hi
    clear hm0 hrk
    by_cases hlt : i < n
    · have hlt2 : (i : Int) < (n : Int) := by omega
      have HML : Hid (∀ j, j < n → (mixF i KA KP j).length = 64) := fun j hj => by
        unfold mixF
        split
        · exact HAL.out j hj
        · exact HKL.out j hj
      have HMN : Hid (∀ j, j < n → (mixF i KA NW j).length = 64) := fun j hj => by
        unfold mixF
        split
        · exact HAL.out j hj
        · exact HNL.out j hj
      have HPI : Hid ((pendL (mixF i (fun _ => false) PP) n)[i]? = some (.bool (PP i))) := by show _ = _; rw [pendL_get _ n i hlt, mixF_at]
      have HKI : Hid ((u8s (KP i)).length = 64) := by show _ = _; rw [u8s_length]; exact HKL.out i hlt
      cases hPi : PP i with
      | false =>
        rw [hPi] at HPI
        have HSM : Hid (Mem w2 [a, b, c] wr [(a, u8s (flatK (mixF (i + 1) KA NW) n), 53), (b, u8s (flatK (mixF (i + 1) KA KP) n), 53), (c, pendL (mixF (i + 1) (fun _ => false) PP) n, 4)]) := by
          have h1 := HPN.out i hlt hPi
          rw [← mixF_same KA NW i h1.1, ← mixF_same KA KP i h1.2.1, ← mixF_same (fun _ => false) PP i hPi]
          exact HM.out
        have HRK : Hid (rk = d.rank (i + 1)) := by show _ = _; rw [(HPN.out i hlt hPi).2.2]; exact HRK0.out ()
        clear hPi
        go_wp2_with (first
          | ((with_reducible refine at_op (some 19) (.load 48 (.tmp 18)) ?_); go_must (refine wpl_ldr 0 (.slice (some ⟨a, 0, none⟩) n n) (HQ.out _ _ HM.out) rfl ag_rs rfl ?_))
          | ((with_reducible refine at_op (some 27) (.load 49 (.tmp 26)) ?_); go_must (refine wpl_ldr 2 (.slice (some ⟨c, 0, none⟩) n n) (HQ.out _ _ HM.out) rfl ag_bos rfl ?_))
          | ((with_reducible refine at_op (some 29) (.indexAddr 49 (.tmp 27) (.tmp 28)) ?_); go_must (refine wpl_execG (.pointer (some ⟨c, i, none⟩)) rfl (exec_ix0 un_bos sz_bool i rfl rfl rfl hlt) ?_))
          | ((with_reducible refine at_op (some 30) (.load 4 (.tmp 29)) ?_); go_must (refine wpl_ldr i (.bool false) (Mem.get HM.out 2 rfl) rfl ag_bool HPI.out ?_)))
        go_roundw
        case rel => exact ⟨i + 1, rk, by omega, by go_num, rfl, HRK.out, HSM.out⟩
        case measure => simp [intOf]; omega
      | true =>
        rw [hPi] at HPI
        have HRK : Hid (rk + 1 = d.rank (i + 1)) := by show _ = _; rw [(HPS.out i hlt hPi).2, HRK0.out ()]
        have HT0 : Hid (tornOf (KP i) (NW i) (cs.getD rk 0) = KA i) := by show _ = _; rw [(HPS.out i hlt hPi).1, ← HRK0.out ()]
        clear hPi
        by_cases hkc : rk < cl
        · have hkc2 : (rk : Int) < (cl : Int) := by omega
          obtain ⟨bc, oc, hpc, hnc, hcc⟩ := SlA.at HSC2.out rk hkc
          have HNC : Hid (bc ∉ [q, a, b, c]) := hnc
          have HCC0 : Hid (w2.cell? ⟨bc, oc + rk, none⟩ = some (.int .u8 (cs.getD rk 0))) := hcc
          subst hpc
          obtain ⟨ch, hch⟩ : ∃ x, x = cs.getD rk 0 := ⟨_, rfl⟩
          have hcb2 : 0 ≤ ch ∧ ch < 256 := by rw [hch]; exact Bytes.get HCB.out rk
          obtain ⟨hch0, hch1⟩ := hcb2
          have HCC : Hid (wr.cell? ⟨bc, oc + rk, none⟩ = some (.int .u8 ch)) := by
            show _ = _
            rw [Mem.old HM.out (p := ⟨bc, oc + rk, none⟩) (block_lt_of_cell HCC0.out) (by intro hh; exact HNC.out (List.mem_cons_of_mem _ hh)), HCC0.out, hch]
          have HTO : Hid (tornOf (KP i) (NW i) ch = KA i) := by rw [hch]; exact HT0.out
          obtain ⟨SP, hSP⟩ : ∃ x, x = spared ch := ⟨_, rfl⟩
          clear hcc hnc hch HCC0 HNC HT0
          have HSP : Hid (∀ _ : Unit, spared ch = SP) := fun _ => hSP.symm
          clear hSP
          go_wp2_with (first
            | ((with_reducible refine at_op (some 19) (.load 48 (.tmp 18)) ?_); go_must (refine wpl_ldr 0 (.slice (some ⟨a, 0, none⟩) n n) (HQ.out _ _ HM.out) rfl ag_rs rfl ?_))
            | ((with_reducible refine at_op (some 27) (.load 49 (.tmp 26)) ?_); go_must (refine wpl_ldr 2 (.slice (some ⟨c, 0, none⟩) n n) (HQ.out _ _ HM.out) rfl ag_bos rfl ?_))
            | ((with_reducible refine at_op (some 29) (.indexAddr 49 (.tmp 27) (.tmp 28)) ?_); go_must (refine wpl_execG (.pointer (some ⟨c, i, none⟩)) rfl (exec_ix0 un_bos sz_bool i rfl rfl rfl hlt) ?_))
            | ((with_reducible refine at_op (some 30) (.load 4 (.tmp 29)) ?_); go_must (refine wpl_ldr i (.bool true) (Mem.get HM.out 2 rfl) rfl ag_bool HPI.out ?_))
            | ((with_reducible refine at_op (some 38) (.indexAddr 28 (.tmp 36) (.tmp 37)) ?_); go_must (refine wpl_execG (.pointer (some ⟨bc, oc + rk, none⟩)) rfl (exec_ixI un_bs sz_u8 rk rfl rfl rfl hkc) ?_))
            | ((with_reducible refine at_op (some 39) (.load 5 (.tmp 38)) ?_); go_must (refine wpl_ldx (.int .u8 ch) HCC.out rfl ag_u8 ?_))
            | ((with_reducible refine at_op (some 45) (.load 48 (.tmp 44)) ?_); go_must (refine wpl_ldr 1 (.slice (some ⟨b, 0, none⟩) n n) (HQ.out _ _ HM.out) rfl ag_rs rfl ?_))
            | ((with_reducible refine at_op (some 47) (.indexAddr 48 (.tmp 45) (.tmp 46)) ?_); go_must (refine wpl_execG (.pointer (some ⟨b, i * 64, none⟩)) rfl (exec_ixR i rfl rfl rfl hlt) ?_))
            | ((with_reducible refine at_op (some 48) (.load 53 (.tmp 47)) ?_); go_must (refine wpl_execG (.agg (u8s (KP i)).toArray) rfl (exec_ldRV (KP i) i (Mem.get HM.out 1 rfl) HML.out hlt (mixF_at ..) rfl) ?_))
            | ((with_reducible refine at_op (some 7) (.alloc 53) ?_); go_must (refine wpl_alloc _ zero_b64 HM.out ?_); intro w5 r hq; have HM5 : Hid (Mem w2 [a, b, c] w5 [(r, u8s zeroK, 53), (a, u8s (flatK (mixF i KA NW) n), 53), (b, u8s (flatK (mixF i KA KP) n), 53), (c, pendL (mixF i (fun _ => false) PP) n, 4)]) := hq; clear hq HM)
            | ((with_reducible refine at_op none (.store 53 (.tmp 7) (.tmp 48)) ?_); go_must (refine wpl_stw 0 (u8s (KP i)) HM5.out rfl rfl rfl 64 sz_b64 HZ.out HKI.out (u8s_one _) ?_); intro w6 hq; have HM6 : Hid (Mem w2 [a, b, c] w6 [(r, u8s (cutT (KP i) (NW i) SP 0), 53), (a, u8s (flatK (mixF i KA NW) n), 53), (b, u8s (flatK (mixF i KA KP) n), 53), (c, pendL (mixF i (fun _ => false) PP) n, 4)]) := (by rw [cutT_zero]; exact hq); clear hq HM5))
          go_loopw [8] (fun vj wr' => ∃ j : Nat, j ≤ 64 ∧ vj = .int .i64 (j : Int) ∧ Mem w2 [a, b, c] wr' [(r, u8s (cutT (KP i) (NW i) SP j), 53), (a, u8s (flatK (mixF i KA NW) n), 53), (b, u8s (flatK (mixF i KA KP) n), 53), (c, pendL (mixF i (fun _ => false) PP) n, 4)]) (fun vj _ => 64 - (intOf vj).toNat)
          case atStart => exact ⟨0, by omega, rfl, HM6.out⟩
          case round =>
            clear HM6
            obtain ⟨j, hj, rfl, hm0⟩ := hrel
            have HM : Hid (Mem w2 [a, b, c] wr [(r, u8s (cutT (KP i) (NW i) SP j), 53), (a, u8s (flatK (mixF i KA NW) n), 53), (b, u8s (flatK (mixF i KA KP) n), 53), (c, pendL (mixF i (fun _ => false) PP) n, 4)]) := hm0
            clear hm0
            by_cases hjl : j < 64
            · have hjl2 : (j : Int) < 64 := by omega
              obtain ⟨x, hx⟩ : ∃ x, x = (NW i).getD j 0 := ⟨_, rfl⟩
              have HLN : Hid (j < (u8s (cutT (KP i) (NW i) SP j)).length) := by show j < _; rw [u8s_length, cutT_length (HKL.out i hlt) (HNL.out i hlt) SP j hj]; exact hjl
              have HIN : Hid (j < SP → (u8s (cutT (KP i) (NW i) SP j)).set j (.int .u8 x) = u8s (cutT (KP i) (NW i) SP (j + 1))) := fun hs => by rw [u8s_set, hx, cutT_in (HKL.out i hlt) (HNL.out i hlt) SP j hjl hs]
              have HCX : Hid ((u8s (flatK (mixF i KA NW) n))[i * 64 + j]? = some (.int .u8 x)) := by
                show _ = _
                have h1 := HMN.out
                rw [u8s_get _ _ (by rw [flatK_length _ n h1]; omega), hx, ← mixF_at KA NW i, ← flatK_at (mixF i KA NW) n i h1 hlt, List.getD_eq_getElem?_getD, List.getD_eq_getElem?_getD, List.getElem?_take, if_pos hjl, List.getElem?_drop]
              clear hx
              by_cases h255 : ch = 255
              · have h255b : (ch == 255) = true := by simpa using h255
                have hs : j < SP := by rw [← HSP.out (), h255]; exact hjl
                clear h255
                go_wp2_with (first
                  | ((with_reducible refine at_op (some 70) (.load 48 (.tmp 69)) ?_); go_must (refine wpl_ldr 0 (.slice (some ⟨a, 0, none⟩) n n) (HQ.out _ _ HM.out) rfl ag_rs rfl ?_))
                  | ((with_reducible refine at_op (some 73) (.indexAddr 48 (.tmp 70) (.tmp 71)) ?_); go_must (refine wpl_execG (.pointer (some ⟨a, i * 64, none⟩)) rfl (exec_ixR i rfl rfl rfl hlt) ?_))
                  | ((with_reducible refine at_op (some 75) (.load 5 (.tmp 74)) ?_); go_must (refine wpl_ldr (i * 64 + j) (.int .u8 x) (Mem.get HM.out 1 rfl) rfl ag_u8 HCX.out ?_))
                  | ((with_reducible refine at_op none (.store 5 (.tmp 76) (.tmp 75)) ?_); go_must (refine wpl_stc 0 j (.int .u8 x) HM.out rfl rfl rfl sz_u8 HLN.out rfl rfl ?_); intro w7 hq; rw [List.set_cons_zero, HIN.out hs] at hq; have HM7 : Hid (Mem w2 [a, b, c] w7 [(r, u8s (cutT (KP i) (NW i) SP (j + 1)), 53), (a, u8s (flatK (mixF i KA NW) n), 53), (b, u8s (flatK (mixF i KA KP) n), 53), (c, pendL (mixF i (fun _ => false) PP) n, 4)]) := hq; clear hq HM))
                go_roundw
                case rel => exact ⟨j + 1, by omega, by go_num, HM7.out⟩
                case measure => simp [intOf]; omega
              · have h255b : (ch == 255) = false := by simpa using h255
                have hsp : SP = (ch % 64).toNat := by rw [← HSP.out ()]; unfold spared; rw [if_neg h255]
                clear h255
                by_cases h0 : ch > 0
                · by_cases hjs : (j : Int) < ch % 64
                  · have hs : j < SP := by omega
                    clear hsp
                    go_wp2_with (first
                      | ((with_reducible refine at_op (some 70) (.load 48 (.tmp 69)) ?_); go_must (refine wpl_ldr 0 (.slice (some ⟨a, 0, none⟩) n n) (HQ.out _ _ HM.out) rfl ag_rs rfl ?_))
                      | ((with_reducible refine at_op (some 73) (.indexAddr 48 (.tmp 70) (.tmp 71)) ?_); go_must (refine wpl_execG (.pointer (some ⟨a, i * 64, none⟩)) rfl (exec_ixR i rfl rfl rfl hlt) ?_))
                      | ((with_reducible refine at_op (some 75) (.load 5 (.tmp 74)) ?_); go_must (refine wpl_ldr (i * 64 + j) (.int .u8 x) (Mem.get HM.out 1 rfl) rfl ag_u8 HCX.out ?_))
                      | ((with_reducible refine at_op none (.store 5 (.tmp 76) (.tmp 75)) ?_); go_must (refine wpl_stc 0 j (.int .u8 x) HM.out rfl rfl rfl sz_u8 HLN.out rfl rfl ?_); intro w7 hq; rw [List.set_cons_zero, HIN.out hs] at hq; have HM7 : Hid (Mem w2 [a, b, c] w7 [(r, u8s (cutT (KP i) (NW i) SP (j + 1)), 53), (a, u8s (flatK (mixF i KA NW) n), 53), (b, u8s (flatK (mixF i KA KP) n), 53), (c, pendL (mixF i (fun _ => false) PP) n, 4)]) := hq; clear hq HM))
                    go_roundw
                    case rel => exact ⟨j + 1, by omega, by go_num, HM7.out⟩
                    case measure => simp [intOf]; omega
                  · have hs : ¬ j < SP := by omega
                    clear hsp
                    have HM7 : Hid (Mem w2 [a, b, c] wr [(r, u8s (cutT (KP i) (NW i) SP (j + 1)), 53), (a, u8s (flatK (mixF i KA NW) n), 53), (b, u8s (flatK (mixF i KA KP) n), 53), (c, pendL (mixF i (fun _ => false) PP) n, 4)]) := by rw [← cutT_out _ _ SP j hs]; exact HM.out
                    go_wp2_with fail
                    go_roundw
                    case rel => exact ⟨j + 1, by omega, by go_num, HM7.out⟩
                    case measure => simp [intOf]; omega
                · have hs : ¬ j < SP := by omega
                  clear hsp
                  have HM7 : Hid (Mem w2 [a, b, c] wr [(r, u8s (cutT (KP i) (NW i) SP (j + 1)), 53), (a, u8s (flatK (mixF i KA NW) n), 53), (b, u8s (flatK (mixF i KA KP) n), 53), (c, pendL (mixF i (fun _ => false) PP) n, 4)]) := by rw [← cutT_out _ _ SP j hs]; exact HM.out
                  go_wp2_with fail
                  go_roundw
                  case rel => exact ⟨j + 1, by omega, by go_num, HM7.out⟩
                  case measure => simp [intOf]; omega
            · have hj64 : j = 64 := by omega
              have HMF : Hid (Mem w2 [a, b, c] wr [(r, u8s (cutT (KP i) (NW i) SP 64), 53), (a, u8s (flatK (mixF i KA NW) n), 53), (b, u8s (flatK (mixF i KA KP) n), 53), (c, pendL (mixF i (fun _ => false) PP) n, 4)]) := by have h := HM.out; rw [hj64] at h; exact h
              have hjl2 : ¬ ((j : Int) < 64) := by omega
              clear hj64 HM
              obtain ⟨T, hT⟩ : ∃ T, T = cutT (KP i) (NW i) SP 64 := ⟨_, rfl⟩
              have HTK : Hid (∀ _ : Unit, T = KA i) := fun _ => by rw [hT, ← HSP.out (), cutT_all]; exact HTO.out
              have HTL : Hid ((u8s T).length = 64) := by show _ = _; rw [hT, u8s_length, cutT_length (HKL.out i hlt) (HNL.out i hlt) SP 64 (Nat.le_refl _)]
              have HTR : Hid (Row wr r (u8s T) 53) := by rw [hT]; exact Mem.get HMF.out 0 rfl
              have HM0 : Hid (Mem w2 [a, b, c] wr [(a, u8s (flatK (mixF i KA NW) n), 53), (b, u8s (flatK (mixF i KA KP) n), 53), (c, pendL (mixF i (fun _ => false) PP) n, 4)]) := Mem.tail HMF.out
              have HRF : Hid (r ∉ [a, b, c]) := by
                have hnd := Mem.nodup HMF.out
                simp only [List.map_cons, List.map_nil, List.nodup_cons] at hnd
                exact hnd.1
              have HMS : Hid (Mem wr [a, b, c] wr [(a, u8s (flatK (mixF i KA NW) n), 53), (b, u8s (flatK (mixF i KA KP) n), 53), (c, pendL (mixF i (fun _ => false) PP) n, 4)]) := Mem.restart HM0.out (by intro r hr; simp only [List.mem_cons, List.not_mem_nil, or_false] at hr; rcases hr with rfl | rfl | rfl <;> simp)
              have HQS : Hid (∀ V rows, Mem wr [a, b, c] V rows → Row V q (rrow a b c n s 0 false) 51 ∧ Row V r (u8s T) 53) := fun V rows hV => by
                have h1 := HQ.out _ _ HM0.out
                constructor
                · unfold Row
                  rw [hV.block q h1.lt (by have := HND.out; simp; exact ⟨this.1.1, this.1.2.1, this.1.2.2⟩)]
                  exact h1
                · unfold Row
                  rw [hV.block r HTR.out.lt HRF.out]
                  exact HTR.out
              have HS1 : Hid (splice (u8s (flatK (mixF i KA NW) n)) (i * 64) (u8s T) = u8s (flatK (mixF (i + 1) KA NW) n)) := by
                show _ = _
                rw [rset _ HMN.out (by have := HTL.out; rw [u8s_length] at this; exact this) hlt, mixF_step _ _ _ _ (HTK.out ())]
              have HS2 : Hid (splice (u8s (flatK (mixF i KA KP) n)) (i * 64) (u8s T) = u8s (flatK (mixF (i + 1) KA KP) n)) := by
                show _ = _
                rw [rset _ HML.out (by have := HTL.out; rw [u8s_length] at this; exact this) hlt, mixF_step _ _ _ _ (HTK.out ())]
              have HS3 : Hid ((pendL (mixF i (fun _ => false) PP) n).set i (.bool false) = pendL (mixF (i + 1) (fun _ => false) PP) n) := by
                show _ = _
                rw [pendL_set, mixF_step _ _ _ _ rfl]
              have HR1 : Hid (i * 64 + 64 ≤ (u8s (flatK (mixF i KA NW) n)).length) := rlen HMN.out hlt
              have HR2 : Hid (i * 64 + 64 ≤ (u8s (flatK (mixF i KA KP) n)).length) := rlen HML.out hlt
              clear hT HMF
              go_wp2_with fail
              refine wp_ends0 ?_
              refine anyH_start (T := fun V => Mem wr [a, b, c] V []) (by kernel_rfl) HMS.out ?_
              clear HMS
              intro w8 hm0
              have HMS : Hid (Mem wr [a, b, c] w8 [(a, u8s (flatK (mixF i KA NW) n), 53), (b, u8s (flatK (mixF i KA KP) n), 53), (c, pendL (mixF i (fun _ => false) PP) n, 4)]) := hm0
              have hm : Mem wr [a, b, c] w8 [] := hm0.sub (List.nil_sublist _)
              clear hm0
              refine anyH_takeG 0 (v := .pointer (some ⟨q, 0, none⟩)) rfl (by kernel_rfl) (by kernel_rfl) (by kernel_rfl) rfl (fun V _ => by go_simp) hm ?_
              go_simp
              refine anyH_takeG 1 (v := .pointer (some ⟨q, 0, none⟩)) rfl (by kernel_rfl) (by kernel_rfl) (by kernel_rfl) rfl (fun V _ => by go_simp) hm ?_
              go_simp
              refine anyH_takeG 2 (v := .pointer (some ⟨q, 0, none⟩)) rfl (by kernel_rfl) (by kernel_rfl) (by kernel_rfl) rfl (fun V _ => by go_simp) hm ?_
              go_simp
              refine anyH_takeG 3 (v := .slice (some ⟨a, 0, none⟩) n n) rfl (by kernel_rfl) (by kernel_rfl) (by kernel_rfl) rfl (fun V hV => exec_ldrG 0 (.slice (some ⟨a, 0, none⟩) n n) (HQS.out V _ hV).1 rfl ag_rs rfl) hm ?_
              go_simp
              refine anyH_takeG 4 (v := .int .i64 (i : Int)) rfl (by kernel_rfl) (by kernel_rfl) (by kernel_rfl) rfl (fun V _ => by go_simp) hm ?_
              go_simp
              refine anyH_takeG 5 (v := .pointer (some ⟨q, 0, none⟩)) rfl (by kernel_rfl) (by kernel_rfl) (by kernel_rfl) rfl (fun V _ => by go_simp) hm ?_
              go_simp
              refine anyH_takeG 6 (v := .pointer (some ⟨q, 0, none⟩)) rfl (by kernel_rfl) (by kernel_rfl) (by kernel_rfl) rfl (fun V _ => by go_simp) hm ?_
              go_simp
              refine anyH_takeG 7 (v := .pointer (some ⟨q, 1, none⟩)) rfl (by kernel_rfl) (by kernel_rfl) (by kernel_rfl) rfl (fun V _ => by go_simp) hm ?_
              go_simp
              refine anyH_takeG 8 (v := .slice (some ⟨b, 0, none⟩) n n) rfl (by kernel_rfl) (by kernel_rfl) (by kernel_rfl) rfl (fun V hV => exec_ldrG 1 (.slice (some ⟨b, 0, none⟩) n n) (HQS.out V _ hV).1 rfl ag_rs rfl) hm ?_
              go_simp
              refine anyH_takeG 9 (v := .int .i64 (i : Int)) rfl (by kernel_rfl) (by kernel_rfl) (by kernel_rfl) rfl (fun V _ => by go_simp) hm ?_
              go_simp
              refine anyH_takeG 10 (v := .pointer (some ⟨q, 0, none⟩)) rfl (by kernel_rfl) (by kernel_rfl) (by kernel_rfl) rfl (fun V _ => by go_simp) hm ?_
              go_simp
              refine anyH_takeG 11 (v := .pointer (some ⟨q, 0, none⟩)) rfl (by kernel_rfl) (by kernel_rfl) (by kernel_rfl) rfl (fun V _ => by go_simp) hm ?_
              go_simp
              refine anyH_takeG 12 (v := .pointer (some ⟨q, 2, none⟩)) rfl (by kernel_rfl) (by kernel_rfl) (by kernel_rfl) rfl (fun V _ => by go_simp) hm ?_
              go_simp
              refine anyH_takeG 13 (v := .slice (some ⟨c, 0, none⟩) n n) rfl (by kernel_rfl) (by kernel_rfl) (by kernel_rfl) rfl (fun V hV => exec_ldrG 2 (.slice (some ⟨c, 0, none⟩) n n) (HQS.out V _ hV).1 rfl ag_bos rfl) hm ?_
              go_simp
              refine anyH_takeG 14 (v := .int .i64 (i : Int)) rfl (by kernel_rfl) (by kernel_rfl) (by kernel_rfl) rfl (fun V _ => by go_simp) hm ?_
              go_simp
              refine anyH_takeG 15 (v := .agg (u8s T).toArray) rfl (by kernel_rfl) (by kernel_rfl) (by kernel_rfl) rfl (fun V hV => exec_ldsG 0 (u8s T) (HQS.out V _ hV).2 rfl _ un_b64 rfl 64 sz_b64 (by rw [HTL.out]; omega) (by rw [List.drop_zero, List.take_of_length_le (by rw [HTL.out]; omega)])) hm ?_
              go_simp
              refine anyH_takeG 16 (v := .agg (u8s T).toArray) rfl (by kernel_rfl) (by kernel_rfl) (by kernel_rfl) rfl (fun V hV => exec_ldsG 0 (u8s T) (HQS.out V _ hV).2 rfl _ un_b64 rfl 64 sz_b64 (by rw [HTL.out]; omega) (by rw [List.drop_zero, List.take_of_length_le (by rw [HTL.out]; omega)])) hm ?_
              go_simp
              refine anyH_takeG 17 (v := .pointer (some ⟨a, i * 64, none⟩)) rfl (by kernel_rfl) (by kernel_rfl) (by kernel_rfl) rfl (fun V _ => exec_ixR i rfl rfl rfl hlt) hm ?_
              go_simp
              refine wpAnyH_all (rs := [18]) (by kernel_rfl) (by simp) ?_
              intro i' hi'
              simp only [List.mem_cons, List.not_mem_nil, or_false] at hi'
              subst hi'
              refine anyH_opW 18 rfl rfl ?_
              intro K hK
              refine wpl_sts 0 (i * 64) (u8s T) (u8s (flatK (mixF (i + 1) KA NW) n)) HMS.out rfl rfl rfl 64 sz_b64 HTL.out HR1.out (u8s_one _) HS1.out ?_
              intro w9 hq
              clear hm HMS
              have HMS : Hid (Mem wr [a, b, c] w9 [(a, u8s (flatK (mixF (i + 1) KA NW) n), 53), (b, u8s (flatK (mixF i KA KP) n), 53), (c, pendL (mixF i (fun _ => false) PP) n, 4)]) := hq
              have hm : Mem wr [a, b, c] w9 [] := hq.sub (List.nil_sublist _)
              clear hq
              refine wpList_nil ?_
              refine hK _ _ hm ?_
              clear hK K
              go_simp
              refine anyH_takeG 19 (v := .pointer (some ⟨b, i * 64, none⟩)) rfl (by kernel_rfl) (by kernel_rfl) (by kernel_rfl) rfl (fun V _ => exec_ixR i rfl rfl rfl hlt) hm ?_
              go_simp
              refine wpAnyH_all (rs := [20]) (by kernel_rfl) (by simp) ?_
              intro i' hi'
              simp only [List.mem_cons, List.not_mem_nil, or_false] at hi'
              subst hi'
              refine anyH_opW 20 rfl rfl ?_
              intro K hK
              refine wpl_sts 1 (i * 64) (u8s T) (u8s (flatK (mixF (i + 1) KA KP) n)) HMS.out rfl rfl rfl 64 sz_b64 HTL.out HR2.out (u8s_one _) HS2.out ?_
              intro w10 hq
              clear hm HMS
              have HMS : Hid (Mem wr [a, b, c] w10 [(a, u8s (flatK (mixF (i + 1) KA NW) n), 53), (b, u8s (flatK (mixF (i + 1) KA KP) n), 53), (c, pendL (mixF i (fun _ => false) PP) n, 4)]) := hq
              have hm : Mem wr [a, b, c] w10 [] := hq.sub (List.nil_sublist _)
              clear hq
              refine wpList_nil ?_
              refine hK _ _ hm ?_
              clear hK K
              go_simp
              refine anyH_takeG 21 (v := .pointer (some ⟨c, i, none⟩)) rfl (by kernel_rfl) (by kernel_rfl) (by kernel_rfl) rfl (fun V _ => exec_ix0 un_bos sz_bool i rfl rfl rfl hlt) hm ?_
              go_simp
              refine wpAnyH_all (rs := [22]) (by kernel_rfl) (by simp) ?_
              intro i' hi'
              simp only [List.mem_cons, List.not_mem_nil, or_false] at hi'
              subst hi'
              refine anyH_opW 22 rfl rfl ?_
              intro K hK
              refine wpl_stc 2 i (.bool false) HMS.out rfl rfl rfl sz_bool (by rw [pendL_length]; exact hlt) rfl rfl ?_
              intro w11 hq
              replace hq : Mem wr [a, b, c] w11 [(a, u8s (flatK (mixF (i + 1) KA NW) n), 53), (b, u8s (flatK (mixF (i + 1) KA KP) n), 53), (c, (pendL (mixF i (fun _ => false) PP) n).set i (.bool false), 4)] := hq
              rw [HS3.out] at hq
              clear hm HMS
              have HMS : Hid (Mem wr [a, b, c] w11 [(a, u8s (flatK (mixF (i + 1) KA NW) n), 53), (b, u8s (flatK (mixF (i + 1) KA KP) n), 53), (c, pendL (mixF (i + 1) (fun _ => false) PP) n, 4)]) := hq
              have hm : Mem wr [a, b, c] w11 [] := hq.sub (List.nil_sublist _)
              clear hq
              refine wpList_nil ?_
              refine hK _ _ hm ?_
              clear hK K
              go_simp
              refine wpAnyH_done (by kernel_rfl) ?_ _
              simp only [endsIn]
              have HMN1 : Hid (Mem w2 [a, b, c] w11 [(a, u8s (flatK (mixF (i + 1) KA NW) n), 53), (b, u8s (flatK (mixF (i + 1) KA KP) n), 53), (c, pendL (mixF (i + 1) (fun _ => false) PP) n, 4)]) := Mem.chain HM0.out HMS.out (by intro r hr; simp only [List.mem_cons, List.not_mem_nil, or_false] at hr; rcases hr with rfl | rfl | rfl <;> simp)
              go_wp2_with fail
              go_roundw
              case rel => exact ⟨i + 1, rk + 1, by omega, by go_num, by go_num, HRK.out, HMN1.out⟩
              case measure => simp [intOf]; omega
        · have hkc2 : ¬ ((rk : Int) < (cl : Int)) := by omega
          have HTO : Hid (tornOf (KP i) (NW i) 0 = KA i) := by have h := HT0.out; rw [getD_out cs rk (by rw [← HCL.out ()]; exact hkc)] at h; exact h
          obtain ⟨SP, hSP⟩ : ∃ x, x = spared 0 := ⟨_, rfl⟩
          clear HT0
          have HSP : Hid (∀ _ : Unit, spared 0 = SP) := fun _ => hSP.symm
          clear hSP
          go_wp2_with (first
            | ((with_reducible refine at_op (some 19) (.load 48 (.tmp 18)) ?_); go_must (refine wpl_ldr 0 (.slice (some ⟨a, 0, none⟩) n n) (HQ.out _ _ HM.out) rfl ag_rs rfl ?_))
            | ((with_reducible refine at_op (some 27) (.load 49 (.tmp 26)) ?_); go_must (refine wpl_ldr 2 (.slice (some ⟨c, 0, none⟩) n n) (HQ.out _ _ HM.out) rfl ag_bos rfl ?_))
            | ((with_reducible refine at_op (some 29) (.indexAddr 49 (.tmp 27) (.tmp 28)) ?_); go_must (refine wpl_execG (.pointer (some ⟨c, i, none⟩)) rfl (exec_ix0 un_bos sz_bool i rfl rfl rfl hlt) ?_))
            | ((with_reducible refine at_op (some 30) (.load 4 (.tmp 29)) ?_); go_must (refine wpl_ldr i (.bool true) (Mem.get HM.out 2 rfl) rfl ag_bool HPI.out ?_))
            | ((with_reducible refine at_op (some 45) (.load 48 (.tmp 44)) ?_); go_must (refine wpl_ldr 1 (.slice (some ⟨b, 0, none⟩) n n) (HQ.out _ _ HM.out) rfl ag_rs rfl ?_))
            | ((with_reducible refine at_op (some 47) (.indexAddr 48 (.tmp 45) (.tmp 46)) ?_); go_must (refine wpl_execG (.pointer (some ⟨b, i * 64, none⟩)) rfl (exec_ixR i rfl rfl rfl hlt) ?_))
            | ((with_reducible refine at_op (some 48) (.load 53 (.tmp 47)) ?_); go_must (refine wpl_execG (.agg (u8s (KP i)).toArray) rfl (exec_ldRV (KP i) i (Mem.get HM.out 1 rfl) HML.out hlt (mixF_at ..) rfl) ?_))
            | ((with_reducible refine at_op (some 7) (.alloc 53) ?_); go_must (refine wpl_alloc _ zero_b64 HM.out ?_); intro w5 r hq; have HM5 : Hid (Mem w2 [a, b, c] w5 [(r, u8s zeroK, 53), (a, u8s (flatK (mixF i KA NW) n), 53), (b, u8s (flatK (mixF i KA KP) n), 53), (c, pendL (mixF i (fun _ => false) PP) n, 4)]) := hq; clear hq HM)
            | ((with_reducible refine at_op none (.store 53 (.tmp 7) (.tmp 48)) ?_); go_must (refine wpl_stw 0 (u8s (KP i)) HM5.out rfl rfl rfl 64 sz_b64 HZ.out HKI.out (u8s_one _) ?_); intro w6 hq; have HM6 : Hid (Mem w2 [a, b, c] w6 [(r, u8s (cutT (KP i) (NW i) SP 0), 53), (a, u8s (flatK (mixF i KA NW) n), 53), (b, u8s (flatK (mixF i KA KP) n), 53), (c, pendL (mixF i (fun _ => false) PP) n, 4)]) := (by rw [cutT_zero]; exact hq); clear hq HM5))
          go_loopw [8] (fun vj wr' => ∃ j : Nat, j ≤ 64 ∧ vj = .int .i64 (j : Int) ∧ Mem w2 [a, b, c] wr' [(r, u8s (cutT (KP i) (NW i) SP j), 53), (a, u8s (flatK (mixF i KA NW) n), 53), (b, u8s (flatK (mixF i KA KP) n), 53), (c, pendL (mixF i (fun _ => false) PP) n, 4)]) (fun vj _ => 64 - (intOf vj).toNat)
          case atStart => exact ⟨0, by omega, rfl, HM6.out⟩
          case round =>
            clear HM6
            obtain ⟨j, hj, rfl, hm0⟩ := hrel
            have HM : Hid (Mem w2 [a, b, c] wr [(r, u8s (cutT (KP i) (NW i) SP j), 53), (a, u8s (flatK (mixF i KA NW) n), 53), (b, u8s (flatK (mixF i KA KP) n), 53), (c, pendL (mixF i (fun _ => false) PP) n, 4)]) := hm0
            clear hm0
            by_cases hjl : j < 64
            · have hjl2 : (j : Int) < 64 := by omega
              obtain ⟨x, hx⟩ : ∃ x, x = (NW i).getD j 0 := ⟨_, rfl⟩
              have HLN : Hid (j < (u8s (cutT (KP i) (NW i) SP j)).length) := by show j < _; rw [u8s_length, cutT_length (HKL.out i hlt) (HNL.out i hlt) SP j hj]; exact hjl
              have HIN : Hid (j < SP → (u8s (cutT (KP i) (NW i) SP j)).set j (.int .u8 x) = u8s (cutT (KP i) (NW i) SP (j + 1))) := fun hs => by rw [u8s_set, hx, cutT_in (HKL.out i hlt) (HNL.out i hlt) SP j hjl hs]
              have HCX : Hid ((u8s (flatK (mixF i KA NW) n))[i * 64 + j]? = some (.int .u8 x)) := by
                show _ = _
                have h1 := HMN.out
                rw [u8s_get _ _ (by rw [flatK_length _ n h1]; omega), hx, ← mixF_at KA NW i, ← flatK_at (mixF i KA NW) n i h1 hlt, List.getD_eq_getElem?_getD, List.getD_eq_getElem?_getD, List.getElem?_take, if_pos hjl, List.getElem?_drop]
              clear hx
              have hs : ¬ j < SP := by rw [← HSP.out ()]; simp [spared]
              have HM7 : Hid (Mem w2 [a, b, c] wr [(r, u8s (cutT (KP i) (NW i) SP (j + 1)), 53), (a, u8s (flatK (mixF i KA NW) n), 53), (b, u8s (flatK (mixF i KA KP) n), 53), (c, pendL (mixF i (fun _ => false) PP) n, 4)]) := by rw [← cutT_out _ _ SP j hs]; exact HM.out
              go_wp2_with fail
              go_roundw
              case rel => exact ⟨j + 1, by omega, by go_num, HM7.out⟩
              case measure => simp [intOf]; omega
            · have hj64 : j = 64 := by omega
              have HMF : Hid (Mem w2 [a, b, c] wr [(r, u8s (cutT (KP i) (NW i) SP 64), 53), (a, u8s (flatK (mixF i KA NW) n), 53), (b, u8s (flatK (mixF i KA KP) n), 53), (c, pendL (mixF i (fun _ => false) PP) n, 4)]) := by have h := HM.out; rw [hj64] at h; exact h
              have hjl2 : ¬ ((j : Int) < 64) := by omega
              clear hj64 HM
              obtain ⟨T, hT⟩ : ∃ T, T = cutT (KP i) (NW i) SP 64 := ⟨_, rfl⟩
              have HTK : Hid (∀ _ : Unit, T = KA i) := fun _ => by rw [hT, ← HSP.out (), cutT_all]; exact HTO.out
              have HTL : Hid ((u8s T).length = 64) := by show _ = _; rw [hT, u8s_length, cutT_length (HKL.out i hlt) (HNL.out i hlt) SP 64 (Nat.le_refl _)]
              have HTR : Hid (Row wr r (u8s T) 53) := by rw [hT]; exact Mem.get HMF.out 0 rfl
              have HM0 : Hid (Mem w2 [a, b, c] wr [(a, u8s (flatK (mixF i KA NW) n), 53), (b, u8s (flatK (mixF i KA KP) n), 53), (c, pendL (mixF i (fun _ => false) PP) n, 4)]) := Mem.tail HMF.out
              have HRF : Hid (r ∉ [a, b, c]) := by
                have hnd := Mem.nodup HMF.out
                simp only [List.map_cons, List.map_nil, List.nodup_cons] at hnd
                exact hnd.1
              have HMS : Hid (Mem wr [a, b, c] wr [(a, u8s (flatK (mixF i KA NW) n), 53), (b, u8s (flatK (mixF i KA KP) n), 53), (c, pendL (mixF i (fun _ => false) PP) n, 4)]) := Mem.restart HM0.out (by intro r hr; simp only [List.mem_cons, List.not_mem_nil, or_false] at hr; rcases hr with rfl | rfl | rfl <;> simp)
              have HQS : Hid (∀ V rows, Mem wr [a, b, c] V rows → Row V q (rrow a b c n s 0 false) 51 ∧ Row V r (u8s T) 53) := fun V rows hV => by
                have h1 := HQ.out _ _ HM0.out
                constructor
                · unfold Row
                  rw [hV.block q h1.lt (by have := HND.out; simp; exact ⟨this.1.1, this.1.2.1, this.1.2.2⟩)]
                  exact h1
                · unfold Row
                  rw [hV.block r HTR.out.lt HRF.out]
                  exact HTR.out
              have HS1 : Hid (splice (u8s (flatK (mixF i KA NW) n)) (i * 64) (u8s T) = u8s (flatK (mixF (i + 1) KA NW) n)) := by
                show _ = _
                rw [rset _ HMN.out (by have := HTL.out; rw [u8s_length] at this; exact this) hlt, mixF_step _ _ _ _ (HTK.out ())]
              have HS2 : Hid (splice (u8s (flatK (mixF i KA KP) n)) (i * 64) (u8s T) = u8s (flatK (mixF (i + 1) KA KP) n)) := by
                show _ = _
                rw [rset _ HML.out (by have := HTL.out; rw [u8s_length] at this; exact this) hlt, mixF_step _ _ _ _ (HTK.out ())]
              have HS3 : Hid ((pendL (mixF i (fun _ => false) PP) n).set i (.bool false) = pendL (mixF (i + 1) (fun _ => false) PP) n) := by
                show _ = _
                rw [pendL_set, mixF_step _ _ _ _ rfl]
              have HR1 : Hid (i * 64 + 64 ≤ (u8s (flatK (mixF i KA NW) n)).length) := rlen HMN.out hlt
              have HR2 : Hid (i * 64 + 64 ≤ (u8s (flatK (mixF i KA KP) n)).length) := rlen HML.out hlt
              clear hT HMF
              go_wp2_with fail
              refine wp_ends0 ?_
              refine anyH_start (T := fun V => Mem wr [a, b, c] V []) (by kernel_rfl) HMS.out ?_
              clear HMS
              intro w8 hm0
              have HMS : Hid (Mem wr [a, b, c] w8 [(a, u8s (flatK (mixF i KA NW) n), 53), (b, u8s (flatK (mixF i KA KP) n), 53), (c, pendL (mixF i (fun _ => false) PP) n, 4)]) := hm0
              have hm : Mem wr [a, b, c] w8 [] := hm0.sub (List.nil_sublist _)
              clear hm0
              refine anyH_takeG 0 (v := .pointer (some ⟨q, 0, none⟩)) rfl (by kernel_rfl) (by kernel_rfl) (by kernel_rfl) rfl (fun V _ => by go_simp) hm ?_
              go_simp
              refine anyH_takeG 1 (v := .pointer (some ⟨q, 0, none⟩)) rfl (by kernel_rfl) (by kernel_rfl) (by kernel_rfl) rfl (fun V _ => by go_simp) hm ?_
              go_simp
              refine anyH_takeG 2 (v := .pointer (some ⟨q, 0, none⟩)) rfl (by kernel_rfl) (by kernel_rfl) (by kernel_rfl) rfl (fun V _ => by go_simp) hm ?_
              go_simp
              refine anyH_takeG 3 (v := .slice (some ⟨a, 0, none⟩) n n) rfl (by kernel_rfl) (by kernel_rfl) (by kernel_rfl) rfl (fun V hV => exec_ldrG 0 (.slice (some ⟨a, 0, none⟩) n n) (HQS.out V _ hV).1 rfl ag_rs rfl) hm ?_
              go_simp
              refine anyH_takeG 4 (v := .int .i64 (i : Int)) rfl (by kernel_rfl) (by kernel_rfl) (by kernel_rfl) rfl (fun V _ => by go_simp) hm ?_
              go_simp
              refine anyH_takeG 5 (v := .pointer (some ⟨q, 0, none⟩)) rfl (by kernel_rfl) (by kernel_rfl) (by kernel_rfl) rfl (fun V _ => by go_simp) hm ?_
              go_simp
              refine anyH_takeG 6 (v := .pointer (some ⟨q, 0, none⟩)) rfl (by kernel_rfl) (by kernel_rfl) (by kernel_rfl) rfl (fun V _ => by go_simp) hm ?_
              go_simp
              refine anyH_takeG 7 (v := .pointer (some ⟨q, 1, none⟩)) rfl (by kernel_rfl) (by kernel_rfl) (by kernel_rfl) rfl (fun V _ => by go_simp) hm ?_
              go_simp
              refine anyH_takeG 8 (v := .slice (some ⟨b, 0, none⟩) n n) rfl (by kernel_rfl) (by kernel_rfl) (by kernel_rfl) rfl (fun V hV => exec_ldrG 1 (.slice (some ⟨b, 0, none⟩) n n) (HQS.out V _ hV).1 rfl ag_rs rfl) hm ?_
              go_simp
              refine anyH_takeG 9 (v := .int .i64 (i : Int)) rfl (by kernel_rfl) (by kernel_rfl) (by kernel_rfl) rfl (fun V _ => by go_simp) hm ?_
              go_simp
              refine anyH_takeG 10 (v := .pointer (some ⟨q, 0, none⟩)) rfl (by kernel_rfl) (by kernel_rfl) (by kernel_rfl) rfl (fun V _ => by go_simp) hm ?_
              go_simp
              refine anyH_takeG 11 (v := .pointer (some ⟨q, 0, none⟩)) rfl (by kernel_rfl) (by kernel_rfl) (by kernel_rfl) rfl (fun V _ => by go_simp) hm ?_
              go_simp
              refine anyH_takeG 12 (v := .pointer (some ⟨q, 2, none⟩)) rfl (by kernel_rfl) (by kernel_rfl) (by kernel_rfl) rfl (fun V _ => by go_simp) hm ?_
              go_simp
              refine anyH_takeG 13 (v := .slice (some ⟨c, 0, none⟩) n n) rfl (by kernel_rfl) (by kernel_rfl) (by kernel_rfl) rfl (fun V hV => exec_ldrG 2 (.slice (some ⟨c, 0, none⟩) n n) (HQS.out V _ hV).1 rfl ag_bos rfl) hm ?_
              go_simp
              refine anyH_takeG 14 (v := .int .i64 (i : Int)) rfl (by kernel_rfl) (by kernel_rfl) (by kernel_rfl) rfl (fun V _ => by go_simp) hm ?_
              go_simp
              refine anyH_takeG 15 (v := .agg (u8s T).toArray) rfl (by kernel_rfl) (by kernel_rfl) (by kernel_rfl) rfl (fun V hV => exec_ldsG 0 (u8s T) (HQS.out V _ hV).2 rfl _ un_b64 rfl 64 sz_b64 (by rw [HTL.out]; omega) (by rw [List.drop_zero, List.take_of_length_le (by rw [HTL.out]; omega)])) hm ?_
              go_simp
              refine anyH_takeG 16 (v := .agg (u8s T).toArray) rfl (by kernel_rfl) (by kernel_rfl) (by kernel_rfl) rfl (fun V hV => exec_ldsG 0 (u8s T) (HQS.out V _ hV).2 rfl _ un_b64 rfl 64 sz_b64 (by rw [HTL.out]; omega) (by rw [List.drop_zero, List.take_of_length_le (by rw [HTL.out]; omega)])) hm ?_
              go_simp
              refine anyH_takeG 17 (v := .pointer (some ⟨a, i * 64, none⟩)) rfl (by kernel_rfl) (by kernel_rfl) (by kernel_rfl) rfl (fun V _ => exec_ixR i rfl rfl rfl hlt) hm ?_
              go_simp
              refine wpAnyH_all (rs := [18]) (by kernel_rfl) (by simp) ?_
              intro i' hi'
              simp only [List.mem_cons, List.not_mem_nil, or_false] at hi'
              subst hi'
              refine anyH_opW 18 rfl rfl ?_
              intro K hK
              refine wpl_sts 0 (i * 64) (u8s T) (u8s (flatK (mixF (i + 1) KA NW) n)) HMS.out rfl rfl rfl 64 sz_b64 HTL.out HR1.out (u8s_one _) HS1.out ?_
              intro w9 hq
              clear hm HMS
              have HMS : Hid (Mem wr [a, b, c] w9 [(a, u8s (flatK (mixF (i + 1) KA NW) n), 53), (b, u8s (flatK (mixF i KA KP) n), 53), (c, pendL (mixF i (fun _ => false) PP) n, 4)]) := hq
              have hm : Mem wr [a, b, c] w9 [] := hq.sub (List.nil_sublist _)
              clear hq
              refine wpList_nil ?_
              refine hK _ _ hm ?_
              clear hK K
              go_simp
              refine anyH_takeG 19 (v := .pointer (some ⟨b, i * 64, none⟩)) rfl (by kernel_rfl) (by kernel_rfl) (by kernel_rfl) rfl (fun V _ => exec_ixR i rfl rfl rfl hlt) hm ?_
              go_simp
              refine wpAnyH_all (rs := [20]) (by kernel_rfl) (by simp) ?_
              intro i' hi'
              simp only [List.mem_cons, List.not_mem_nil, or_false] at hi'
              subst hi'
              refine anyH_opW 20 rfl rfl ?_
              intro K hK
              refine wpl_sts 1 (i * 64) (u8s T) (u8s (flatK (mixF (i + 1) KA KP) n)) HMS.out rfl rfl rfl 64 sz_b64 HTL.out HR2.out (u8s_one _) HS2.out ?_
              intro w10 hq
              clear hm HMS
              have HMS : Hid (Mem wr [a, b, c] w10 [(a, u8s (flatK (mixF (i + 1) KA NW) n), 53), (b, u8s (flatK (mixF (i + 1) KA KP) n), 53), (c, pendL (mixF i (fun _ => false) PP) n, 4)]) := hq
              have hm : Mem wr [a, b, c] w10 [] := hq.sub (List.nil_sublist _)
              clear hq
              refine wpList_nil ?_
              refine hK _ _ hm ?_
              clear hK K
              go_simp
              refine anyH_takeG 21 (v := .pointer (some ⟨c, i, none⟩)) rfl (by kernel_rfl) (by kernel_rfl) (by kernel_rfl) rfl (fun V _ => exec_ix0 un_bos sz_bool i rfl rfl rfl hlt) hm ?_
              go_simp
              refine wpAnyH_all (rs := [22]) (by kernel_rfl) (by simp) ?_
              intro i' hi'
              simp only [List.mem_cons, List.not_mem_nil, or_false] at hi'
              subst hi'
              refine anyH_opW 22 rfl rfl ?_
              intro K hK
              refine wpl_stc 2 i (.bool false) HMS.out rfl rfl rfl sz_bool (by rw [pendL_length]; exact hlt) rfl rfl ?_
              intro w11 hq
              replace hq : Mem wr [a, b, c] w11 [(a, u8s (flatK (mixF (i + 1) KA NW) n), 53), (b, u8s (flatK (mixF (i + 1) KA KP) n), 53), (c, (pendL (mixF i (fun _ => false) PP) n).set i (.bool false), 4)] := hq
              rw [HS3.out] at hq
              clear hm HMS
              have HMS : Hid (Mem wr [a, b, c] w11 [(a, u8s (flatK (mixF (i + 1) KA NW) n), 53), (b, u8s (flatK (mixF (i + 1) KA KP) n), 53), (c, pendL (mixF (i + 1) (fun _ => false) PP) n, 4)]) := hq
              have hm : Mem wr [a, b, c] w11 [] := hq.sub (List.nil_sublist _)
              clear hq
              refine wpList_nil ?_
              refine hK _ _ hm ?_
              clear hK K
              go_simp
              refine wpAnyH_done (by kernel_rfl) ?_ _
              simp only [endsIn]
              have HMN1 : Hid (Mem w2 [a, b, c] w11 [(a, u8s (flatK (mixF (i + 1) KA NW) n), 53), (b, u8s (flatK (mixF (i + 1) KA KP) n), 53), (c, pendL (mixF (i + 1) (fun _ => false) PP) n, 4)]) := Mem.chain HM0.out HMS.out (by intro r hr; simp only [List.mem_cons, List.not_mem_nil, or_false] at hr; rcases hr with rfl | rfl | rfl <;> simp)
              go_wp2_with fail
              go_roundw
              case rel => exact ⟨i + 1, rk + 1, by omega, by go_num, by go_num, HRK.out, HMN1.out⟩
              case measure => simp [intOf]; omega
    · have hlt2 : ¬ ((i : Int) < (n : Int)) := by omega
      have hin : i = n := by omega
      have HMF : Hid (Mem w2 [a, b, c] wr [(a, u8s (flatK (mixF n KA NW) n), 53), (b, u8s (flatK (mixF n KA KP) n), 53), (c, pendL (mixF n (fun _ => false) PP) n, 4)]) := by have h := HM.out; rw [hin] at h; exact h
      clear hin
      go_wp2_with (first
        | ((with_reducible refine at_op (some 19) (.load 48 (.tmp 18)) ?_); go_must (refine wpl_ldr 0 (.slice (some ⟨a, 0, none⟩) n n) (HQ.out _ _ HM.out) rfl ag_rs rfl ?_)))
      first | go_ret | go_end0
      refine ⟨rfl, HCR.out _ ?_, (UpdS.of_upd HU2.out (by simp)).trans ((UpdS.of_mem HMF.out).mono (by simp))⟩
      have h1 : RfAt wr q a b c n (mixF n KA NW) (mixF n KA KP) (mixF n (fun _ => false) PP) s 0 false :=
        ⟨HQ.out _ _ HMF.out, HMF.out.get 0 rfl, HMF.out.get 1 rfl, HMF.out.get 2 rfl, HND0.out⟩
      exact h1.congr (fun j hj => mixF_all _ _ _ _ hj) (fun j hj => mixF_all _ _ _ _ hj) (fun j hj => mixF_all _ _ _ _ hj)
end Go.Proofs.Ytbaijhlkkeongaa
