/- The contract of Write: what is written is held behind what was. -/
import Derived.Test.YtonbfbcbmdnelaaDoorPut
namespace Go.Proofs.YtonbfbcbmdnelaaDoor
open Go Go.RowKit

theorem Tab.mem {w0 w : World} {S : List Nat} {rows : List (Nat × List Value × TypeId)} (h : Tab w0) (hm : Mem w0 S w rows) (hS : 0 ∉ S) : Tab w := by
  intro j hj
  rw [hm.old (p := ⟨0, j, none⟩) h.lt hS]
  exact h j hj
theorem Tab.below {w w' : World} (h : Tab w) (hb : Below w.heap.size w w') : Tab w' := by
  intro j hj
  rw [hb.cell (p := ⟨0, j, none⟩) h.lt]
  exact h j hj
theorem Tab.upd {w w' : World} {g : Nat} (h : Tab w) (hu : Upd g w w') (hg : 0 ≠ g) : Tab w' := by
  intro j hj
  rw [hu.cell (p := ⟨0, j, none⟩) h.lt hg]
  exact h j hj
theorem le_of_cut {j n r l : Nat} (h : n ≤ r) (hr : r = l - j) (hj : j ≤ l) : j + n ≤ l := by omega
set_option maxHeartbeats 2000000 in
set_option maxRecDepth 100000 in
theorem write_any (g : Nat) (m cs : List Int) (v : Value) (hbm : Bytes m) (hbc : Bytes cs) (hlen : m.length + cs.length ≤ 1099511627776) (w : World) (ht : Tab w) (hg0 : 0 ≠ g) (hr : Row w g (hrow (wsOf m) (restOf m) m.length) 66) (hv : Sl w g v cs) :
    Calls Tryd.prog 26 #[.pointer (some ⟨g, 0, none⟩), v] w fun e w' => e = .returned (.tuple #[]) ∧ Row w' g (hrow (wsOf (m ++ cs)) (restOf (m ++ cs)) (m ++ cs).length) 66 ∧ Upd g w w' := by
  obtain ⟨p, cap, rfl, hcap, hseg⟩ := hv
  have hS : 0 ∉ [g] := by simpa using hg0
  have hm := Mem.enter hr
  have hw8 := wsOf_length m
  have hr64 := restOf_length m
  have hsm : (m.length : Int) < 64 → wsOf m = firstW := fun h => wsOf_small m (by omega)
  have hsz : (hrow (wsOf m) (restOf m) m.length)[72]? = some (.int .i64 m.length) := hrow_size _ _ _ hw8 hr64
  have hln : (hrow (wsOf m) (restOf m) m.length).length = 73 := hrow_length _ _ _ hw8 hr64
  have HT : Hid _ := ht
  have HBM : Hid _ := hbm
  have HBC : Hid _ := hbc
  have HW8 : Hid _ := hw8
  have HR64 : Hid _ := hr64
  have HSM : Hid _ := hsm
  have HSZ : Hid _ := hsz
  have HLN : Hid _ := hln
  have HSEG : Hid _ := hseg
  have HS : Hid _ := hS
  clear ht hbm hbc hw8 hr64 hsm hsz hln hseg hS hr hg0
  go_enter Tryd.func26, Tryd.ntmps26
  go_wp2_with (first
    | (go_at_call 33; refine (begun_any g _ _ _ HW8.out HR64.out HSM.out _ (hm.get 0 rfl)).mono ?_; rintro e w1 ⟨rfl, hb⟩; replace hm := hm.call hb; clear hb)
    | ((with_reducible refine at_op (some 4) (.alloc 59) ?_); refine wpl_alloc _ zero_w8 hm ?_; clear hm; intro w2 g4 hm)
    | ((with_reducible refine at_op none (.store 59 (.tmp 4) (.tmp 8)) ?_); refine wpl_stw 0 (u32s (wsOf m)) hm rfl rfl rfl 8 sz_w8 (by simp [u32s_length]) (by rw [u32s_length]; exact HW8.out) (u32s_one _) ?_; clear hm; intro w3 hm)
    | ((with_reducible refine at_op (some 12) (.load 3 (.tmp 11)) ?_); refine wpl_ldc 1 72 (.int .i64 m.length) hm rfl rfl ag_int (HSZ.out) ?_)
    | ((with_reducible refine at_op (some 17) (.load 3 (.tmp 16)) ?_); refine wpl_ldc 1 72 (.int .i64 m.length) hm rfl rfl ag_int (HSZ.out) ?_)
    | ((with_reducible refine at_op none (.store 3 (.tmp 22) (.tmp 20)) ?_); refine wpl_stc 1 72 (.int .i64 (m.length + cs.length)) hm rfl (rfl) rfl sz_int (by rw [HLN.out]; omega) rfl rfl ?_; clear hm; intro w4 hm))

  rw [hrow_setSize _ _ _ _ HW8.out HR64.out] at hm
  replace hm : Mem w [g] w4 [(g4, u32s (wsOf m), 59), (g, hrow (wsOf m) (restOf m) (m.length + cs.length), 66)] := hm
  clear HSM HSZ HLN HR64
  go_loopw [1, 5] (fun vb vh wr => ∃ j : Nat, j ≤ cs.length ∧ vh = .int .i64 ((m.length + j) % 64 : Nat) ∧ Sl w g vb (cs.drop j) ∧ Mem w [g] wr [(g4, u32s (wsOf (m ++ cs.take j)), 59), (g, hrow (wsOf m) (restOf (m ++ cs.take j)) (m.length + cs.length), 66)])
    (fun vb _ _ => slLen vb)
  case atStart => exact ⟨0, by omega, by go_num, ⟨p, cap, rfl, hcap, HSEG.out⟩, by simpa using hm⟩
  case round =>
    clear hm HSEG hcap
    obtain ⟨j, hj, rfl, ⟨p', cap', rfl, hcap', hseg'⟩, hm⟩ := hrel
    have hdl : (cs.drop j).length = cs.length - j := by simp
    rw [hdl] at hcap' hseg'
    rw [hdl]
    obtain ⟨q, hq⟩ : ∃ q, q = (m.length + j) % 64 := ⟨_, rfl⟩
    obtain ⟨r, hrr⟩ : ∃ r, r = cs.length - j := ⟨_, rfl⟩
    rw [← hq, ← hrr]
    rw [← hrr] at hcap' hseg' hdl
    by_cases hpos : 0 < r
    · obtain ⟨b, off, rfl, hne, hsg⟩ := hseg' hpos
      obtain ⟨n, hn⟩ : ∃ n, n = Nat.min r (64 - q) := ⟨_, rfl⟩
      have hq64 : q < 64 := by omega
      have hnr : n ≤ r := by rw [hn]; exact Nat.min_le_left _ _
      have hnq : n ≤ 64 - q := by rw [hn]; exact Nat.min_le_right _ _
      have hjn : j + n ≤ cs.length := le_of_cut hnr hrr hj
      obtain ⟨d, hd⟩ : ∃ d, d = (cs.drop j).take n := ⟨_, rfl⟩
      have hdn : d.length = n := by rw [hd]; simp [hdl]; omega
      have hM : (m ++ cs.take j).length = m.length + j := by simp; omega
      have hMq : (m ++ cs.take j).length % 64 = q := by rw [hM, hq]
      have hM' : m ++ cs.take (j + n) = (m ++ cs.take j) ++ d := by rw [hd, List.append_assoc, List.take_add]
      have hsd : Seg w b off d := by rw [hd]; exact hsg.take n
      have hbd : Bytes d := by rw [hd]; exact (Bytes.drop HBC.out j).take n
      have hbM : Bytes (m ++ cs.take j) := Bytes.append HBM.out (Bytes.take HBC.out j)
      have hsl : ∀ p', p' = (if cap' = n then some ⟨b, off, none⟩ else (some (⟨b, off, none⟩ : Addr)).map (·.add n)) → Sl w g (.slice p' (r - n) (cap' - n)) (cs.drop (j + n)) := by
        intro p' hp
        have := sl_drop (p := p') (n := n) (by rw [hdl]; exact hcap') (by rw [hdl]; exact hnr) hne hsg hp
        rw [hdl, List.drop_drop] at this
        exact this
      have hlr : (hrow (wsOf m) (restOf (m ++ cs.take j)) (m.length + cs.length)).length = 73 := hrow_length _ _ _ HW8.out (restOf_length _)
      have hnew : splice (hrow (wsOf m) (restOf (m ++ cs.take j)) (m.length + cs.length)) (8 + q) (u8s d) = hrow (wsOf m) (splice (restOf (m ++ cs.take j)) q d) (m.length + cs.length) := hrow_setRest _ _ _ _ _ HW8.out (restOf_length _) (by omega)
      have hnp : 0 < n := by rw [hn]; exact Nat.lt_min.2 ⟨hpos, by omega⟩
      have hne' : b ∉ [g] := by simpa using hne
      have HNE : Hid _ := hne'
      have HSL : Hid _ := hsl
      have HLR : Hid _ := hlr
      have HNEW : Hid _ := hnew
      have HN : Hid _ := hn
      have HDN : Hid _ := hdn
      have HMQ : Hid _ := hMq
      have HM' : Hid _ := hM'
      have HSD : Hid (Seg w b off d) := hsd
      have HBD : Hid _ := hbd
      have HBJ : Hid _ := hbM
      have HQ : Hid _ := hq
      have HRR : Hid _ := hrr
      clear hseg' hsl hlr hnew hn hdn hMq hM' hsd hbd hbM hq hd hM hne hsg hdl hne' hrr
      by_cases hfull : q + n = 64
      · have hb1 : ((q : Int) + (n : Int) == 64) = true := beq_iff_eq.2 (by omega)
        have HF : Hid _ := hfull
        clear hfull
        go_wp2_with (first
          | ((with_reducible refine at_op (some 30) (.slice 44 (.tmp 28) (some (.tmp 29)) none none) ?_); refine wpl_sla 64 un_b64 sz_u8 q (64 - q) (by omega) (by omega) rfl (Or.inl (int_at _ rfl rfl)) (Or.inr ⟨rfl, by omega⟩) ?_)
          | ((with_reducible refine at_op (some 32) (.call { callee := .builtin .copy, args := #[.tmp 30, .tmp 31], argTypes := #[22, 22] }) ?_); refine wpl_copyN 1 (8 + q) (64 - q) (64 - q) ⟨b, off, none⟩ r cap' (u8s d) n (hrow (wsOf m) (splice (restOf (m ++ cs.take j)) q d) (m.length + cs.length)) hm rfl rfl rfl _ un_bs sz_u8 (by rw [u8s_length]; exact HDN.out) HN.out (by exact (HSD.out.mem hm HNE.out).src) (by rw [HLR.out]; omega) (u8s_one _) (by exact HNEW.out) ?_; clear hm; intro w5 hm)
          | ((with_reducible refine at_op (some 35) (.slice 22 (.tmp 33) (some (.tmp 34)) none none) ?_); refine wpl_sls _ un_bs sz_u8 n rfl rfl rfl hnr ?_; intro p2 hp2; have HS2 : Hid _ := HSL.out p2 hp2; clear hp2))

        have hspl : (splice (restOf (m ++ cs.take j)) q d).length = 64 := by rw [length_splice _ _ _ (by rw [restOf_length, HDN.out]; omega), restOf_length]
        have hbs : Bytes (splice (restOf (m ++ cs.take j)) q d) := (restOf_bytes HBJ.out).splice HBD.out q
        have hnz : splice (hrow (wsOf m) (splice (restOf (m ++ cs.take j)) q d) (m.length + cs.length)) 8 (u8s (List.replicate 64 0)) = hrow (wsOf m) (List.replicate 64 0) (m.length + cs.length) := by
          have := hrow_setRest (wsOf m) (splice (restOf (m ++ cs.take j)) q d) (m.length + cs.length) 0 (List.replicate 64 0) HW8.out hspl (by simp)
          rw [splice_all _ _ (by rw [hspl]; simp)] at this
          exact this
        have hl73 : (hrow (wsOf m) (splice (restOf (m ++ cs.take j)) q d) (m.length + cs.length)).length = 73 := hrow_length _ _ _ HW8.out hspl
        have HSP : Hid _ := hspl
        have HBS : Hid _ := hbs
        have HNZ : Hid _ := hnz
        have H73 : Hid _ := hl73
        clear hspl hbs hnz hl73
        refine wp_tail 5 (by kernel_rfl) (by kernel_rfl) hm ?_
        clear hm
        intro w6 hm
        simp only [List.take_succ_cons, List.take_zero, List.drop_succ_cons, List.drop_zero]
        refine wps_lds 0 0 (u32s (wsOf (m ++ cs.take j))) hm rfl rfl _ un_w8 rfl 8 sz_w8 (by simp [u32s_length, wsOf_length]) (by rw [List.drop_zero, List.take_of_length_le (by simp [u32s_length, wsOf_length])]) ?_
        still_step
        still_step
        still_step
        refine wps_lds 1 8 (u8s (splice (restOf (m ++ cs.take j)) q d)) hm rfl rfl _ un_b64 rfl 64 sz_b64 (by rw [H73.out]; omega) (hrow_rest _ _ _ HW8.out HSP.out) ?_
        refine wpStill_nil ?_
        go_wp2_with (first
          | (go_at_call 34; refine (mixed_any (wsOf (m ++ cs.take j)) (splice (restOf (m ++ cs.take j)) q d) (wsOf_length _) HSP.out (Bytes.get HBS.out) _ (Tab.mem HT.out hm HS.out)).mono ?_; rintro e w7 ⟨rfl, hb⟩; replace hm := hm.call hb; clear hb)
          | ((with_reducible refine at_op none (.store 59 (.tmp 4) (.tmp 46)) ?_); refine wpl_stw 0 (u32s (mix (wsOf (m ++ cs.take j)) (splice (restOf (m ++ cs.take j)) q d))) hm rfl rfl rfl 8 sz_w8 (by simp [u32s_length, wsOf_length]) (by rw [u32s_length]; exact mix_length _ _ (wsOf_length _)) (u32s_one _) ?_; clear hm; intro w8 hm)
          | ((with_reducible refine at_op (some 48) (.build 44 #[]) ?_); refine wpl_build (u8s (List.replicate 64 0)) [] rfl built_b64 ?_)
          | ((with_reducible refine at_op none (.store 44 (.tmp 50) (.tmp 48)) ?_); refine wpl_sts 1 8 (u8s (List.replicate 64 0)) (hrow (wsOf m) (List.replicate 64 0) (m.length + cs.length)) hm rfl rfl rfl 64 sz_b64 (by simp [u8s_length]) (by rw [H73.out]; omega) (u8s_one _) (HNZ.out) ?_; clear hm; intro w9 hm))

        have hmm : Mem w [g] w9 [(g4, u32s (wsOf (m ++ cs.take (j + n))), 59), (g, hrow (wsOf m) (restOf (m ++ cs.take (j + n))) (m.length + cs.length), 66)] := by
          rw [HM'.out, full_ws (m ++ cs.take j) d (by rw [HMQ.out, HDN.out]; exact HF.out), full_rest (m ++ cs.take j) d (by rw [HMQ.out, HDN.out]; exact HF.out), HMQ.out]
          exact hm
        clear hm
        go_roundw
        case rel => exact ⟨j + n, hjn, by have h1 := HQ.out; have h2 := HF.out; go_num, HS2.out, hmm⟩
        case measure => simp [slLen]; omega
      · have hb1 : ((q : Int) + (n : Int) == 64) = false := beq_eq_false_iff_ne.2 (by omega)
        have hlt64 : q + n < 64 := by omega
        go_wp2_with (first
          | ((with_reducible refine at_op (some 30) (.slice 44 (.tmp 28) (some (.tmp 29)) none none) ?_); refine wpl_sla 64 un_b64 sz_u8 q (64 - q) (by omega) (by omega) rfl (Or.inl (int_at _ rfl rfl)) (Or.inr ⟨rfl, by omega⟩) ?_)
          | ((with_reducible refine at_op (some 32) (.call { callee := .builtin .copy, args := #[.tmp 30, .tmp 31], argTypes := #[22, 22] }) ?_); refine wpl_copyN 1 (8 + q) (64 - q) (64 - q) ⟨b, off, none⟩ r cap' (u8s d) n (hrow (wsOf m) (splice (restOf (m ++ cs.take j)) q d) (m.length + cs.length)) hm rfl rfl rfl _ un_bs sz_u8 (by rw [u8s_length]; exact HDN.out) HN.out (by exact (HSD.out.mem hm HNE.out).src) (by rw [HLR.out]; omega) (u8s_one _) (by exact HNEW.out) ?_; clear hm; intro w5 hm)
          | ((with_reducible refine at_op (some 35) (.slice 22 (.tmp 33) (some (.tmp 34)) none none) ?_); refine wpl_sls _ un_bs sz_u8 n rfl rfl rfl hnr ?_; intro p2 hp2; have HS2 : Hid _ := HSL.out p2 hp2; clear hp2))

        have hmm : Mem w [g] w5 [(g4, u32s (wsOf (m ++ cs.take (j + n))), 59), (g, hrow (wsOf m) (restOf (m ++ cs.take (j + n))) (m.length + cs.length), 66)] := by
          rw [HM'.out, more_ws (m ++ cs.take j) d (by rw [HMQ.out, HDN.out]; exact hlt64), more_rest (m ++ cs.take j) d (by rw [HMQ.out, HDN.out]; exact hlt64), HMQ.out]
          exact hm
        clear hm
        go_roundw
        case rel => exact ⟨j + n, hjn, by have := HQ.out; go_num, HS2.out, hmm⟩
        case measure => simp [slLen]; omega
    · have hjl : j = cs.length := by clear hseg'; omega
      have hr0 : r = 0 := by omega
      subst hr0
      subst hjl
      rw [List.take_length] at hm
      have h73 : (hrow (wsOf m) (restOf (m ++ cs)) (m.length + cs.length)).length = 73 := hrow_length _ _ _ HW8.out (restOf_length _)
      have hsw : splice (hrow (wsOf m) (restOf (m ++ cs)) (m.length + cs.length)) 0 (u32s (wsOf (m ++ cs))) = hrow (wsOf (m ++ cs)) (restOf (m ++ cs)) (m.length + cs.length) := hrow_setWords _ _ _ _ HW8.out (wsOf_length _)
      have H73 : Hid _ := h73
      have HSW : Hid _ := hsw
      clear h73 hsw hseg' hdl hrr hq
      go_wp2_with (first
        | ((with_reducible refine at_op (some 52) (.load 59 (.tmp 4)) ?_); refine wpl_ldw 0 hm rfl rfl _ un_w8 rfl 8 sz_w8 (by rw [u32s_length]; exact wsOf_length _) ?_)
        | ((with_reducible refine at_op none (.store 59 (.tmp 54) (.tmp 52)) ?_); refine wpl_sts 1 0 (u32s (wsOf (m ++ cs))) (hrow (wsOf (m ++ cs)) (restOf (m ++ cs)) (m.length + cs.length)) hm rfl rfl rfl 8 sz_w8 (by rw [u32s_length]; exact wsOf_length _) (by rw [H73.out]; omega) (u32s_one _) (HSW.out) ?_; clear hm; intro w9 hm))

      go_end0
      refine ⟨rfl, ?_, hm.toUpd⟩
      have := hm.get 1 rfl
      rw [List.length_append]
      simpa using this
end Go.Proofs.YtonbfbcbmdnelaaDoor
