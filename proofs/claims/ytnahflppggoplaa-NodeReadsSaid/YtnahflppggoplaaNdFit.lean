/- Package node: fitLeaf. -/
import Derived.Test.YtnahflppggoplaaNdSmall
namespace Go.Proofs.Ytnahflppggoplaa
open Go Go.RowKit
set_option maxRecDepth 100000 in
theorem fitKey_is (k : ByteArray) (f : Bool) (h : fitK k = f) (w : World) :
    Calls Try.prog 39 #[.string k] w fun e w' => e = .returned (.bool f) ∧ w' = w := by
  subst h
  exact fitKey_any k w
set_option maxRecDepth 100000 in
theorem exec_gt0 {a : Act} {w : World} {dst : Option Tmp} {typ : TypeId} {pos : String} {aft : Array Edge} {gd : Option (Nat × Bool)} {x : Operand} {i : Int} (h : i ≤ 0) (hx : a.eval x = .int .i64 i) :
    (execOp a.eval { dst := dst, op := .binOp .gtr 3 x (.const (.int .i64 0)) 3, type := typ, pos := pos, after := aft, guard := gd }).run Try.prog w = .ok (.value (.bool false)) w := by
  unfold execOp
  simp only [hx]
  simp [Act.eval, eqGuard, binOp, go_sem, h]
set_option maxHeartbeats 1500000 in
set_option maxRecDepth 100000 in
theorem fitLeaf_any (l : List (ByteArray × ByteArray)) (n : Nat) (v : Value) (hn : l.length = n) (hnl : n ≤ 1000) (w : World) (hv : SlP w v l) :
    Calls Try.prog 24 #[v] w fun e w' => e = .returned (.bool (okPairs l n)) ∧ Below w.heap.size w w' := by
  obtain ⟨p, cap, rfl, hcap⟩ := SlV.len hv
  have HV : Hid (SlP w (.slice p l.length cap) l) := hv
  have HN : Hid (l.length = n) := hn
  rw [hn] at hcap HV ⊢
  clear hv hn
  go_enter Try.func24, Try.ntmps24
  go_wp2_with fail
  go_loopw [7] (fun vi wr => ∃ k : Nat, k ≤ n ∧ vi = .int .i64 (k : Int) ∧ Hid (okPairs l k = true) ∧ Hid (Below w.heap.size w wr)) (fun vi _ => n - (intOf vi).toNat)
  case atStart => exact ⟨0, by omega, rfl, rfl, Below.refl _ _⟩
  case round =>
    obtain ⟨k, hk, rfl, HO, HB⟩ := hrel
    by_cases hlt : k < n
    · have hki : (k : Int) < (n : Int) := by omega
      obtain ⟨b, off, hp⟩ := SlP.at HV.out HN.out (by omega)
      subst hp
      have HV2 : Hid (SlP wr (.slice (some ⟨b, off, none⟩) n cap) l) := SlV.below HV.out HB.out
      obtain ⟨c0, c1⟩ := SlP.cells HN.out HV2.out k hlt
      obtain ⟨kk, hkk⟩ : ∃ x, x = (l.getD k (noStr, noStr)).1 := ⟨_, rfl⟩
      obtain ⟨vv, hvv⟩ : ∃ x, x = (l.getD k (noStr, noStr)).2 := ⟨_, rfl⟩
      rw [← hkk] at c0
      rw [← hvv] at c1
      have HC0 : Hid (wr.cell? ⟨b, off + k * 2, none⟩ = some (.string kk)) := c0
      have HC1 : Hid (wr.cell? ⟨b, off + k * 2 + 1, none⟩ = some (.string vv)) := c1
      have hm := Mem.start wr
      clear c0 c1
      have HOP : Hid (okPairs l (k + 1) = (decide (vv.size ≤ 150) && (fitK kk && (decide (k = 0) || less (l.getD (k - 1) (noStr, noStr)).1 kk)))) := by
        show _ = _
        rw [okPairs, HO.out, okPair_eq, Bool.true_and, ← hkk, ← hvv]
      clear hkk hvv
      cases hf : fitK kk with
      | false =>
        have HF : Hid (fitK kk = false) := hf
        have HF2 : Hid (okPairs l n = false) := okPairs_le (show k + 1 ≤ n by omega) (by rw [HOP.out, hf]; simp)
        clear hf
        go_wp2_with (first
          | ((with_reducible refine at_op (some 10) (.indexAddr 24 (.tmp 5) (.tmp 7)) ?_); go_must (refine wpl_execG (.pointer (some ⟨b, off + k * 2, none⟩)) rfl (exec_ixP k rfl rfl rfl hlt) ?_))
          | ((with_reducible refine at_op (some 11) (.load 45 (.tmp 10)) ?_); go_must (refine wpl_execG (.agg [.string kk, .string vv].toArray) rfl (exec_ldP kk vv rfl HC0.out HC1.out) ?_))
          | ((with_reducible refine at_op (some 4) (.alloc 45) ?_); refine wpl_alloc _ zero_pair hm ?_; clear hm; intro w2 g4 hm)
          | ((with_reducible refine at_op none (.store 45 (.tmp 4) (.tmp 11)) ?_); refine wpl_stw 0 [.string kk, .string vv] hm rfl rfl rfl 2 sz_pair (rfl) (rfl) (by simp [Value.oneCell']) ?_; clear hm; intro w3 hm))
        have ca : w3.cell? ⟨g4, 0, none⟩ = some (.string kk) := ((hm.get 0 rfl).cell 0).trans rfl
        have cb : w3.cell? ⟨g4, 1, none⟩ = some (.string vv) := ((hm.get 0 rfl).cell 1).trans rfl
        go_quiet (first | (go_at_call 39; refine Calls.quiet_of_same (fitKey_is _ false HF.out _)))
        obtain ⟨wc, hwc⟩ : ∃ v, v = World.drewN w3 nq := ⟨_, rfl⟩
        replace hm := Mem.drewN hm nq
        rw [← hwc] at hm ⊢
        clear hwc ca cb
        have HB2 : Hid (Below w.heap.size w wc) := HB.out.trans (hm.below.mono HB.out.size)
        go_wp2_with fail
        go_ret
        exact ⟨by rw [HF2.out]; rfl, HB2.out⟩
      | true =>
        have HF : Hid (fitK kk = true) := hf
        by_cases h150 : 150 < vv.size
        · have h150i : (vv.size : Int) > 150 := by omega
          have HF2 : Hid (okPairs l n = false) := okPairs_le (show k + 1 ≤ n by omega) (by rw [HOP.out, decide_eq_false (by omega)]; rfl)
          clear hf
          go_wp2_with (first
            | ((with_reducible refine at_op (some 10) (.indexAddr 24 (.tmp 5) (.tmp 7)) ?_); go_must (refine wpl_execG (.pointer (some ⟨b, off + k * 2, none⟩)) rfl (exec_ixP k rfl rfl rfl hlt) ?_))
            | ((with_reducible refine at_op (some 11) (.load 45 (.tmp 10)) ?_); go_must (refine wpl_execG (.agg [.string kk, .string vv].toArray) rfl (exec_ldP kk vv rfl HC0.out HC1.out) ?_))
            | ((with_reducible refine at_op (some 4) (.alloc 45) ?_); refine wpl_alloc _ zero_pair hm ?_; clear hm; intro w2 g4 hm)
            | ((with_reducible refine at_op none (.store 45 (.tmp 4) (.tmp 11)) ?_); refine wpl_stw 0 [.string kk, .string vv] hm rfl rfl rfl 2 sz_pair (rfl) (rfl) (by simp [Value.oneCell']) ?_; clear hm; intro w3 hm))
          have ca : w3.cell? ⟨g4, 0, none⟩ = some (.string kk) := ((hm.get 0 rfl).cell 0).trans rfl
          have cb : w3.cell? ⟨g4, 1, none⟩ = some (.string vv) := ((hm.get 0 rfl).cell 1).trans rfl
          go_quiet (first | (go_at_call 39; refine Calls.quiet_of_same (fitKey_is _ true HF.out _)))
          obtain ⟨wc, hwc⟩ : ∃ v, v = World.drewN w3 nq := ⟨_, rfl⟩
          replace hm := Mem.drewN hm nq
          rw [← hwc] at hm ⊢
          clear hwc ca cb
          have HB2 : Hid (Below w.heap.size w wc) := HB.out.trans (hm.below.mono HB.out.size)
          go_wp2_with fail
          go_ret
          exact ⟨by rw [HF2.out]; rfl, HB2.out⟩
        · have h150i : ¬ (vv.size : Int) > 150 := by omega
          by_cases hk0 : k = 0
          · have HO2 : Hid (okPairs l (k + 1) = true) := by show _ = _; rw [HOP.out, hf, decide_eq_true (show vv.size ≤ 150 by omega), decide_eq_true hk0]; rfl
            have HK0 : Hid ((k : Int) ≤ 0) := by show _ ≤ _; omega
            clear hf hk0
            go_wp2_with (first
              | ((with_reducible refine at_op (some 10) (.indexAddr 24 (.tmp 5) (.tmp 7)) ?_); go_must (refine wpl_execG (.pointer (some ⟨b, off + k * 2, none⟩)) rfl (exec_ixP k rfl rfl rfl hlt) ?_))
              | ((with_reducible refine at_op (some 11) (.load 45 (.tmp 10)) ?_); go_must (refine wpl_execG (.agg [.string kk, .string vv].toArray) rfl (exec_ldP kk vv rfl HC0.out HC1.out) ?_))
              | ((with_reducible refine at_op (some 4) (.alloc 45) ?_); refine wpl_alloc _ zero_pair hm ?_; clear hm; intro w2 g4 hm)
              | ((with_reducible refine at_op none (.store 45 (.tmp 4) (.tmp 11)) ?_); refine wpl_stw 0 [.string kk, .string vv] hm rfl rfl rfl 2 sz_pair (rfl) (rfl) (by simp [Value.oneCell']) ?_; clear hm; intro w3 hm))
            refine wp_ends0 ?_
            refine anyH_start (T := fun W => Mem wr [] W [(g4, [.string kk, .string vv], 45)]) (by kernel_rfl) hm ?_
            clear hm
            intro wc hm
            refine anyH_take 0 (v := .pointer (some ⟨g4, 0, none⟩)) rfl (by kernel_rfl) (by kernel_rfl) (by kernel_rfl) rfl (fun W _ => by go_simp) hm ?_
            go_simp
            refine anyH_take 1 (v := .string kk) rfl (by kernel_rfl) (by kernel_rfl) (by kernel_rfl) rfl (fun W hW => exec_ldx (.string kk) (((Mem.get hW 0 rfl).cell 0).trans rfl) rfl ag_str) hm ?_
            go_simp
            refine wpAnyH_all (rs := [2]) (by kernel_rfl) (by simp) ?_
            intro i hi
            simp only [List.mem_cons, List.not_mem_nil, or_false] at hi
            subst hi
            refine anyH_opW 2 rfl rfl ?_
            intro K hK
            go_wp2_with (go_at_call 39; refine (fitKey_is _ true HF.out _).mono ?_; rintro e wf ⟨rfl, hw⟩; replace hw := hw.symm; subst hw)
            refine hK _ _ hm ?_
            clear hK K
            refine anyH_take 3 (v := .bool false) rfl (by kernel_rfl) (by kernel_rfl) (by kernel_rfl) rfl (fun W _ => by go_simp) hm ?_
            go_simp
            refine anyH_take 4 (v := .bool false) rfl (by kernel_rfl) (by kernel_rfl) (by kernel_rfl) rfl (fun W _ => by go_simp) hm ?_
            go_simp
            refine anyH_takeG 5 (v := .pointer (some ⟨g4, 1, none⟩)) rfl (by kernel_rfl) (by kernel_rfl) (by kernel_rfl) rfl (fun W _ => by go_simp) hm ?_
            go_simp
            refine anyH_takeG 6 (v := .string vv) rfl (by kernel_rfl) (by kernel_rfl) (by kernel_rfl) rfl (fun W hW => exec_ldx (.string vv) (((Mem.get hW 0 rfl).cell 1).trans rfl) rfl ag_str) hm ?_
            go_simp
            refine anyH_takeG 7 (v := .int .i64 (vv.size : Int)) rfl (by kernel_rfl) (by kernel_rfl) (by kernel_rfl) rfl (fun W _ => by go_simp) hm ?_
            go_simp
            refine anyH_takeG 8 (v := .bool false) rfl (by kernel_rfl) (by kernel_rfl) (by kernel_rfl) rfl (fun W _ => by go_simp) hm ?_
            go_simp
            refine anyH_take 9 (v := .bool false) rfl (by kernel_rfl) (by kernel_rfl) (by kernel_rfl) rfl (fun W _ => by go_simp) hm ?_
            go_simp
            refine anyH_take 10 (v := .bool false) rfl (by kernel_rfl) (by kernel_rfl) (by kernel_rfl) rfl (fun W _ => by go_simp) hm ?_
            go_simp
            refine anyH_takeG 11 (v := .int .i64 (k : Int)) rfl (by kernel_rfl) (by kernel_rfl) (by kernel_rfl) rfl (fun W _ => by go_simp) hm ?_
            go_simp
            refine anyH_takeG 12 (v := .bool false) rfl (by kernel_rfl) (by kernel_rfl) (by kernel_rfl) rfl (fun W _ => exec_gt0 HK0.out rfl) hm ?_
            go_simp
            refine anyH_takeG 13 (v := .bool false) rfl (by kernel_rfl) (by kernel_rfl) (by kernel_rfl) rfl (fun W _ => by go_simp) hm ?_
            go_simp
            refine anyH_skip 14 rfl (by kernel_rfl) (by kernel_rfl) (by kernel_rfl) rfl hm ?_
            go_simp
            refine anyH_skip 15 rfl (by kernel_rfl) (by kernel_rfl) (by kernel_rfl) rfl hm ?_
            go_simp
            refine anyH_skip 16 rfl (by kernel_rfl) (by kernel_rfl) (by kernel_rfl) rfl hm ?_
            go_simp
            refine anyH_skip 17 rfl (by kernel_rfl) (by kernel_rfl) (by kernel_rfl) rfl hm ?_
            go_simp
            refine anyH_skip 18 rfl (by kernel_rfl) (by kernel_rfl) (by kernel_rfl) rfl hm ?_
            go_simp
            refine anyH_skip 19 rfl (by kernel_rfl) (by kernel_rfl) (by kernel_rfl) rfl hm ?_
            go_simp
            refine anyH_skip 20 rfl (by kernel_rfl) (by kernel_rfl) (by kernel_rfl) rfl hm ?_
            go_simp
            refine anyH_skip 21 rfl (by kernel_rfl) (by kernel_rfl) (by kernel_rfl) rfl hm ?_
            go_simp
            refine anyH_skip 22 rfl (by kernel_rfl) (by kernel_rfl) (by kernel_rfl) rfl hm ?_
            go_simp
            refine anyH_takeG 23 (v := .bool false) rfl (by kernel_rfl) (by kernel_rfl) (by kernel_rfl) rfl (fun W _ => by go_simp) hm ?_
            go_simp
            refine anyH_take 24 (v := .bool false) rfl (by kernel_rfl) (by kernel_rfl) (by kernel_rfl) rfl (fun W _ => by go_simp) hm ?_
            go_simp
            refine wpAnyH_done (by kernel_rfl) ?_ _
            simp only [endsIn]
            have HB2 : Hid (Below w.heap.size w wc) := HB.out.trans (hm.below.mono HB.out.size)
            go_wp2_with fail
            go_roundw
            case rel => exact ⟨k + 1, by omega, by go_num, HO2.out, HB2.out⟩
            case measure => simp [intOf]; omega

          · obtain ⟨j, rfl⟩ : ∃ j, k = j + 1 := ⟨k - 1, by omega⟩
            obtain ⟨d0, _⟩ := SlP.cells HN.out HV2.out j (by omega)
            obtain ⟨pk, hpk⟩ : ∃ x, x = (l.getD j (noStr, noStr)).1 := ⟨_, rfl⟩
            rw [← hpk] at d0
            have HD0 : Hid (wr.cell? ⟨b, off + j * 2, none⟩ = some (.string pk)) := d0
            have hbl : b < wr.heap.size := block_lt_of_cell d0
            have HBL : Hid (b < wr.heap.size) := hbl
            have HWJ : IntKind.i64.wrap (j : Int) = (j : Int) := wrap_nat j (by omega)
            clear d0 hbl
            cases hl : less pk kk with
            | false =>
              have HF2 : Hid (okPairs l n = false) := okPairs_le (show j + 1 + 1 ≤ n by omega) (by rw [HOP.out, Nat.add_sub_cancel, ← hpk, hl, decide_eq_false hk0]; simp)
              have HLS : Hid (less pk kk = false) := hl
              clear hf hl hpk hk0
              go_wp2_with (first
                | ((with_reducible refine at_op (some 10) (.indexAddr 24 (.tmp 5) (.tmp 7)) ?_); go_must (refine wpl_execG (.pointer (some ⟨b, off + (j + 1) * 2, none⟩)) rfl (exec_ixP (j + 1) rfl rfl rfl hlt) ?_))
                | ((with_reducible refine at_op (some 11) (.load 45 (.tmp 10)) ?_); go_must (refine wpl_execG (.agg [.string kk, .string vv].toArray) rfl (exec_ldP kk vv rfl HC0.out HC1.out) ?_))
                | ((with_reducible refine at_op (some 4) (.alloc 45) ?_); refine wpl_alloc _ zero_pair hm ?_; clear hm; intro w2 g4 hm)
                | ((with_reducible refine at_op none (.store 45 (.tmp 4) (.tmp 11)) ?_); refine wpl_stw 0 [.string kk, .string vv] hm rfl rfl rfl 2 sz_pair (rfl) (rfl) (by simp [Value.oneCell']) ?_; clear hm; intro w3 hm))
              refine wp_ends0 ?_
              refine anyH_start (T := fun W => Mem wr [] W [(g4, [.string kk, .string vv], 45)]) (by kernel_rfl) hm ?_
              clear hm
              intro wc hm
              refine anyH_take 0 (v := .pointer (some ⟨g4, 0, none⟩)) rfl (by kernel_rfl) (by kernel_rfl) (by kernel_rfl) rfl (fun W _ => by go_simp) hm ?_
              go_simp
              refine anyH_take 1 (v := .string kk) rfl (by kernel_rfl) (by kernel_rfl) (by kernel_rfl) rfl (fun W hW => exec_ldx (.string kk) (((Mem.get hW 0 rfl).cell 0).trans rfl) rfl ag_str) hm ?_
              go_simp
              refine wpAnyH_all (rs := [2]) (by kernel_rfl) (by simp) ?_
              intro i hi
              simp only [List.mem_cons, List.not_mem_nil, or_false] at hi
              subst hi
              refine anyH_opW 2 rfl rfl ?_
              intro K hK
              go_wp2_with (go_at_call 39; refine (fitKey_is _ true HF.out _).mono ?_; rintro e wf ⟨rfl, hw⟩; replace hw := hw.symm; subst hw)
              refine hK _ _ hm ?_
              clear hK K
              refine anyH_take 3 (v := .bool false) rfl (by kernel_rfl) (by kernel_rfl) (by kernel_rfl) rfl (fun W _ => by go_simp) hm ?_
              go_simp
              refine anyH_take 4 (v := .bool false) rfl (by kernel_rfl) (by kernel_rfl) (by kernel_rfl) rfl (fun W _ => by go_simp) hm ?_
              go_simp
              refine anyH_takeG 5 (v := .pointer (some ⟨g4, 1, none⟩)) rfl (by kernel_rfl) (by kernel_rfl) (by kernel_rfl) rfl (fun W _ => by go_simp) hm ?_
              go_simp
              refine anyH_takeG 6 (v := .string vv) rfl (by kernel_rfl) (by kernel_rfl) (by kernel_rfl) rfl (fun W hW => exec_ldx (.string vv) (((Mem.get hW 0 rfl).cell 1).trans rfl) rfl ag_str) hm ?_
              go_simp
              refine anyH_takeG 7 (v := .int .i64 (vv.size : Int)) rfl (by kernel_rfl) (by kernel_rfl) (by kernel_rfl) rfl (fun W _ => by go_simp) hm ?_
              go_simp
              refine anyH_takeG 8 (v := .bool false) rfl (by kernel_rfl) (by kernel_rfl) (by kernel_rfl) rfl (fun W _ => by go_simp) hm ?_
              go_simp
              refine anyH_take 9 (v := .bool false) rfl (by kernel_rfl) (by kernel_rfl) (by kernel_rfl) rfl (fun W _ => by go_simp) hm ?_
              go_simp
              refine anyH_take 10 (v := .bool false) rfl (by kernel_rfl) (by kernel_rfl) (by kernel_rfl) rfl (fun W _ => by go_simp) hm ?_
              go_simp
              refine anyH_takeG 11 (v := .int .i64 ((j : Int) + 1)) rfl (by kernel_rfl) (by kernel_rfl) (by kernel_rfl) rfl (fun W _ => by go_simp) hm ?_
              go_simp
              refine anyH_takeG 12 (v := .bool true) rfl (by kernel_rfl) (by kernel_rfl) (by kernel_rfl) rfl (fun W _ => by go_simp) hm ?_
              go_simp
              refine anyH_takeG 13 (v := .bool true) rfl (by kernel_rfl) (by kernel_rfl) (by kernel_rfl) rfl (fun W _ => by go_simp) hm ?_
              go_simp
              refine anyH_takeG 14 (v := .slice (some ⟨b, off, none⟩) n cap) rfl (by kernel_rfl) (by kernel_rfl) (by kernel_rfl) rfl (fun W _ => by go_simp) hm ?_
              go_simp
              refine anyH_takeG 15 (v := .int .i64 ((j : Int) + 1)) rfl (by kernel_rfl) (by kernel_rfl) (by kernel_rfl) rfl (fun W _ => by go_simp) hm ?_
              go_simp
              refine anyH_takeG 16 (v := .int .i64 (j : Int)) rfl (by kernel_rfl) (by kernel_rfl) (by kernel_rfl) rfl (fun W _ => by go_simp) hm ?_
              go_simp
              refine anyH_takeG 17 (v := .pointer (some ⟨b, off + j * 2, none⟩)) rfl (by kernel_rfl) (by kernel_rfl) (by kernel_rfl) rfl (fun W _ => exec_ixP j rfl rfl rfl (by omega)) hm ?_
              go_simp
              refine anyH_takeG 18 (v := .pointer (some ⟨b, off + j * 2, none⟩)) rfl (by kernel_rfl) (by kernel_rfl) (by kernel_rfl) rfl (fun W _ => by go_simp) hm ?_
              go_simp
              refine anyH_takeG 19 (v := .string pk) rfl (by kernel_rfl) (by kernel_rfl) (by kernel_rfl) rfl (fun W hW => exec_ldx (.string pk) ((Mem.old hW (p := ⟨b, off + j * 2, none⟩) HBL.out (by simp)).trans HD0.out) rfl ag_str) hm ?_
              go_simp
              refine anyH_takeG 20 (v := .pointer (some ⟨g4, 0, none⟩)) rfl (by kernel_rfl) (by kernel_rfl) (by kernel_rfl) rfl (fun W _ => by go_simp) hm ?_
              go_simp
              refine anyH_takeG 21 (v := .string kk) rfl (by kernel_rfl) (by kernel_rfl) (by kernel_rfl) rfl (fun W hW => exec_ldx (.string kk) (((Mem.get hW 0 rfl).cell 0).trans rfl) rfl ag_str) hm ?_
              go_simp
              refine anyH_takeG 22 (v := .bool true) rfl (by kernel_rfl) (by kernel_rfl) (by kernel_rfl) rfl (fun W _ => exec_geqs pk kk false rfl rfl HLS.out) hm ?_
              go_simp
              refine anyH_takeG 23 (v := .bool true) rfl (by kernel_rfl) (by kernel_rfl) (by kernel_rfl) rfl (fun W _ => by go_simp) hm ?_
              go_simp
              refine anyH_take 24 (v := .bool true) rfl (by kernel_rfl) (by kernel_rfl) (by kernel_rfl) rfl (fun W _ => by go_simp) hm ?_
              go_simp
              refine wpAnyH_done (by kernel_rfl) ?_ _
              simp only [endsIn]
              have HB2 : Hid (Below w.heap.size w wc) := HB.out.trans (hm.below.mono HB.out.size)
              go_wp2_with fail
              go_ret
              exact ⟨by rw [HF2.out]; rfl, HB2.out⟩
            | true =>
              have HO2 : Hid (okPairs l (j + 1 + 1) = true) := by show _ = _; rw [HOP.out, hf, Nat.add_sub_cancel, ← hpk, hl, decide_eq_true (show vv.size ≤ 150 by omega)]; simp
              have HLS : Hid (less pk kk = true) := hl
              clear hf hl hpk hk0
              go_wp2_with (first
                | ((with_reducible refine at_op (some 10) (.indexAddr 24 (.tmp 5) (.tmp 7)) ?_); go_must (refine wpl_execG (.pointer (some ⟨b, off + (j + 1) * 2, none⟩)) rfl (exec_ixP (j + 1) rfl rfl rfl hlt) ?_))
                | ((with_reducible refine at_op (some 11) (.load 45 (.tmp 10)) ?_); go_must (refine wpl_execG (.agg [.string kk, .string vv].toArray) rfl (exec_ldP kk vv rfl HC0.out HC1.out) ?_))
                | ((with_reducible refine at_op (some 4) (.alloc 45) ?_); refine wpl_alloc _ zero_pair hm ?_; clear hm; intro w2 g4 hm)
                | ((with_reducible refine at_op none (.store 45 (.tmp 4) (.tmp 11)) ?_); refine wpl_stw 0 [.string kk, .string vv] hm rfl rfl rfl 2 sz_pair (rfl) (rfl) (by simp [Value.oneCell']) ?_; clear hm; intro w3 hm))
              refine wp_ends0 ?_
              refine anyH_start (T := fun W => Mem wr [] W [(g4, [.string kk, .string vv], 45)]) (by kernel_rfl) hm ?_
              clear hm
              intro wc hm
              refine anyH_take 0 (v := .pointer (some ⟨g4, 0, none⟩)) rfl (by kernel_rfl) (by kernel_rfl) (by kernel_rfl) rfl (fun W _ => by go_simp) hm ?_
              go_simp
              refine anyH_take 1 (v := .string kk) rfl (by kernel_rfl) (by kernel_rfl) (by kernel_rfl) rfl (fun W hW => exec_ldx (.string kk) (((Mem.get hW 0 rfl).cell 0).trans rfl) rfl ag_str) hm ?_
              go_simp
              refine wpAnyH_all (rs := [2]) (by kernel_rfl) (by simp) ?_
              intro i hi
              simp only [List.mem_cons, List.not_mem_nil, or_false] at hi
              subst hi
              refine anyH_opW 2 rfl rfl ?_
              intro K hK
              go_wp2_with (go_at_call 39; refine (fitKey_is _ true HF.out _).mono ?_; rintro e wf ⟨rfl, hw⟩; replace hw := hw.symm; subst hw)
              refine hK _ _ hm ?_
              clear hK K
              refine anyH_take 3 (v := .bool false) rfl (by kernel_rfl) (by kernel_rfl) (by kernel_rfl) rfl (fun W _ => by go_simp) hm ?_
              go_simp
              refine anyH_take 4 (v := .bool false) rfl (by kernel_rfl) (by kernel_rfl) (by kernel_rfl) rfl (fun W _ => by go_simp) hm ?_
              go_simp
              refine anyH_takeG 5 (v := .pointer (some ⟨g4, 1, none⟩)) rfl (by kernel_rfl) (by kernel_rfl) (by kernel_rfl) rfl (fun W _ => by go_simp) hm ?_
              go_simp
              refine anyH_takeG 6 (v := .string vv) rfl (by kernel_rfl) (by kernel_rfl) (by kernel_rfl) rfl (fun W hW => exec_ldx (.string vv) (((Mem.get hW 0 rfl).cell 1).trans rfl) rfl ag_str) hm ?_
              go_simp
              refine anyH_takeG 7 (v := .int .i64 (vv.size : Int)) rfl (by kernel_rfl) (by kernel_rfl) (by kernel_rfl) rfl (fun W _ => by go_simp) hm ?_
              go_simp
              refine anyH_takeG 8 (v := .bool false) rfl (by kernel_rfl) (by kernel_rfl) (by kernel_rfl) rfl (fun W _ => by go_simp) hm ?_
              go_simp
              refine anyH_take 9 (v := .bool false) rfl (by kernel_rfl) (by kernel_rfl) (by kernel_rfl) rfl (fun W _ => by go_simp) hm ?_
              go_simp
              refine anyH_take 10 (v := .bool false) rfl (by kernel_rfl) (by kernel_rfl) (by kernel_rfl) rfl (fun W _ => by go_simp) hm ?_
              go_simp
              refine anyH_takeG 11 (v := .int .i64 ((j : Int) + 1)) rfl (by kernel_rfl) (by kernel_rfl) (by kernel_rfl) rfl (fun W _ => by go_simp) hm ?_
              go_simp
              refine anyH_takeG 12 (v := .bool true) rfl (by kernel_rfl) (by kernel_rfl) (by kernel_rfl) rfl (fun W _ => by go_simp) hm ?_
              go_simp
              refine anyH_takeG 13 (v := .bool true) rfl (by kernel_rfl) (by kernel_rfl) (by kernel_rfl) rfl (fun W _ => by go_simp) hm ?_
              go_simp
              refine anyH_takeG 14 (v := .slice (some ⟨b, off, none⟩) n cap) rfl (by kernel_rfl) (by kernel_rfl) (by kernel_rfl) rfl (fun W _ => by go_simp) hm ?_
              go_simp
              refine anyH_takeG 15 (v := .int .i64 ((j : Int) + 1)) rfl (by kernel_rfl) (by kernel_rfl) (by kernel_rfl) rfl (fun W _ => by go_simp) hm ?_
              go_simp
              refine anyH_takeG 16 (v := .int .i64 (j : Int)) rfl (by kernel_rfl) (by kernel_rfl) (by kernel_rfl) rfl (fun W _ => by go_simp) hm ?_
              go_simp
              refine anyH_takeG 17 (v := .pointer (some ⟨b, off + j * 2, none⟩)) rfl (by kernel_rfl) (by kernel_rfl) (by kernel_rfl) rfl (fun W _ => exec_ixP j rfl rfl rfl (by omega)) hm ?_
              go_simp
              refine anyH_takeG 18 (v := .pointer (some ⟨b, off + j * 2, none⟩)) rfl (by kernel_rfl) (by kernel_rfl) (by kernel_rfl) rfl (fun W _ => by go_simp) hm ?_
              go_simp
              refine anyH_takeG 19 (v := .string pk) rfl (by kernel_rfl) (by kernel_rfl) (by kernel_rfl) rfl (fun W hW => exec_ldx (.string pk) ((Mem.old hW (p := ⟨b, off + j * 2, none⟩) HBL.out (by simp)).trans HD0.out) rfl ag_str) hm ?_
              go_simp
              refine anyH_takeG 20 (v := .pointer (some ⟨g4, 0, none⟩)) rfl (by kernel_rfl) (by kernel_rfl) (by kernel_rfl) rfl (fun W _ => by go_simp) hm ?_
              go_simp
              refine anyH_takeG 21 (v := .string kk) rfl (by kernel_rfl) (by kernel_rfl) (by kernel_rfl) rfl (fun W hW => exec_ldx (.string kk) (((Mem.get hW 0 rfl).cell 0).trans rfl) rfl ag_str) hm ?_
              go_simp
              refine anyH_takeG 22 (v := .bool false) rfl (by kernel_rfl) (by kernel_rfl) (by kernel_rfl) rfl (fun W _ => exec_geqs pk kk true rfl rfl HLS.out) hm ?_
              go_simp
              refine anyH_takeG 23 (v := .bool false) rfl (by kernel_rfl) (by kernel_rfl) (by kernel_rfl) rfl (fun W _ => by go_simp) hm ?_
              go_simp
              refine anyH_take 24 (v := .bool false) rfl (by kernel_rfl) (by kernel_rfl) (by kernel_rfl) rfl (fun W _ => by go_simp) hm ?_
              go_simp
              refine wpAnyH_done (by kernel_rfl) ?_ _
              simp only [endsIn]
              have HB2 : Hid (Below w.heap.size w wc) := HB.out.trans (hm.below.mono HB.out.size)
              go_wp2_with fail
              go_roundw
              case rel => exact ⟨j + 1 + 1, by omega, by go_num, HO2.out, HB2.out⟩
              case measure => simp [intOf]; omega
    · have hkn : n = k := by omega
      subst hkn
      have hni : ¬ (n : Int) < (n : Int) := by omega
      go_wp2_with fail
      go_ret
      exact ⟨by rw [HO.out]; rfl, HB.out⟩
end Go.Proofs.Ytnahflppggoplaa
