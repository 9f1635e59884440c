/- Two slices that grow side by side. -/
import Derived.Test.YtbfccepddfinoaaDoorMacStr
import Derived.Test.YtbfccepddfinoaaDoorApp3
import Derived.Test.YtbfccepddfinoaaDoorSumRef
namespace Go.Proofs.YtbfccepddfinoaaDoor
open Go Go.RowKit

structure Two (w0 w : World) (v1 : Value) (z1 : List Int) (v2 : Value) (z2 : List Int) : Prop where
  own1 : OwnB 5 w w0.heap.size v1 z1
  own2 : OwnB 5 w w0.heap.size v2 z2
  ne : ∀ g, v1.ownBlock = some g → v2.ownBlock ≠ some g
section
variable {w0 w w' : World} {v1 v2 v' : Value} {z1 z2 ys : List Int}
theorem Two.start (w0 w : World) : Two w0 w (.slice none 0 0) [] (.slice none 0 0) [] := ⟨OwnB.nil _ _ _, OwnB.nil _ _ _, fun g h => by cases h⟩
theorem Two.swap (t : Two w0 w v1 z1 v2 z2) : Two w0 w v2 z2 v1 z1 := ⟨t.own2, t.own1, fun g h2 h1 => t.ne g h1 h2⟩
theorem Two.below (t : Two w0 w v1 z1 v2 z2) (hb : Below w.heap.size w w') : Two w0 w' v1 z1 v2 z2 := ⟨t.own1.below hb, t.own2.below hb, t.ne⟩
theorem Two.grown (t : Two w0 w v1 z1 v2 z2) (ho : OwnB 5 w' w0.heap.size v' (z1 ++ ys)) (hg : w.grownBy w' v1.ownBlock) (hv : v'.ownBlock = v1.ownBlock ∨ v'.ownBlock = some w.heap.size) : Two w0 w' v' (z1 ++ ys) v2 z2 := by
  refine ⟨ho, ?_, fun g hq => ?_⟩
  · cases h1 : v1.ownBlock with
    | none =>
      rw [h1] at hg
      exact World.ownsRow.kept t.own2 hg (by cases h' : v2.ownBlock <;> simp)
    | some g =>
      rw [h1] at hg
      exact World.ownsRow.kept t.own2 hg (Or.inr (t.ne g h1))
  · rcases hv with hv | hv
    · exact t.ne g (hv.symm.trans hq)
    · intro h2
      rw [hv] at hq
      cases hq
      have := (World.ownsRow.lt t.own2 _ h2).2
      omega
end
theorem Two.upd {w0 w w' : World} {v1 v2 : Value} {z1 z2 : List Int} (t : Two w0 w v1 z1 v2 z2) {g : Nat} {l : List Value} {tt : TypeId} (hr : Row w g l tt) (ht : tt ≠ 5) (hu : Upd g w w') : Two w0 w' v1 z1 v2 z2 :=
  ⟨t.own1.upd hr ht hu, t.own2.upd hr ht hu, t.ne⟩
theorem Two.fresh {w0 w : World} {v1 : Value} {z1 : List Int} (h : OwnB 5 w w0.heap.size v1 z1) : Two w0 w v1 z1 (.slice none 0 0) [] := ⟨h, OwnB.nil _ _ _, fun g _ h2 => by cases h2⟩
section
variable {ops : Array Oper} {rest : List Oper} {a : Act} {w w0 : World} {Q : Exit → Act → World → Prop} {dst : Option Tmp} {typ : TypeId} {pos : String} {aft : Array Edge} {v1 v2 : Value} {z1 z2 : List Int} {S : List Nat} {rows : List (Nat × List Value × TypeId)}
theorem wpl_appT {s x : Operand} {ps : Option Addr} {n c : Nat} (ys : List Int) (t : Two w0 w v1 z1 v2 z2) (hm : Mem w0 S w rows) (hty : ∀ r ∈ rows, r.2.2 ≠ 5) (hs : a.eval s = v1) (hx : a.eval x = .slice ps n c) (hold : SlOld w (.slice ps n c) ys) (hlen : z1.length + ys.length ≤ 1099511627776)
    (h : ∀ v' w', Two w0 w' v' (z1 ++ ys) v2 z2 → Mem w0 S w' rows → wpList Tryd.prog ops Q rest (a.put dst v') w') :
    wpList Tryd.prog ops Q ({ dst := dst, op := .call { callee := .builtin .append, args := #[s, x], argTypes := #[26, 26] }, type := typ, pos := pos, after := aft, guard := none } :: rest) a w := by
  obtain ⟨hn, _, hsrc⟩ := hold.src0
  subst hn
  by_cases h0 : 0 < ys.length
  · obtain ⟨b, off, rfl, hseg⟩ := hsrc h0
    exact wpl_appG rfl un_bs made_u8 ys t.own1 hm.size hs hx rfl hseg hlen (fun v' w' ho hg hv => h v' w' (t.grown ho hg hv) (hm.grown t.own1 hty hg))
  · obtain rfl : ys = [] := List.eq_nil_of_length_eq_zero (by omega)
    have hld : ∀ a : Addr, (loadCells a 0).run Tryd.prog w = .ok #[] w := fun a => rfl
    have hi := made_u8
    have hr : (Builtin.append_ #[26, 26] typ #[v1, .slice ps ([] : List Int).length c]).run Tryd.prog w = .ok v1 w := by
      cases hq : Tryd.prog.info? 5 with
      | none => simp [hq] at hi
      | some i =>
        obtain ⟨_, h3⟩ := t.own1
        rcases h3 with ⟨rfl, _⟩ | ⟨g, cap, cur, rfl, _, _, hn, _⟩
        · cases ps <;> simp [Builtin.append_, run_underlying un_bs, sizeOf, typeInfo, hq, Builtin.lenOf, Builtin.firstCells, hld]
        · cases ps <;> simp [Builtin.append_, run_underlying un_bs, sizeOf, typeInfo, hq, Builtin.lenOf, Builtin.firstCells, hld, hn, storeCells]
    refine wpList_plain rfl fun K hK => ?_
    have hh := hK _ _ (h v1 w (by rw [List.append_nil]; exact t) hm)
    unfold Oper.wp execOp
    simp only [resolve, invoke, builtin, Sem.run_bind, Sem.run_pure, Result.andThen_ok, List.map_toArray, List.map_cons, List.map_nil, hs, hx, hr]
    exact hh
theorem wpl_allocT {P : Program} {ty : TypeId} (z : List Value) (hz : ∀ w, (zeroValue ty).run P w = .ok (.agg z.toArray) w) (hm : Mem w0 S w rows)
    (h : ∀ w' g, Below w.heap.size w w' → Mem w0 S w' ((g, z, ty) :: rows) → wpList P ops Q rest (a.put dst (.pointer (some ⟨g, 0, none⟩))) w') :
    wpList P ops Q ({ dst := dst, op := .alloc ty, type := typ, pos := pos, after := aft, guard := none } :: rest) a w := by
  refine wpList_plain rfl fun K hK => ?_
  have hh := hK _ _ (h _ _ ((Below.refl _ _).alloc (Nat.le_refl _) _) (hm.alloc z ty))
  unfold Oper.wp execOp
  simp [Instr.alloc, newVar, newRow, newObj, hz, Value.cells]
  exact hh
end
end Go.Proofs.YtbfccepddfinoaaDoor

namespace Go.Proofs.YtbfccepddfinoaaDoor
open Go Go.RowKit

theorem pad_snoc (l : List Int) (p : Int) (i : Nat) (h : i < l.length) : (xorB l p).take (i + 1) = (xorB l p).take i ++ [bits .xor .u8 (l.getD i 0) p] := by
  have hl : i < (xorB l p).length := by rw [xorB_length]; exact h
  rw [List.take_succ_eq_append_getElem hl]
  simp [xorB, h]
theorem getD_app (a b : List Int) (i : Nat) (h : i < a.length) : (a ++ b).getD i 0 = a.getD i 0 := by
  rw [List.getD_eq_getElem?_getD, List.getElem?_append_left h, ← List.getD_eq_getElem?_getD]
theorem getD_past (a : List Int) (n i : Nat) (h : a.length ≤ i) : (a ++ List.replicate n 0).getD i 0 = 0 := by
  rw [List.getD_eq_getElem?_getD, List.getElem?_append_right h]
  by_cases hn : i - a.length < n
  · simp [hn]
  · rw [List.getElem?_eq_none (by simp; omega)]; rfl
theorem ty_more {g : Nat} {l : List Value} {rows : List (Nat × List Value × TypeId)} (h : ∀ r ∈ rows, r.2.2 ≠ 5) : ∀ r ∈ (g, l, 22) :: rows, r.2.2 ≠ 5 := by
  intro r hr
  rcases List.mem_cons.1 hr with rfl | hr
  · show (22 : Nat) ≠ 5; decide
  · exact h r hr
set_option maxHeartbeats 2000000 in
set_option maxRecDepth 100000 in
theorem macRef_any (ks ms : List Int) (vk vm : Value) (hbk : Bytes ks) (hbm : Bytes ms) (hkl : ks.length ≤ 500000) (hml : ms.length ≤ 500000) (w : World) (hvk : SlOld w vk ks) (hvm : SlOld w vm ms) :
    Calls Tryd.prog 31 #[vk, vm] w fun e w' => e = .returned (.agg (u8s (macOf ks ms)).toArray) ∧ Below w.heap.size w w' := by
  obtain ⟨pk, ck, rfl, _⟩ := hvk.len
  obtain ⟨pm, cm, rfl, _⟩ := hvm.len
  have hm := Mem.start w
  have HBK : Hid _ := hbk
  have HVK : Hid (SlOld w (.slice pk ks.length ck) ks) := hvk
  have HVM : Hid (SlOld w (.slice pm ms.length cm) ms) := hvm
  have HPK : Hid (0 < ks.length → ∃ b off, pk = some ⟨b, off, none⟩ ∧ Seg w b off ks) := hvk.src0.2.2
  have HBI : Hid (Bytes (padIn ks ++ ms)) := (padIn_bytes hbk).append hbm
  have HLI : Hid ((padIn ks ++ ms).length ≤ 1000000) := by show _ ≤ _; rw [List.length_append, padIn_length]; omega
  have HLM : Hid ((padIn ks).length + ms.length ≤ 1099511627776) := by show _ ≤ _; rw [padIn_length]; omega
  obtain ⟨s, hs⟩ : ∃ s, s = shaOf (padIn ks ++ ms) := ⟨_, rfl⟩
  have HSE : Hid (∀ _ : Unit, shaOf (padIn ks ++ ms) = s) := fun _ => hs.symm
  have HSL : Hid (s.length = 32) := by show _ = _; rw [hs, shaOf_length]
  have HBO : Hid (Bytes (padOut ks ++ s)) := (padOut_bytes hbk).append (by rw [hs]; exact shaOf_bytes _)
  have HLO : Hid ((padOut ks ++ s).length ≤ 1000000) := by show _ ≤ _; rw [List.length_append, padOut_length, HSL.out]; omega
  have HLS : Hid ((padOut ks).length + s.length ≤ 1099511627776) := by show _ ≤ _; rw [padOut_length, HSL.out]; omega
  obtain ⟨M, hM⟩ : ∃ M, M = shaOf (padOut ks ++ s) := ⟨_, rfl⟩
  have HME : Hid (∀ _ : Unit, shaOf (padOut ks ++ s) = M) := fun _ => hM.symm
  have HMLn : Hid (M.length = 32) := by show _ = _; rw [hM, shaOf_length]
  have HMM : Hid (∀ _ : Unit, macOf ks ms = M) := by intro _; rw [hM, hs]; rfl
  clear hbk hbm hvk hvm hs hM
  by_cases h64 : ks.length ≤ 64
  · have h64i : ¬ (64 : Int) < (ks.length : Int) := by omega
    have HKC : Hid (∀ _ : Unit, keyCut ks = ks) := by intro _; unfold keyCut; rw [if_pos (by omega)]
    go_enter Tryd.func31, Tryd.ntmps31
    go_wp2_with (first
      | ((with_reducible refine at_op (some 4) (.alloc 22) ?_); refine wpl_alloc _ zero_b32 hm ?_; clear hm; intro w1 g4 hm))
    have HTY : Hid (∀ r ∈ [(g4, u8s (List.replicate 32 0), 22)], r.2.2 ≠ 5) := by
      intro r hr
      simp only [List.mem_cons, List.not_mem_nil, or_false] at hr
      subst hr
      show (22 : Nat) ≠ 5
      decide
    go_loopw [6, 7, 8] (fun v6 v7 vi wr => ∃ i : Nat, i ≤ 64 ∧ vi = .int .i64 i ∧ Hid (Two w wr v6 ((padIn ks).take i) v7 ((padOut ks).take i)) ∧ Mem w [] wr [(g4, u8s (List.replicate 32 0), 22)]) (fun _ _ vi _ => 64 - (intOf vi).toNat)
    case atStart => exact ⟨0, by omega, rfl, Two.start _ _, hm⟩
    case round =>
      clear hm
      obtain ⟨i, hi, rfl, HTW, hm⟩ := hrel
      by_cases hlt : i < 64
      · have hii : (i : Int) < 64 := by omega
        obtain ⟨x, hx⟩ : ∃ x, x = (fillOf ks).getD i 0 := ⟨_, rfl⟩
        have HXF : Hid (x = (fillOf ks).getD i 0) := hx
        by_cases hin : i < ks.length
        · have hini : (i : Int) < (ks.length : Int) := by omega
          have hxk : x = ks.getD i 0 := by rw [hx, fillOf, getD_app _ _ _ (by rw [HKC.out ()]; exact hin), HKC.out ()]
          clear hx
          obtain ⟨b0, o0, rfl, hsk⟩ := HPK.out (by omega)
          have HCE : Hid (wr.cell? ⟨b0, o0 + i, none⟩ = some (.int .u8 x)) := by rw [hxk]; exact (hm.old (p := ⟨b0, o0 + i, none⟩) (block_lt_of_cell (hsk i hin)) (by simp)).trans (hsk i hin)
          clear hxk hsk
          have HS1 : Hid ((padIn ks).take (i + 1) = (padIn ks).take i ++ [bits .xor .u8 x 54]) := by show _ = _; rw [HXF.out]; exact pad_snoc (fillOf ks) 54 i (by rw [fillOf_length]; exact hlt)
          have HS2 : Hid ((padOut ks).take (i + 1) = (padOut ks).take i ++ [bits .xor .u8 x 92]) := by show _ = _; rw [HXF.out]; exact pad_snoc (fillOf ks) 92 i (by rw [fillOf_length]; exact hlt)
          have HL1 : Hid (((padIn ks).take i).length + [bits .xor .u8 x 54].length ≤ 1099511627776) := by show _ ≤ _; rw [List.length_take, padIn_length]; simp; omega
          have HL2 : Hid (((padOut ks).take i).length + [bits .xor .u8 x 92].length ≤ 1099511627776) := by show _ ≤ _; rw [List.length_take, padOut_length]; simp; omega
          go_wp2_with (first
            | ((with_reducible refine at_op (some 28) (.load 5 (.tmp 27)) ?_); go_must (refine wpl_ldx (.int .u8 x) HCE.out rfl ag_u8 ?_))
            | ((with_reducible refine at_op (some 32) (.buildSlice 26 1 #[(0, .tmp 31)]) ?_); go_must (refine wpl_bsl1 rfl (.int .u8 0) (.int .u8 (bits .xor .u8 x 54)) un_bs info_u8 rfl rfl rfl hm ?_); intro wa ga hba; intro hma; have HTa : Hid (Two w wa _ _ _ _) := Two.below HTW.out hba; clear hm hba HTW)
            | ((with_reducible refine at_op (some 33) (.call { callee := .builtin .append, args := #[.tmp 29, .tmp 32], argTypes := #[26, 26] }) ?_); go_must (refine wpl_appT [bits .xor .u8 x 54] HTa.out hma.tail HTY.out rfl rfl (old_all (l := [bits .xor .u8 x 54]) (hma.get 0 rfl) rfl (Nat.le_refl _)) HL1.out ?_); intro vb wb hb2 hmb; rw [← HS1.out] at hb2; have HTb : Hid (Two w wb _ _ _ _) := Two.swap hb2; clear hma HTa hb2)
            | ((with_reducible refine at_op (some 37) (.buildSlice 26 1 #[(0, .tmp 36)]) ?_); go_must (refine wpl_bsl1 rfl (.int .u8 0) (.int .u8 (bits .xor .u8 x 92)) un_bs info_u8 rfl rfl rfl hmb ?_); intro wc gc hbc; intro hmc; have HTc : Hid (Two w wc _ _ _ _) := Two.below HTb.out hbc; clear hmb hbc HTb)
            | ((with_reducible refine at_op (some 38) (.call { callee := .builtin .append, args := #[.tmp 34, .tmp 37], argTypes := #[26, 26] }) ?_); go_must (refine wpl_appT [bits .xor .u8 x 92] HTc.out hmc.tail HTY.out rfl rfl (old_all (l := [bits .xor .u8 x 92]) (hmc.get 0 rfl) rfl (Nat.le_refl _)) HL2.out ?_); intro vd wd hd2 hm; rw [← HS2.out] at hd2; have HTW : Hid (Two w wd _ _ _ _) := Two.swap hd2; clear hmc HTc hd2))
          go_roundw
          case rel => exact ⟨i + 1, by omega, by go_num, HTW.out, hm⟩
          case measure => simp [intOf]; omega
        · have hini : ¬ (i : Int) < (ks.length : Int) := by omega
          have hx0 : x = 0 := by rw [hx, fillOf, HKC.out (), getD_past _ _ _ (by omega)]
          clear hx
          subst hx0
          have HS1 : Hid ((padIn ks).take (i + 1) = (padIn ks).take i ++ [bits .xor .u8 0 54]) := by show _ = _; rw [HXF.out]; exact pad_snoc (fillOf ks) 54 i (by rw [fillOf_length]; exact hlt)
          have HS2 : Hid ((padOut ks).take (i + 1) = (padOut ks).take i ++ [bits .xor .u8 0 92]) := by show _ = _; rw [HXF.out]; exact pad_snoc (fillOf ks) 92 i (by rw [fillOf_length]; exact hlt)
          have HL1 : Hid (((padIn ks).take i).length + [bits .xor .u8 0 54].length ≤ 1099511627776) := by show _ ≤ _; rw [List.length_take, padIn_length]; simp; omega
          have HL2 : Hid (((padOut ks).take i).length + [bits .xor .u8 0 92].length ≤ 1099511627776) := by show _ ≤ _; rw [List.length_take, padOut_length]; simp; omega
          go_wp2_with (first
            | ((with_reducible refine at_op (some 32) (.buildSlice 26 1 #[(0, .tmp 31)]) ?_); go_must (refine wpl_bsl1 rfl (.int .u8 0) (.int .u8 (bits .xor .u8 0 54)) un_bs info_u8 rfl rfl rfl hm ?_); intro wa ga hba; intro hma; have HTa : Hid (Two w wa _ _ _ _) := Two.below HTW.out hba; clear hm hba HTW)
            | ((with_reducible refine at_op (some 33) (.call { callee := .builtin .append, args := #[.tmp 29, .tmp 32], argTypes := #[26, 26] }) ?_); go_must (refine wpl_appT [bits .xor .u8 0 54] HTa.out hma.tail HTY.out rfl rfl (old_all (l := [bits .xor .u8 0 54]) (hma.get 0 rfl) rfl (Nat.le_refl _)) HL1.out ?_); intro vb wb hb2 hmb; rw [← HS1.out] at hb2; have HTb : Hid (Two w wb _ _ _ _) := Two.swap hb2; clear hma HTa hb2)
            | ((with_reducible refine at_op (some 37) (.buildSlice 26 1 #[(0, .tmp 36)]) ?_); go_must (refine wpl_bsl1 rfl (.int .u8 0) (.int .u8 (bits .xor .u8 0 92)) un_bs info_u8 rfl rfl rfl hmb ?_); intro wc gc hbc; intro hmc; have HTc : Hid (Two w wc _ _ _ _) := Two.below HTb.out hbc; clear hmb hbc HTb)
            | ((with_reducible refine at_op (some 38) (.call { callee := .builtin .append, args := #[.tmp 34, .tmp 37], argTypes := #[26, 26] }) ?_); go_must (refine wpl_appT [bits .xor .u8 0 92] HTc.out hmc.tail HTY.out rfl rfl (old_all (l := [bits .xor .u8 0 92]) (hmc.get 0 rfl) rfl (Nat.le_refl _)) HL2.out ?_); intro vd wd hd2 hm; rw [← HS2.out] at hd2; have HTW : Hid (Two w wd _ _ _ _) := Two.swap hd2; clear hmc HTc hd2))
          go_roundw
          case rel => exact ⟨i + 1, by omega, by go_num, HTW.out, hm⟩
          case measure => simp [intOf]; omega
      · have hi64 : i = 64 := by omega
        subst hi64
        have ht2 := HTW.out
        rw [List.take_of_length_le (by rw [padIn_length]; omega), List.take_of_length_le (by rw [padOut_length]; omega)] at ht2
        have HTV : Hid (Two w wr u6 (padIn ks) u7 (padOut ks)) := ht2
        clear ht2 HTW
        go_wp2_with (first
          | ((with_reducible refine at_op (some 41) (.call { callee := .builtin .append, args := #[.tmp 39, .tmp 40], argTypes := #[26, 26] }) ?_); go_must (refine wpl_appT ms HTV.out hm HTY.out rfl rfl (SlOld.mem HVM.out hm) HLM.out ?_); intro v1 w5 h1 hm1; have HT1 : Hid (Two w w5 v1 (padIn ks ++ ms) u7 (padOut ks)) := h1; clear hm h1 HTV)
          | (go_at_call 43; first | (refine (sumRef_any (padIn ks ++ ms) _ HBI.out HLI.out _ HT1.out.own1.old).mono ?_; rintro e w6 ⟨he, hb⟩; rw [HSE.out ()] at he; subst he; have HT2 : Hid (Two w w6 v1 (padIn ks ++ ms) u7 (padOut ks)) := Two.below HT1.out hb; have hm2 := hm1.call hb; clear hb HT1 hm1) | (refine (sumRef_any (padOut ks ++ s) _ HBO.out HLO.out _ HT6.out.own1.old).mono ?_; rintro e w10 ⟨he, hb⟩; rw [HME.out ()] at he; subst he; have hm7 := hm6.call hb; clear hb HT6 hm6))
          | ((with_reducible refine at_op (some 10) (.alloc 22) ?_); refine wpl_allocT _ zero_b32 hm2 ?_; intro w7 g10 hb7 hm3; have HT3 : Hid (Two w w7 v1 (padIn ks ++ ms) u7 (padOut ks)) := Two.below HT2.out hb7; clear hb7 hm2 HT2)
          | ((with_reducible refine at_op none (.store 22 (.tmp 10) (.tmp 42)) ?_); go_must (refine wpl_stwV 0 (u8s s) hm3 rfl rfl rfl 32 sz_b32 (by simp [u8s_length]) (by rw [u8s_length]; exact HSL.out) (u8s_one _) ?_); intro w8 hu8 hm4; have HT4 : Hid (Two w w8 u7 (padOut ks) v1 (padIn ks ++ ms)) := Two.swap (Two.upd HT3.out (hm3.get 0 rfl) (by show (22 : Nat) ≠ 5; decide) hu8); clear hu8 hm3 HT3)
          | ((with_reducible refine at_op (some 45) (.call { callee := .builtin .append, args := #[.tmp 43, .tmp 44], argTypes := #[26, 26] }) ?_); go_must (refine wpl_appT s HT4.out hm4 (ty_more HTY.out) rfl rfl (old_all (hm4.get 0 rfl) HSL.out (Nat.le_refl _)) HLS.out ?_); intro v9 w9 h9 hm6; have HT6 : Hid (Two w w9 v9 (padOut ks ++ s) v1 (padIn ks ++ ms)) := h9; clear hm4 h9 HT4)
          | ((with_reducible refine at_op none (.store 22 (.tmp 4) (.tmp 46)) ?_); go_must (refine wpl_stw 1 (u8s M) hm7 rfl rfl rfl 32 sz_b32 (by simp [u8s_length]) (by rw [u8s_length]; exact HMLn.out) (u8s_one _) ?_); intro w11 hm8; clear hm7))
        exact ret_cell 1 hm8 rfl Tryd.results31 rfl _ un_b32 rfl 32 sz_b32 (by rw [u8s_length]; exact HMLn.out) rfl ⟨by rw [HMM.out ()], hm8.below⟩
  · have h64i : (64 : Int) < (ks.length : Int) := by omega
    have HKC : Hid (∀ _ : Unit, keyCut ks = (shaOf ks)) := by intro _; unfold keyCut; rw [if_neg (by omega)]
    go_enter Tryd.func31, Tryd.ntmps31
    go_wp2_with (first
      | ((with_reducible refine at_op (some 4) (.alloc 22) ?_); refine wpl_alloc _ zero_b32 hm ?_; clear hm; intro w1 g4 hm)
      | (go_at_call 43; refine (sumRef_any ks _ HBK.out (by omega) _ (SlOld.mem HVK.out hm)).mono ?_; rintro e w2 ⟨rfl, hb⟩; replace hm := hm.call hb; clear hb)
      | ((with_reducible refine at_op (some 5) (.alloc 22) ?_); refine wpl_alloc _ zero_b32 hm ?_; clear hm; intro w3 g5 hm)
      | ((with_reducible refine at_op none (.store 22 (.tmp 5) (.tmp 15)) ?_); refine wpl_stw 0 (u8s (shaOf ks)) hm rfl rfl rfl 32 sz_b32 (by simp [u8s_length]) (by rw [u8s_length, shaOf_length]) (u8s_one _) ?_; clear hm; intro w4 hm))
    have HTY : Hid (∀ r ∈ [(g5, u8s (shaOf ks), 22), (g4, u8s (List.replicate 32 0), 22)], r.2.2 ≠ 5) := by
      intro r hr
      simp only [List.mem_cons, List.not_mem_nil, or_false] at hr
      rcases hr with rfl | rfl
      · show (22 : Nat) ≠ 5; decide
      · show (22 : Nat) ≠ 5; decide
    go_loopw [6, 7, 8] (fun v6 v7 vi wr => ∃ i : Nat, i ≤ 64 ∧ vi = .int .i64 i ∧ Hid (Two w wr v6 ((padIn ks).take i) v7 ((padOut ks).take i)) ∧ Mem w [] wr [(g5, u8s (shaOf ks), 22), (g4, u8s (List.replicate 32 0), 22)]) (fun _ _ vi _ => 64 - (intOf vi).toNat)
    case atStart => exact ⟨0, by omega, rfl, Two.start _ _, hm⟩
    case round =>
      clear hm
      obtain ⟨i, hi, rfl, HTW, hm⟩ := hrel
      by_cases hlt : i < 64
      · have hii : (i : Int) < 64 := by omega
        obtain ⟨x, hx⟩ : ∃ x, x = (fillOf ks).getD i 0 := ⟨_, rfl⟩
        have HXF : Hid (x = (fillOf ks).getD i 0) := hx
        by_cases hin : i < (shaOf ks).length
        · have hini : (i : Int) < 32 := by have := shaOf_length ks; omega
          have hxk : x = (shaOf ks).getD i 0 := by rw [hx, fillOf, getD_app _ _ _ (by rw [HKC.out ()]; exact hin), HKC.out ()]
          clear hx
          have HCE : Hid (wr.cell? ⟨g5, i, none⟩ = some (.int .u8 x)) := by rw [hxk]; exact (hm.cell 0 rfl i).trans (u8s_get _ _ hin)
          clear hxk
          have HS1 : Hid ((padIn ks).take (i + 1) = (padIn ks).take i ++ [bits .xor .u8 x 54]) := by show _ = _; rw [HXF.out]; exact pad_snoc (fillOf ks) 54 i (by rw [fillOf_length]; exact hlt)
          have HS2 : Hid ((padOut ks).take (i + 1) = (padOut ks).take i ++ [bits .xor .u8 x 92]) := by show _ = _; rw [HXF.out]; exact pad_snoc (fillOf ks) 92 i (by rw [fillOf_length]; exact hlt)
          have HL1 : Hid (((padIn ks).take i).length + [bits .xor .u8 x 54].length ≤ 1099511627776) := by show _ ≤ _; rw [List.length_take, padIn_length]; simp; omega
          have HL2 : Hid (((padOut ks).take i).length + [bits .xor .u8 x 92].length ≤ 1099511627776) := by show _ ≤ _; rw [List.length_take, padOut_length]; simp; omega
          go_wp2_with (first
            | ((with_reducible refine at_op (some 28) (.load 5 (.tmp 27)) ?_); go_must (refine wpl_ldx (.int .u8 x) HCE.out rfl ag_u8 ?_))
            | ((with_reducible refine at_op (some 32) (.buildSlice 26 1 #[(0, .tmp 31)]) ?_); go_must (refine wpl_bsl1 rfl (.int .u8 0) (.int .u8 (bits .xor .u8 x 54)) un_bs info_u8 rfl rfl rfl hm ?_); intro wa ga hba; intro hma; have HTa : Hid (Two w wa _ _ _ _) := Two.below HTW.out hba; clear hm hba HTW)
            | ((with_reducible refine at_op (some 33) (.call { callee := .builtin .append, args := #[.tmp 29, .tmp 32], argTypes := #[26, 26] }) ?_); go_must (refine wpl_appT [bits .xor .u8 x 54] HTa.out hma.tail HTY.out rfl rfl (old_all (l := [bits .xor .u8 x 54]) (hma.get 0 rfl) rfl (Nat.le_refl _)) HL1.out ?_); intro vb wb hb2 hmb; rw [← HS1.out] at hb2; have HTb : Hid (Two w wb _ _ _ _) := Two.swap hb2; clear hma HTa hb2)
            | ((with_reducible refine at_op (some 37) (.buildSlice 26 1 #[(0, .tmp 36)]) ?_); go_must (refine wpl_bsl1 rfl (.int .u8 0) (.int .u8 (bits .xor .u8 x 92)) un_bs info_u8 rfl rfl rfl hmb ?_); intro wc gc hbc; intro hmc; have HTc : Hid (Two w wc _ _ _ _) := Two.below HTb.out hbc; clear hmb hbc HTb)
            | ((with_reducible refine at_op (some 38) (.call { callee := .builtin .append, args := #[.tmp 34, .tmp 37], argTypes := #[26, 26] }) ?_); go_must (refine wpl_appT [bits .xor .u8 x 92] HTc.out hmc.tail HTY.out rfl rfl (old_all (l := [bits .xor .u8 x 92]) (hmc.get 0 rfl) rfl (Nat.le_refl _)) HL2.out ?_); intro vd wd hd2 hm; rw [← HS2.out] at hd2; have HTW : Hid (Two w wd _ _ _ _) := Two.swap hd2; clear hmc HTc hd2))
          go_roundw
          case rel => exact ⟨i + 1, by omega, by go_num, HTW.out, hm⟩
          case measure => simp [intOf]; omega
        · have hini : ¬ (i : Int) < 32 := by have := shaOf_length ks; omega
          have hx0 : x = 0 := by rw [hx, fillOf, HKC.out (), getD_past _ _ _ (by omega)]
          clear hx
          subst hx0
          have HS1 : Hid ((padIn ks).take (i + 1) = (padIn ks).take i ++ [bits .xor .u8 0 54]) := by show _ = _; rw [HXF.out]; exact pad_snoc (fillOf ks) 54 i (by rw [fillOf_length]; exact hlt)
          have HS2 : Hid ((padOut ks).take (i + 1) = (padOut ks).take i ++ [bits .xor .u8 0 92]) := by show _ = _; rw [HXF.out]; exact pad_snoc (fillOf ks) 92 i (by rw [fillOf_length]; exact hlt)
          have HL1 : Hid (((padIn ks).take i).length + [bits .xor .u8 0 54].length ≤ 1099511627776) := by show _ ≤ _; rw [List.length_take, padIn_length]; simp; omega
          have HL2 : Hid (((padOut ks).take i).length + [bits .xor .u8 0 92].length ≤ 1099511627776) := by show _ ≤ _; rw [List.length_take, padOut_length]; simp; omega
          go_wp2_with (first
            | ((with_reducible refine at_op (some 32) (.buildSlice 26 1 #[(0, .tmp 31)]) ?_); go_must (refine wpl_bsl1 rfl (.int .u8 0) (.int .u8 (bits .xor .u8 0 54)) un_bs info_u8 rfl rfl rfl hm ?_); intro wa ga hba; intro hma; have HTa : Hid (Two w wa _ _ _ _) := Two.below HTW.out hba; clear hm hba HTW)
            | ((with_reducible refine at_op (some 33) (.call { callee := .builtin .append, args := #[.tmp 29, .tmp 32], argTypes := #[26, 26] }) ?_); go_must (refine wpl_appT [bits .xor .u8 0 54] HTa.out hma.tail HTY.out rfl rfl (old_all (l := [bits .xor .u8 0 54]) (hma.get 0 rfl) rfl (Nat.le_refl _)) HL1.out ?_); intro vb wb hb2 hmb; rw [← HS1.out] at hb2; have HTb : Hid (Two w wb _ _ _ _) := Two.swap hb2; clear hma HTa hb2)
            | ((with_reducible refine at_op (some 37) (.buildSlice 26 1 #[(0, .tmp 36)]) ?_); go_must (refine wpl_bsl1 rfl (.int .u8 0) (.int .u8 (bits .xor .u8 0 92)) un_bs info_u8 rfl rfl rfl hmb ?_); intro wc gc hbc; intro hmc; have HTc : Hid (Two w wc _ _ _ _) := Two.below HTb.out hbc; clear hmb hbc HTb)
            | ((with_reducible refine at_op (some 38) (.call { callee := .builtin .append, args := #[.tmp 34, .tmp 37], argTypes := #[26, 26] }) ?_); go_must (refine wpl_appT [bits .xor .u8 0 92] HTc.out hmc.tail HTY.out rfl rfl (old_all (l := [bits .xor .u8 0 92]) (hmc.get 0 rfl) rfl (Nat.le_refl _)) HL2.out ?_); intro vd wd hd2 hm; rw [← HS2.out] at hd2; have HTW : Hid (Two w wd _ _ _ _) := Two.swap hd2; clear hmc HTc hd2))
          go_roundw
          case rel => exact ⟨i + 1, by omega, by go_num, HTW.out, hm⟩
          case measure => simp [intOf]; omega
      · have hi64 : i = 64 := by omega
        subst hi64
        have ht2 := HTW.out
        rw [List.take_of_length_le (by rw [padIn_length]; omega), List.take_of_length_le (by rw [padOut_length]; omega)] at ht2
        have HTV : Hid (Two w wr u6 (padIn ks) u7 (padOut ks)) := ht2
        clear ht2 HTW
        go_wp2_with (first
          | ((with_reducible refine at_op (some 41) (.call { callee := .builtin .append, args := #[.tmp 39, .tmp 40], argTypes := #[26, 26] }) ?_); go_must (refine wpl_appT ms HTV.out hm HTY.out rfl rfl (SlOld.mem HVM.out hm) HLM.out ?_); intro v1 w5 h1 hm1; have HT1 : Hid (Two w w5 v1 (padIn ks ++ ms) u7 (padOut ks)) := h1; clear hm h1 HTV)
          | (go_at_call 43; first | (refine (sumRef_any (padIn ks ++ ms) _ HBI.out HLI.out _ HT1.out.own1.old).mono ?_; rintro e w6 ⟨he, hb⟩; rw [HSE.out ()] at he; subst he; have HT2 : Hid (Two w w6 v1 (padIn ks ++ ms) u7 (padOut ks)) := Two.below HT1.out hb; have hm2 := hm1.call hb; clear hb HT1 hm1) | (refine (sumRef_any (padOut ks ++ s) _ HBO.out HLO.out _ HT6.out.own1.old).mono ?_; rintro e w10 ⟨he, hb⟩; rw [HME.out ()] at he; subst he; have hm7 := hm6.call hb; clear hb HT6 hm6))
          | ((with_reducible refine at_op (some 10) (.alloc 22) ?_); refine wpl_allocT _ zero_b32 hm2 ?_; intro w7 g10 hb7 hm3; have HT3 : Hid (Two w w7 v1 (padIn ks ++ ms) u7 (padOut ks)) := Two.below HT2.out hb7; clear hb7 hm2 HT2)
          | ((with_reducible refine at_op none (.store 22 (.tmp 10) (.tmp 42)) ?_); go_must (refine wpl_stwV 0 (u8s s) hm3 rfl rfl rfl 32 sz_b32 (by simp [u8s_length]) (by rw [u8s_length]; exact HSL.out) (u8s_one _) ?_); intro w8 hu8 hm4; have HT4 : Hid (Two w w8 u7 (padOut ks) v1 (padIn ks ++ ms)) := Two.swap (Two.upd HT3.out (hm3.get 0 rfl) (by show (22 : Nat) ≠ 5; decide) hu8); clear hu8 hm3 HT3)
          | ((with_reducible refine at_op (some 45) (.call { callee := .builtin .append, args := #[.tmp 43, .tmp 44], argTypes := #[26, 26] }) ?_); go_must (refine wpl_appT s HT4.out hm4 (ty_more HTY.out) rfl rfl (old_all (hm4.get 0 rfl) HSL.out (Nat.le_refl _)) HLS.out ?_); intro v9 w9 h9 hm6; have HT6 : Hid (Two w w9 v9 (padOut ks ++ s) v1 (padIn ks ++ ms)) := h9; clear hm4 h9 HT4)
          | ((with_reducible refine at_op none (.store 22 (.tmp 4) (.tmp 46)) ?_); go_must (refine wpl_stw 2 (u8s M) hm7 rfl rfl rfl 32 sz_b32 (by simp [u8s_length]) (by rw [u8s_length]; exact HMLn.out) (u8s_one _) ?_); intro w11 hm8; clear hm7))
        exact ret_cell 2 hm8 rfl Tryd.results31 rfl _ un_b32 rfl 32 sz_b32 (by rw [u8s_length]; exact HMLn.out) rfl ⟨by rw [HMM.out ()], hm8.below⟩
end Go.Proofs.YtbfccepddfinoaaDoor
