/- The reference's Put at four bytes, and its Derive. -/
import Derived.Test.YtonbfbcbmdnelaaDoorMacCon
namespace Go.Proofs.YtonbfbcbmdnelaaDoor
open Go Go.RowKit

theorem grown_below {w w1 w2 : World} {r : Option Nat} (h : w.grownBy w1 r) (hb : Below w1.heap.size w1 w2) : w.grownBy w2 r :=
  h.andThen (grown_of_below hb) (fun j hj => by cases hj)
set_option maxHeartbeats 1000000 in
theorem putRef4_any (v : Value) (zs : List Int) (x : Int) (hx : 0 ≤ x ∧ x < 4294967296) (base : Nat) (w : World) (hcon : ConB w base v zs) (hbase : base ≤ w.heap.size) (hlen : zs.length ≤ 1000000) :
    Calls Tryd.prog 22 #[v, .int .u64 x, .int .i64 4] w fun e w' => ∃ v', e = .returned v' ∧ ConB w' base v' (zs ++ be4 x) ∧ w.grownBy w' v.ownBlock := by
  obtain ⟨hx0, hx1⟩ := hx
  have HC0 : Hid (ConB w base v zs) := hcon
  have HG0 : Hid (w.grownBy w v.ownBlock) := World.grownBy.refl _ _
  have HL0 : Hid (Later w v v) := Later.refl _ _
  have HB0 : Hid (base ≤ w.heap.size) := hbase
  clear hcon hbase
  go_enter Tryd.func22, Tryd.ntmps22
  go_wp2_with fail
  refine wp_loop_rounds 5 ?_
  rw [rounds_succ]
  go_wp2_with (first
    | ((with_reducible refine at_op (some 25) (.buildSlice 22 1 #[(0, .tmp 24)]) ?_); go_must (refine wpl_bsl1 rfl (.int .u8 0) (.int .u8 (x / 16777216)) un_bs info_u8 rfl rfl rfl (Mem.start w) ?_); intro a0 g0 hb0 hm0; have HCa0 : Hid (ConB a0 base v zs) := ConB.kept HC0.out hb0; have HGa0 : Hid (w.grownBy a0 v.ownBlock) := grown_below HG0.out hb0; have HSa0 : Hid (Seg a0 g0 0 [x / 16777216]) := Seg.row (l := [x / 16777216]) (hm0.get 0 rfl); have HBa0 : Hid (base ≤ a0.heap.size) := Nat.le_trans HB0.out hb0.size; clear hb0 hm0)
    | ((with_reducible refine at_op (some 26) (.call { callee := .builtin .append, args := #[.tmp 18, .tmp 25], argTypes := #[22, 22] }) ?_); go_must (refine wpl_app1 (x / 16777216) HCa0.out HBa0.out rfl rfl HSa0.out (by simp; omega) ?_); intro v1 b1 hc hg hl; have HC1 : Hid (ConB b1 base v1 (zs ++ [x / 16777216])) := hc; have HG1 : Hid (w.grownBy b1 v.ownBlock) := grown_then HGa0.out HL0.out hg; have HL1 : Hid (Later w v v1) := Later.step HL0.out HGa0.out.size hl; have HB1 : Hid (base ≤ b1.heap.size) := Nat.le_trans HBa0.out hg.size; clear hc hg hl HCa0 HGa0 HSa0 HBa0))
  rw [rounds_succ]
  go_wp2_with (first
    | ((with_reducible refine at_op (some 25) (.buildSlice 22 1 #[(0, .tmp 24)]) ?_); go_must (refine wpl_bsl1 rfl (.int .u8 0) (.int .u8 (x / 65536 % 256)) un_bs info_u8 rfl rfl rfl (Mem.start b1) ?_); intro a1 g1 hb1 hm1; have HCa1 : Hid (ConB a1 base v1 (zs ++ [x / 16777216])) := ConB.kept HC1.out hb1; have HGa1 : Hid (w.grownBy a1 v.ownBlock) := grown_below HG1.out hb1; have HSa1 : Hid (Seg a1 g1 0 [x / 65536 % 256]) := Seg.row (l := [x / 65536 % 256]) (hm1.get 0 rfl); have HBa1 : Hid (base ≤ a1.heap.size) := Nat.le_trans HB1.out hb1.size; clear hb1 hm1)
    | ((with_reducible refine at_op (some 26) (.call { callee := .builtin .append, args := #[.tmp 18, .tmp 25], argTypes := #[22, 22] }) ?_); go_must (refine wpl_app1 (x / 65536 % 256) HCa1.out HBa1.out rfl rfl HSa1.out (by simp; omega) ?_); intro v2 b2 hc hg hl; have HC2 : Hid (ConB b2 base v2 ((zs ++ [x / 16777216]) ++ [x / 65536 % 256])) := hc; have HG2 : Hid (w.grownBy b2 v.ownBlock) := grown_then HGa1.out HL1.out hg; have HL2 : Hid (Later w v v2) := Later.step HL1.out HGa1.out.size hl; have HB2 : Hid (base ≤ b2.heap.size) := Nat.le_trans HBa1.out hg.size; clear hc hg hl HCa1 HGa1 HSa1 HBa1))
  rw [rounds_succ]
  go_wp2_with (first
    | ((with_reducible refine at_op (some 25) (.buildSlice 22 1 #[(0, .tmp 24)]) ?_); go_must (refine wpl_bsl1 rfl (.int .u8 0) (.int .u8 (x / 256 % 256)) un_bs info_u8 rfl rfl rfl (Mem.start b2) ?_); intro a2 g2 hb2 hm2; have HCa2 : Hid (ConB a2 base v2 ((zs ++ [x / 16777216]) ++ [x / 65536 % 256])) := ConB.kept HC2.out hb2; have HGa2 : Hid (w.grownBy a2 v.ownBlock) := grown_below HG2.out hb2; have HSa2 : Hid (Seg a2 g2 0 [x / 256 % 256]) := Seg.row (l := [x / 256 % 256]) (hm2.get 0 rfl); have HBa2 : Hid (base ≤ a2.heap.size) := Nat.le_trans HB2.out hb2.size; clear hb2 hm2)
    | ((with_reducible refine at_op (some 26) (.call { callee := .builtin .append, args := #[.tmp 18, .tmp 25], argTypes := #[22, 22] }) ?_); go_must (refine wpl_app1 (x / 256 % 256) HCa2.out HBa2.out rfl rfl HSa2.out (by simp; omega) ?_); intro v3 b3 hc hg hl; have HC3 : Hid (ConB b3 base v3 (((zs ++ [x / 16777216]) ++ [x / 65536 % 256]) ++ [x / 256 % 256])) := hc; have HG3 : Hid (w.grownBy b3 v.ownBlock) := grown_then HGa2.out HL2.out hg; have HL3 : Hid (Later w v v3) := Later.step HL2.out HGa2.out.size hl; have HB3 : Hid (base ≤ b3.heap.size) := Nat.le_trans HBa2.out hg.size; clear hc hg hl HCa2 HGa2 HSa2 HBa2))
  rw [rounds_succ]
  go_wp2_with (first
    | ((with_reducible refine at_op (some 25) (.buildSlice 22 1 #[(0, .tmp 24)]) ?_); go_must (refine wpl_bsl1 rfl (.int .u8 0) (.int .u8 (x % 256)) un_bs info_u8 rfl rfl rfl (Mem.start b3) ?_); intro a3 g3 hb3 hm3; have HCa3 : Hid (ConB a3 base v3 (((zs ++ [x / 16777216]) ++ [x / 65536 % 256]) ++ [x / 256 % 256])) := ConB.kept HC3.out hb3; have HGa3 : Hid (w.grownBy a3 v.ownBlock) := grown_below HG3.out hb3; have HSa3 : Hid (Seg a3 g3 0 [x % 256]) := Seg.row (l := [x % 256]) (hm3.get 0 rfl); have HBa3 : Hid (base ≤ a3.heap.size) := Nat.le_trans HB3.out hb3.size; clear hb3 hm3)
    | ((with_reducible refine at_op (some 26) (.call { callee := .builtin .append, args := #[.tmp 18, .tmp 25], argTypes := #[22, 22] }) ?_); go_must (refine wpl_app1 (x % 256) HCa3.out HBa3.out rfl rfl HSa3.out (by simp; omega) ?_); intro v4 b4 hc hg hl; have HC4 : Hid (ConB b4 base v4 ((((zs ++ [x / 16777216]) ++ [x / 65536 % 256]) ++ [x / 256 % 256]) ++ [x % 256])) := hc; have HG4 : Hid (w.grownBy b4 v.ownBlock) := grown_then HGa3.out HL3.out hg; have HL4 : Hid (Later w v v4) := Later.step HL3.out HGa3.out.size hl; have HB4 : Hid (base ≤ b4.heap.size) := Nat.le_trans HBa3.out hg.size; clear hc hg hl HCa3 HGa3 HSa3 HBa3))
  rw [rounds_succ]
  go_wp2_with fail
  go_ret
  refine ⟨_, rfl, ?_, HG4.out⟩
  have h := HC4.out
  rw [be4_shift, show x / 16777216 % 256 = x / 16777216 by omega]
  simpa using h
def cpUp (l : List Int) (i : Nat) : List Int := l.take i ++ List.replicate (32 - i) 0
theorem cpUp_length (l : List Int) (h : l.length = 32) (i : Nat) (hi : i ≤ 32) : (cpUp l i).length = 32 := by simp [cpUp, h]; omega
theorem cpUp_full (l : List Int) (h : l.length = 32) : cpUp l 32 = l := by
  unfold cpUp
  rw [List.take_of_length_le (by omega)]
  simp
theorem cpUp_set (l : List Int) (h : l.length = 32) (i : Nat) (hi : i < 32) : (cpUp l i).set i (l.getD i 0) = cpUp l (i + 1) := by
  have ht : (l.take i).length = i := by rw [List.length_take]; omega
  have hg : l.getD i 0 = l[i]'(by omega) := by simp [show i < l.length by omega]
  unfold cpUp
  rw [List.set_append_right _ _ (by omega), ht, Nat.sub_self, show 32 - i = (32 - (i + 1)) + 1 by omega, List.replicate_succ, List.set_cons_zero, List.take_succ_eq_append_getElem (by omega), hg, List.append_assoc]
  rfl
set_option maxHeartbeats 1000000 in
set_option maxRecDepth 100000 in
theorem deriveRef_any (ks : List Int) (s : ByteArray) (n : Int) (hkl : ks.length = 32) (hkb : Bytes ks) (hsl : s.size ≤ 50000) (hn : 0 ≤ n ∧ n < 4294967296) (w : World) :
    Calls Tryd.prog 13 #[.agg (u8s ks).toArray, .string s, .int .u32 n] w fun e w' => e = .returned (.agg (u8s (deriveOf ks (strB s) n)).toArray) ∧ Below w.heap.size w w' := by
  have HN : Hid (0 ≤ n ∧ n < 4294967296) := hn
  obtain ⟨hn0, hn1⟩ := hn
  have hm := Mem.start w
  have HKL : Hid _ := hkl
  have HKB : Hid _ := hkb
  have HSL : Hid ((strB s).length ≤ 50000) := by show _ ≤ _; rw [strB_length]; exact hsl
  have HIB : Hid (Bytes (strB s ++ be4 n)) := (strB_bytes s).append (be4_bytes n)
  have HU : Hid ((u8s ks).length = 32) := by show _ = _; rw [u8s_length]; exact hkl
  obtain ⟨Ls, hLs⟩ : ∃ L, L = (strB s ++ be4 n).length := ⟨_, rfl⟩
  have HLs : Hid (∀ _ : Unit, (strB s ++ be4 n).length = Ls) := fun _ => hLs.symm
  obtain ⟨D, hD⟩ : ∃ D, D = deriveOf ks (strB s) n := ⟨_, rfl⟩
  have HDE : Hid (∀ _ : Unit, expandOf ks (strB s ++ be4 n) 32 = D) := by intro _; rw [hD]; exact deriveOf_eq _ _ _
  have HDL : Hid (D.length = 32) := by show _ = _; rw [hD, deriveOf_length]
  have HDD : Hid (∀ _ : Unit, deriveOf ks (strB s) n = D) := fun _ => hD.symm
  have HTY : Hid (∀ (g g' : Nat) (l l' : List Value), ∀ r ∈ [((g, l, 24) : Nat × List Value × TypeId), (g', l', 24)], r.2.2 ≠ 5) := by
    intro g g' l l' r hr
    simp only [List.mem_cons, List.not_mem_nil, or_false] at hr
    rcases hr with rfl | rfl
    · show (24 : Nat) ≠ 5; decide
    · show (24 : Nat) ≠ 5; decide
  clear hkl hkb hD hLs
  go_enter Tryd.func13, Tryd.ntmps13
  go_wp2_with (first
    | ((with_reducible refine at_op (some 3) (.box 24 (.tmp 0)) ?_); refine wpl_box (u8s ks) rfl hm ?_; clear hm; intro w1 g3 hm)
    | ((with_reducible refine at_op (some 6) (.alloc 24) ?_); refine wpl_alloc _ zero_key hm ?_; clear hm; intro w2 g6 hm))

  refine wp_ends0 ?_
  refine anyH_start (T := fun W => Mem w [] W [(g3, u8s ks, 24)]) (by kernel_rfl) hm ?_
  clear hm
  intro w4 hm
  refine anyH_take 0 (v := .agg (u8s ks).toArray) rfl (by kernel_rfl) (by kernel_rfl) (by kernel_rfl) rfl (fun W hW => exec_lds 0 _ (Mem.get hW 0 rfl) rfl _ un_key rfl 32 sz_key (by rw [HU.out]; omega) (by rw [List.drop_zero, List.take_of_length_le (Nat.le_of_eq HU.out)])) hm.tail ?_
  go_simp
  refine anyH_take 1 (v := .string s) rfl (by kernel_rfl) (by kernel_rfl) (by kernel_rfl) rfl (fun W _ => by go_simp) hm.tail ?_
  go_simp
  refine anyH_take 3 (v := .int .u32 n) rfl (by kernel_rfl) (by kernel_rfl) (by kernel_rfl) rfl (fun W _ => by go_simp) hm.tail ?_
  go_simp
  refine anyH_take 4 (v := .int .u64 n) rfl (by kernel_rfl) (by kernel_rfl) (by kernel_rfl) rfl (fun W _ => by go_simp; exact wrapu_int n hn0 hn1) hm.tail ?_
  go_simp
  refine wpAnyH_all (rs := [2]) (by kernel_rfl) (by simp) ?_
  intro i hi
  simp only [List.mem_cons, List.not_mem_nil, or_false] at hi
  subst hi
  refine anyH_op 2 rfl rfl ?_
  intro K hK
  refine wpl_strc un_strT un_bs s (by omega) rfl hm ?_
  clear hm
  intro w5 g12 c12 hm hcon
  have HCN : Hid (ConB w5 w.heap.size (.slice (some ⟨g12, 0, none⟩) s.size c12) (strB s)) := hcon
  clear hcon
  refine wpList_nil ?_
  refine hK _ _ hm.tail ?_
  clear hK K
  refine wpAnyH_all (rs := [5]) (by kernel_rfl) (by simp) ?_
  intro i hi
  simp only [List.mem_cons, List.not_mem_nil, or_false] at hi
  subst hi
  refine anyH_op 5 rfl rfl ?_
  intro K hK
  go_wp2_with (go_at_call 22; refine (putRef4_any _ (strB s) n HN.out w.heap.size _ HCN.out hm.size (Nat.le_trans HSL.out (by omega))).mono ?_; rintro e w6 ⟨v15, rfl, hc15, hg⟩; have hs15 := hc15.old; replace hm := hm.grownC HCN.out (HTY.out _ _ _ _) hg; obtain ⟨p15, c15, hv15, _⟩ := hs15.len; rw [HLs.out ()] at hv15; subst hv15; have HS15 : Hid (SlOld w6 (.slice p15 Ls c15) (strB s ++ be4 n)) := hs15; clear hc15 hg hs15 HCN)
  refine hK _ _ hm.tail ?_
  clear hK K
  refine wpAnyH_all (rs := [6]) (by kernel_rfl) (by simp) ?_
  intro i hi
  simp only [List.mem_cons, List.not_mem_nil, or_false] at hi
  subst hi
  refine anyH_op 6 rfl rfl ?_
  intro K hK
  go_wp2_with (go_at_call 11; refine (expandRef_any ks (strB s ++ be4 n) _ 32 (by omega) HKL.out HKB.out HIB.out (by have := HSL.out; rw [List.length_append, be4_length]; omega) _ HS15.out).mono ?_; rintro e w7 ⟨v16, rfl, hs16, hb⟩; rw [HDE.out ()] at hs16; obtain ⟨p16, c16, hv16, _⟩ := hs16.len; rw [HDL.out] at hv16; subst hv16; have HS16 : Hid (SlOld w7 (.slice p16 32 c16) D) := hs16; replace hm := hm.call hb; clear hb hs16 HS15)
  refine hK _ _ hm.tail ?_
  clear hK K
  refine anyH_take 7 (v := .slice p16 32 c16) rfl (by kernel_rfl) (by kernel_rfl) (by kernel_rfl) rfl (fun W _ => by go_simp) hm.tail ?_
  go_simp
  refine wpAnyH_done (by kernel_rfl) ?_ _
  simp only [endsIn]
  have HM7 : Hid (Mem w [] w7 [(g6, u8s (List.replicate 32 0), 24), (g3, u8s ks, 24)]) := hm
  clear hm
  have hm := Mem.start w7
  obtain ⟨b16, o16, hp16, hseg16⟩ := HS16.out.src0.2.2 (by rw [HDL.out]; omega)
  subst hp16
  have HSG : Hid (Seg w7 b16 o16 D) := hseg16
  clear hseg16 HS16
  go_wp2_with (first
    | ((with_reducible refine at_op (some 8) (.alloc 24) ?_); refine wpl_alloc _ zero_key hm ?_; clear hm; intro w8 g8 hm))

  go_loopw [9] (fun vi wr => ∃ i : Nat, i ≤ 32 ∧ vi = .int .i64 i ∧ Mem w7 [] wr [(g8, u8s (cpUp D i), 24)]) (fun vi _ => 32 - (intOf vi).toNat)
  case atStart => exact ⟨0, by omega, rfl, hm⟩
  case round =>
    clear hm
    obtain ⟨i, hi, rfl, hm⟩ := hrel
    by_cases hlt : i < 32
    · have hii : (i : Int) < 32 := by omega
      have HCE : Hid (wr.cell? ⟨b16, o16 + i, none⟩ = some (.int .u8 (D.getD i 0))) := (HSG.out.mem hm (by simp)) i (by rw [HDL.out]; exact hlt)
      obtain ⟨x, hx⟩ : ∃ x, x = D.getD i 0 := ⟨_, rfl⟩
      have HCX : Hid (wr.cell? ⟨b16, o16 + i, none⟩ = some (.int .u8 x)) := by rw [hx]; exact HCE.out
      have HST : Hid ((u8s (cpUp D i)).set i (.int .u8 x) = u8s (cpUp D (i + 1))) := by show _ = _; rw [u8s_set, hx, cpUp_set D HDL.out i hlt]
      have HLN : Hid (i < (u8s (cpUp D i)).length) := by show _ < _; rw [u8s_length, cpUp_length D HDL.out i hi]; exact hlt
      clear hx HCE
      go_wp2_with (first
        | ((with_reducible refine at_op (some 25) (.load 5 (.tmp 24)) ?_); go_must (refine wpl_ldx (.int .u8 x) HCX.out rfl ag_u8 ?_))
        | ((with_reducible refine at_op none (.store 5 (.tmp 26) (.tmp 25)) ?_); go_must (refine wpl_stc 0 i (.int .u8 x) hm rfl rfl rfl sz_u8 HLN.out rfl rfl ?_); clear hm; intro w9 hm))
      rw [List.set_cons_zero, HST.out] at hm
      go_roundw
      case rel => exact ⟨i + 1, by omega, by go_num, hm⟩
      case measure => simp [intOf]; omega
    · have hi32 : i = 32 := by omega
      subst hi32
      rw [cpUp_full D HDL.out] at hm
      have hmA := HM7.out.adoptAll hm
      clear hm
      have hm : Mem w7 [g6, g3] wr [(g6, u8s (List.replicate 32 0), 24), (g3, u8s ks, 24), (g8, u8s D, 24)] := hmA
      clear hmA
      go_wp2_with (first
        | ((with_reducible refine at_op (some 27) (.load 24 (.tmp 8)) ?_); refine wpl_ldw 2 hm rfl rfl _ un_key rfl 32 sz_key (by rw [u8s_length]; exact HDL.out) ?_)
        | ((with_reducible refine at_op none (.store 24 (.tmp 6) (.tmp 27)) ?_); refine wpl_stw 0 (u8s D) hm rfl rfl rfl 32 sz_key (by simp [u8s_length]) (by rw [u8s_length]; exact HDL.out) (u8s_one _) ?_; clear hm; intro w10 hm))
      exact ret_cell 0 hm rfl Tryd.results13 rfl _ un_key rfl 32 sz_key (by rw [u8s_length]; exact HDL.out) rfl ⟨by rw [HDD.out ()], (HM7.out.trans hm).below⟩
end Go.Proofs.YtonbfbcbmdnelaaDoor
