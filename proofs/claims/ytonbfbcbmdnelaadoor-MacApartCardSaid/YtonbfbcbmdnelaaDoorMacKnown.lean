/- The look at known codes comes out true; Extract. -/
import Derived.Test.YtonbfbcbmdnelaaDoorMacDeriveF
import Derived.Test.YtonbfbcbmdnelaaDoorMacEqualF
import Derived.Test.YtonbfbcbmdnelaaDoorEqs
import Derived.Lib.SlBytesConst
namespace Go.Proofs.YtonbfbcbmdnelaaDoor
open Go Go.RowKit

theorem str_mac : strOf (hexOf (macOf jefe want)) = { data := #[53, 98, 100, 99, 99, 49, 52, 54, 98, 102, 54, 48, 55, 53, 52, 101, 54, 97, 48, 52, 50, 52, 50, 54, 48, 56, 57, 53, 55, 53, 99, 55, 53, 97, 48, 48, 51, 102, 48, 56, 57, 100, 50, 55, 51, 57, 56, 51, 57, 100, 101, 99, 53, 56, 98, 57, 54, 52, 101, 99, 51, 56, 52, 51] } := by rw [mac_jefe]; rfl
theorem bytes_jefe : Bytes jefe := by unfold Bytes jefe; decide
theorem bytes_want : Bytes want := by unfold Bytes want; decide
theorem bytes_a : Bytes [97] := by unfold Bytes; decide
theorem bytes_b : Bytes [98] := by unfold Bytes; decide
theorem eg_key : Tryd.prog.eqGuardType Tryd.prog.depth 24 = false := by kernel_rfl
theorem eq_keys (l l' : List Int) (h : l.length = 32) (h' : l'.length = 32) : ∀ W, (Op.equalIn 10000 24 (.agg (u8s l).toArray) (.agg (u8s l').toArray)).run Tryd.prog W = .ok (decide (l = l')) W := by
  intro W
  exact run_eqa (P := Tryd.prog) W 9998 24 5 32 .u8 un_key un_u8 sz_u8 l l' h h'
theorem wpl_cvc {P : Program} {ops : Array Oper} {rest : List Oper} {a : Act} {w w0 : World} {dst : Option Tmp} {typ : TypeId} {pos : String} {aft : Array Edge} {gd : Option (Nat × Bool)} {S : List Nat} {rows : List (Nat × List Value × TypeId)} {Q : Exit → Act → World → Prop} {t e : TypeId} {x : Operand} (cs : List Int) (hw : Region.wanted { dst := dst, op := .convert t t x, type := typ, pos := pos, after := aft, guard := gd } (yielded ops a.tmps) = true) (ht : P.underlying t = some (.slice e)) (he : P.underlying e = some (.int .u8)) {n : Nat} (hx : a.eval x = .slice (some ⟨w.heap.size, 0, none⟩) n n) (hn : n = cs.length) (hm : Mem w0 S w rows)
    (h : ∀ w' g, Below w.heap.size w w' → Mem w0 S w' rows → SlOld w' (.slice (some ⟨g, 0, none⟩) n n) cs → wpList P ops Q rest (a.put dst (.slice (some ⟨g, 0, none⟩) n n)) w') :
    wpList P ops Q ({ dst := dst, op := .convert t t x, type := typ, pos := pos, after := aft, guard := gd } :: rest) a (w.alloc (.cells (u8s cs).toArray e)) := by
  subst hn
  have hb : Below w.heap.size w (w.alloc (.cells (u8s cs).toArray e ((u8s cs).toArray.size, (u8s cs).toArray.size + 1))) := (Below.refl _ _).alloc (Nat.le_refl _) _
  refine wpList_step fun K hK => ?_
  rw [if_pos hw]
  have hh := hK _ _ (h _ w.heap.size hb (hm.call hb) ⟨_, _, rfl, Nat.le_refl _, fun _ => ⟨w.heap.size, 0, rfl, Seg.newO w cs e _⟩⟩)
  unfold Oper.wp execOp
  simp only [hx, Lib.run_convert_bytes_const (P := P) w t e (u8s cs).toArray cs.length cs.length ht he, Sem.run_bind, Sem.run_pure, Result.andThen_ok]
  exact hh
set_option maxHeartbeats 600000 in
theorem extract_any (ks ms : List Int) (vk vm : Value) (hbk : Bytes ks) (hbm : Bytes ms) (hkl : ks.length ≤ 500000) (hml : ms.length ≤ 500000) (w : World) (ht : Tab w) (hvk : SlOld w vk ks) (hvm : SlOld w vm ms) :
    Calls Tryd.prog 7 #[vk, vm] w fun e w' => e = .returned (.agg (u8s (macOf ks ms)).toArray) ∧ Below w.heap.size w w' := by
  obtain ⟨pk, ck, rfl, _⟩ := hvk.len
  obtain ⟨pm, cm, rfl, _⟩ := hvm.len
  have hm := Mem.start w
  have HT : Hid _ := ht
  have HBK : Hid _ := hbk
  have HBM : Hid _ := hbm
  have HVK : Hid (SlOld w (.slice pk ks.length ck) ks) := hvk
  have HVM : Hid (SlOld w (.slice pm ms.length cm) ms) := hvm
  clear ht hbk hbm hvk hvm
  go_enter Tryd.func7, Tryd.ntmps7
  go_wp2_with (first
    | ((with_reducible refine at_op (some 4) (.alloc 24) ?_); refine wpl_alloc _ zero_key hm ?_; clear hm; intro w1 g4 hm)
    | (go_at_call 8; refine (mac_any ks ms _ _ HBK.out HBM.out hkl hml _ (Tab.mem HT.out hm (by simp)) (SlOld.mem HVK.out hm) (SlOld.mem HVM.out hm)).mono ?_; rintro e w2 ⟨rfl, hb⟩; replace hm := hm.call hb; clear hb)
    | ((with_reducible refine at_op none (.store 24 (.tmp 4) (.tmp 7)) ?_); refine wpl_stw 0 (u8s (macOf ks ms)) hm rfl rfl rfl 32 sz_key (by simp [u8s_length]) (by rw [u8s_length, macOf_length]) (u8s_one _) ?_; clear hm; intro w3 hm))
  exact ret_cell 0 hm rfl Tryd.results7 rfl _ un_key rfl 32 sz_key (by rw [u8s_length, macOf_length]) rfl ⟨rfl, hm.below⟩
set_option maxHeartbeats 1000000 in
set_option maxRecDepth 100000 in
theorem known_any (w : World) (ht : Tab w) :
    Calls Tryd.prog 6 #[] w fun e w' => e = .returned (.bool true) ∧ Below w.heap.size w w' := by
  have hm := Mem.start w
  have HT : Hid _ := ht
  clear ht
  obtain ⟨M, hM⟩ : ∃ M, M = macOf jefe want := ⟨_, rfl⟩
  obtain ⟨D0, hD0⟩ : ∃ D, D = deriveOf (List.replicate 32 0) (strB { data := #[97] }) 0 := ⟨_, rfl⟩
  obtain ⟨D1, hD1⟩ : ∃ D, D = deriveOf (List.replicate 32 0) (strB { data := #[97] }) 1 := ⟨_, rfl⟩
  have HSM : Hid (strOf (hexOf M) = { data := #[53, 98, 100, 99, 99, 49, 52, 54, 98, 102, 54, 48, 55, 53, 52, 101, 54, 97, 48, 52, 50, 52, 50, 54, 48, 56, 57, 53, 55, 53, 99, 55, 53, 97, 48, 48, 51, 102, 48, 56, 57, 100, 50, 55, 51, 57, 56, 51, 57, 100, 101, 99, 53, 56, 98, 57, 54, 52, 101, 99, 51, 56, 52, 51] }) := by show _ = _; rw [hM]; exact str_mac
  have HML : Hid (M.length = 32) := by show _ = _; rw [hM, macOf_length]
  have HMB : Hid (Bytes M) := by rw [hM]; exact macOf_bytes _ _
  have HM : Hid (macOf jefe want = M) := hM.symm
  have HD0 : Hid (deriveOf (List.replicate 32 0) (strB { data := #[97] }) 0 = D0) := hD0.symm
  have HD1 : Hid (deriveOf (List.replicate 32 0) (strB { data := #[97] }) 1 = D1) := hD1.symm
  have hne : ∀ W, (Op.equalIn 10000 24 (.agg (u8s D0).toArray) (.agg (u8s D1).toArray)).run Tryd.prog W = .ok false W := by
    intro W
    have hd : D0 ≠ D1 := by rw [hD0, hD1]; exact derive_apart
    rw [eq_keys D0 D1 (by rw [hD0, deriveOf_length]) (by rw [hD1, deriveOf_length]) W, decide_eq_false hd]
  have HNE : Hid _ := hne
  clear hM hD0 hD1 hne
  go_enter Tryd.func6, Tryd.ntmps6
  go_wp2_with (first
    | ((with_reducible refine at_op (some 3) (.convert 22 22 (.tmp 2)) ?_); go_must (refine wpl_cvc jefe rfl un_bs un_u8 rfl rfl hm ?_); clear hm; intro w2 gj hbj hm hj; have HJ : Hid (SlOld w2 (.slice (some ⟨gj, 0, none⟩) 4 4) jefe) := hj; clear hbj hj)
    | ((with_reducible refine at_op (some 5) (.convert 22 22 (.tmp 4)) ?_); go_must (refine wpl_cvc want rfl un_bs un_u8 rfl rfl hm ?_); clear hm; intro w3 gw hbw hm hw; have HJ2 : Hid (SlOld w3 (.slice (some ⟨gj, 0, none⟩) 4 4) jefe) := SlOld.below HJ.out hbw; have HW : Hid (SlOld w3 (.slice (some ⟨gw, 0, none⟩) 28 28) want) := hw; clear hbw hw HJ)
    | (go_at_call 8; refine (mac_any jefe want _ _ bytes_jefe bytes_want (by decide) (by decide) _ (Tab.mem HT.out hm (by simp)) HJ2.out HW.out).mono ?_; rintro e w4 ⟨rfl, hb⟩; rw [HM.out]; replace hm := hm.call hb; clear hb)
    | ((with_reducible refine at_op (some 1) (.alloc 23) ?_); refine wpl_alloc _ zero_b32 hm ?_; clear hm; intro w5 g1 hm)
    | ((with_reducible refine at_op none (.store 23 (.tmp 1) (.tmp 6)) ?_); refine wpl_stw 0 (u8s M) hm rfl rfl rfl 32 sz_b32 (by simp [u8s_length]) (by rw [u8s_length]; exact HML.out) (u8s_one _) ?_; clear hm; intro w6 hm)
    | ((with_reducible refine at_op (some 7) (.load 23 (.tmp 1)) ?_); refine wpl_ldw 0 hm rfl rfl _ un_b32 rfl 32 sz_b32 (by rw [u8s_length]; exact HML.out) ?_)
    | (go_at_call 15; refine (hex_any M HML.out HMB.out _).mono ?_; rintro e w7 ⟨rfl, hb⟩; rw [HSM.out]; replace hm := hm.call hb; clear hb)
    | (go_at_call 10; refine (expand_any (List.replicate 32 0) [] _ 0 (by simp) (Bytes.zeros _) bytes_none (by simp) (by omega) _ (Tab.mem HT.out hm (by simp)) ⟨none, 0, rfl, Nat.le_refl _, fun h => absurd h (by simp)⟩).mono ?_; rintro e w8 ⟨ge, rfl, hge, hr, hb⟩; replace hm := hm.call hb; clear hb hr hge))

  refine (equal_any [] [] _ _ bytes_none bytes_none (by simp) _ ⟨none, 0, rfl, Nat.le_refl _, fun h => absurd h (by simp)⟩ ⟨none, 0, rfl, Nat.le_refl _, fun h => absurd h (by simp)⟩).mono ?_
  rintro e w9 ⟨rfl, hb⟩
  replace hm := hm.call hb
  clear hb
  rw [show decide (([] : List Int) = []) = true from rfl]
  go_wp2_with (first
    | ((with_reducible refine at_opG (some 21) (.convert 22 22 (.tmp 20)) (some (12, true)) ?_); go_must (refine wpl_cvc [97] rfl un_bs un_u8 rfl rfl hm ?_); clear hm; intro w10 ga hba hm ha; have HA : Hid (SlOld w10 (.slice (some ⟨ga, 0, none⟩) 1 1) [97]) := ha; clear hba ha)
    | ((with_reducible refine at_opG (some 23) (.convert 22 22 (.tmp 22)) (some (12, true)) ?_); go_must (refine wpl_cvc [98] rfl un_bs un_u8 rfl rfl hm ?_); clear hm; intro w11 gb hbb hm hb2; have HA2 : Hid (SlOld w11 (.slice (some ⟨ga, 0, none⟩) 1 1) [97]) := SlOld.below HA.out hbb; have HB : Hid (SlOld w11 (.slice (some ⟨gb, 0, none⟩) 1 1) [98]) := hb2; clear hbb hb2 HA))
  refine (equal_any [97] [98] _ _ bytes_a bytes_b (by simp) _ HA2.out HB.out).mono ?_
  rintro e w12 ⟨rfl, hb⟩
  replace hm := hm.call hb
  clear hb
  rw [show decide (([97] : List Int) = [98]) = false from rfl]
  go_wp2_with fail
  refine (derive_any (List.replicate 32 0) { data := #[97] } 0 (by simp) (Bytes.zeros _) (by decide) (by omega) _ (Tab.mem HT.out hm (by simp))).mono ?_
  rintro e w13 ⟨rfl, hb⟩
  rw [HD0.out]
  replace hm := hm.call hb
  clear hb
  go_wp2_with fail
  refine (derive_any (List.replicate 32 0) { data := #[97] } 1 (by simp) (Bytes.zeros _) (by decide) (by omega) _ (Tab.mem HT.out hm (by simp))).mono ?_
  rintro e w14 ⟨rfl, hb⟩
  rw [HD1.out]
  replace hm := hm.call hb
  clear hb
  have hne := HNE.out
  go_wp2_with fail
  go_ret
  exact ⟨rfl, hm.below⟩
end Go.Proofs.YtonbfbcbmdnelaaDoor
