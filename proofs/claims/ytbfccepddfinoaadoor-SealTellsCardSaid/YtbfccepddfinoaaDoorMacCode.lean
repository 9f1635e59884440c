/- The contracts of begin, code, Mac and Extract. -/
import Derived.Test.YtbfccepddfinoaaDoorMacFns
namespace Go.Proofs.YtbfccepddfinoaaDoor
open Go Go.RowKit

def begV (gi go : Nat) : List Value := [.pointer (some ⟨gi, 0, none⟩), .pointer (some ⟨go, 0, none⟩)]
set_option maxHeartbeats 1000000 in
set_option maxRecDepth 100000 in
theorem begin_any (b : List Int) (hbl : b.length = 64) (hbb : Bytes b) (w : World) (ht : Tab w) :
    Calls Tryd.prog 40 #[.agg (u8s b).toArray] w fun e w' => ∃ gi go, e = .returned (.agg (begV gi go).toArray) ∧ w.heap.size ≤ gi ∧ w.heap.size ≤ go ∧ gi ≠ go ∧ Row w' gi (hrow (wsOf (xorB b 54)) (restOf (xorB b 54)) ((xorB b 54).length : Int)) 99 ∧ Row w' go (hrow (wsOf (xorB b 92)) (restOf (xorB b 92)) ((xorB b 92).length : Int)) 99 ∧ Below w.heap.size w w' := by
  have hm := Mem.start w
  have HT : Hid _ := ht
  have HB : Hid _ := hbb
  have HL : Hid _ := hbl
  clear ht hbb hbl
  go_enter Tryd.func40, Tryd.ntmps40
  go_wp2_with (first
    | ((with_reducible refine at_op (some 1) (.box 64 (.tmp 0)) ?_); refine wpl_box (u8s b) rfl hm ?_; clear hm; intro w1 g1 hm)
    | ((with_reducible refine at_op (some 2) (.alloc 71) ?_); refine wpl_alloc _ zero_beg hm ?_; clear hm; intro w2 g2 hm))

  refine wp_ends0 ?_
  refine anyH_start (T := fun W => Mem w [] W [(g1, u8s b, 64)]) (by kernel_rfl) hm ?_
  clear hm
  intro w3 hm
  refine anyH_take 0 (v := .agg (u8s b).toArray) rfl (by kernel_rfl) (by kernel_rfl) (by kernel_rfl) rfl (fun W hW => exec_lds 0 _ (Mem.get hW 0 rfl) rfl _ un_b64 rfl 64 sz_b64 (by rw [u8s_length, HL.out]; omega) (by rw [List.drop_zero, List.take_of_length_le (by rw [u8s_length]; exact Nat.le_of_eq HL.out)])) hm.tail ?_
  go_simp
  refine anyH_take 2 (v := .agg (u8s b).toArray) rfl (by kernel_rfl) (by kernel_rfl) (by kernel_rfl) rfl (fun W hW => exec_lds 0 _ (Mem.get hW 0 rfl) rfl _ un_b64 rfl 64 sz_b64 (by rw [u8s_length, HL.out]; omega) (by rw [List.drop_zero, List.take_of_length_le (by rw [u8s_length]; exact Nat.le_of_eq HL.out)])) hm.tail ?_
  go_simp
  refine wpAnyH_all (rs := [1]) (by kernel_rfl) (by simp) ?_
  intro i hi
  simp only [List.mem_cons, List.not_mem_nil, or_false] at hi
  subst hi
  refine anyH_op 1 rfl rfl ?_
  intro K hK
  go_wp2_with (go_at_call 49; refine (hashOf_any b 54 HL.out HB.out (by omega) _ (Tab.mem HT.out hm (by simp))).mono ?_; rintro e w4 ⟨gi, rfl, hgi, hri, hb⟩; replace hm := hm.callNew hb hri hgi; clear hb hgi hri)
  refine hK _ _ hm.tail.tail ?_
  clear hK K
  refine wpAnyH_all (rs := [3]) (by kernel_rfl) (by simp) ?_
  intro i hi
  simp only [List.mem_cons, List.not_mem_nil, or_false] at hi
  subst hi
  refine anyH_op 3 rfl rfl ?_
  intro K hK
  go_wp2_with (go_at_call 49; refine (hashOf_any b 92 HL.out HB.out (by omega) _ (Tab.mem HT.out hm (by simp))).mono ?_; rintro e w5 ⟨go, rfl, hgo, hro, hb⟩; replace hm := hm.callNew hb hro hgo; clear hb hgo hro)
  refine hK _ _ hm.tail.tail.tail ?_
  clear hK K
  refine wpAnyH_all (rs := [4]) (by kernel_rfl) (by simp) ?_
  intro i hi
  simp only [List.mem_cons, List.not_mem_nil, or_false] at hi
  subst hi
  refine anyH_op 4 rfl rfl ?_
  intro K hK
  refine wpl_build (pl := [(0, .tmp 4), (1, .tmp 6)]) (begV gi go) [(0, .pointer (some ⟨gi, 0, none⟩)), (1, .pointer (some ⟨go, 0, none⟩))] rfl (by kernel_rfl) ?_
  refine wpList_nil ?_
  refine hK _ _ hm.tail.tail.tail ?_
  clear hK K
  refine wpAnyH_all (rs := [5]) (by kernel_rfl) (by simp) ?_
  intro i hi
  simp only [List.mem_cons, List.not_mem_nil, or_false] at hi
  subst hi
  refine anyH_op 5 rfl rfl ?_
  intro K hK
  refine wpl_stw 2 (begV gi go) hm rfl rfl rfl 2 sz_beg rfl rfl (by intro v hv; simp [begV] at hv; rcases hv with rfl | rfl <;> rfl) ?_
  clear hm
  intro w6 hm
  refine wpList_nil ?_
  refine hK _ _ hm.tail.tail.tail ?_
  clear hK K
  refine wpAnyH_done (by kernel_rfl) ?_ _
  simp only [endsIn]
  go_wp2_with fail
  have h0 := hm.fresh _ (List.mem_cons_self ..)
  have h1 := hm.tail.fresh _ (List.mem_cons_self ..)
  refine ret_cell 2 hm rfl Tryd.results40 rfl _ un_beg rfl 2 sz_beg rfl rfl ⟨gi, go, rfl, by simpa using h1, by simpa using h0, fun h => hm.ne 0 rfl h.symm, hm.get 1 rfl, hm.get 0 rfl, hm.below⟩
/-- The bytes of the first k parts. -/
def catN (Pc : Nat → List Int) : Nat → List Int
  | 0 => []
  | k + 1 => catN Pc k ++ Pc k
theorem catN_bytes {Pc : Nat → List Int} {N : Nat} (h : ∀ i, i < N → Bytes (Pc i)) : ∀ k, k ≤ N → Bytes (catN Pc k) := by
  intro k
  induction k with
  | zero => intro _; exact bytes_none
  | succ k ih => intro hk; exact (ih (by omega)).append (h k (by omega))
theorem catN_mono (Pc : Nat → List Int) (k j : Nat) : (catN Pc k).length ≤ (catN Pc (k + j)).length := by
  induction j with
  | zero => exact Nat.le_refl _
  | succ j ih => rw [← Nat.add_assoc, catN, List.length_append]; omega
theorem catN_le (Pc : Nat → List Int) {k N : Nat} (h : k ≤ N) : (catN Pc k).length ≤ (catN Pc N).length := by
  have := catN_mono Pc k (N - k)
  rwa [show k + (N - k) = N by omega] at this
set_option maxHeartbeats 2000000 in
set_option maxRecDepth 100000 in
theorem code_any (gi go : Nat) (ki ko : List Int) (hki : Bytes ki) (hko : Bytes ko) (hkl : ko.length ≤ 64) (b o N cap : Nat) (Pv : Nat → Value) (Pc : Nat → List Int) (hlen : ki.length + (catN Pc N).length ≤ 1000000) (hN : N ≤ 3) (w : World) (ht : Tab w)
    (hri : Row w gi (hrow (wsOf ki) (restOf ki) (ki.length : Int)) 99) (hro : Row w go (hrow (wsOf ko) (restOf ko) (ko.length : Int)) 99)
    (hp : ∀ i, i < N → w.cell? ⟨b, o + i, none⟩ = some (Pv i) ∧ SlOld w (Pv i) (Pc i) ∧ Bytes (Pc i)) :
    Calls Tryd.prog 42 #[.agg (begV gi go).toArray, .slice (some ⟨b, o, none⟩) N cap] w fun e w' => e = .returned (.agg (u8s (shaOf (ko ++ shaOf (ki ++ catN Pc N)))).toArray) ∧ Below w.heap.size w w' := by
  have hm := Mem.start w
  have HT : Hid _ := ht
  have HKI : Hid _ := hki
  have HKO : Hid _ := hko
  have HRI : Hid (Row w gi (hrow (wsOf ki) (restOf ki) (ki.length : Int)) 99) := hri
  have HRO : Hid (Row w go (hrow (wsOf ko) (restOf ko) (ko.length : Int)) 99) := hro
  have HP : Hid _ := hp
  have HCB : Hid (∀ k, k ≤ N → Bytes (catN Pc k)) := catN_bytes (fun i hi => (hp i hi).2.2)
  clear ht hki hko hri hro hp
  go_enter Tryd.func42, Tryd.ntmps42
  go_wp2_with (first
    | ((with_reducible refine at_op (some 2) (.box 71 (.tmp 0)) ?_); refine wpl_box (begV gi go) rfl hm ?_; clear hm; intro w1 g2 hm)
    | ((with_reducible refine at_op (some 4) (.alloc 22) ?_); refine wpl_alloc _ zero_b32 hm ?_; clear hm; intro w2 g4 hm)
    | ((with_reducible refine at_op (some 11) (.load 69 (.tmp 10)) ?_); refine wpl_ldc 1 0 (.pointer (some ⟨gi, 0, none⟩)) hm rfl rfl ag_hp (rfl) ?_)
    | (go_at_call 51; refine (copy_any gi (wsOf ki) (restOf ki) _ (wsOf_length _) (restOf_length _) _ (HRI.out.below' hm.below)).mono ?_; rintro e w3 ⟨gc, rfl, hge, hr, hb⟩; have HGC : Hid _ := Nat.ne_of_lt (Nat.lt_of_lt_of_le (Tab.lt (Tab.mem HT.out hm (by simp))) hge); replace hm := hm.callNew hb hr hge; clear hb hr hge))

  have hgw : w.heap.size ≤ gc := by simpa using hm.fresh _ (List.mem_cons_self ..)
  have HGW : Hid _ := hgw
  clear hgw
  go_loopw [15] (fun vi wr => ∃ k : Nat, k ≤ N ∧ vi = .int .i64 k ∧ Mem w [] wr [(gc, hrow (wsOf (ki ++ catN Pc k)) (restOf (ki ++ catN Pc k)) ((ki ++ catN Pc k).length : Int), 99), (g4, u8s (List.replicate 32 0), 22), (g2, begV gi go, 71)]) (fun vi _ => N - (intOf vi).toNat)
  case atStart => exact ⟨0, by omega, rfl, by rw [catN, List.append_nil]; exact hm⟩
  case round =>
    clear hm
    obtain ⟨k, hk, rfl, hm⟩ := hrel
    by_cases hlt : k < N
    · obtain ⟨hck, hsk, hbk⟩ := HP.out k hlt
      obtain ⟨pk, ck, hpk, _⟩ := hsk.len
      rw [hpk] at hck hsk
      have hki2 : (k : Int) < (N : Int) := by omega
      have HB0 : Hid (b < w.heap.size) := block_lt_of_cell hck
      have HCK : Hid _ := hck
      have HSK : Hid (SlOld w (.slice pk (Pc k).length ck) (Pc k)) := hsk
      have HBK : Hid _ := hbk
      have HBM : Hid (Bytes (ki ++ catN Pc k)) := Bytes.append HKI.out (HCB.out k (by omega))
      have hll : (ki ++ catN Pc k).length + (Pc k).length ≤ 1099511627776 := by
        have := catN_le Pc (show k + 1 ≤ N by omega)
        rw [catN, List.length_append] at this
        rw [List.length_append]
        omega
      have HLL : Hid _ := hll
      clear hck hsk hbk hll hpk
      go_wp2_with (first
        | ((with_reducible refine at_op (some 18) (.load 26 (.tmp 17)) ?_); refine wpl_ldx (.slice pk (Pc k).length ck) ((hm.old (p := ⟨b, o + k, none⟩) HB0.out (by simp)).trans HCK.out) rfl ag_bs ?_)
        | (go_at_call 52; refine (write_any gc (ki ++ catN Pc k) (Pc k) _ HBM.out HBK.out HLL.out _ (Tab.mem HT.out hm (by simp)) HGC.out (hm.get 0 rfl) (SlOld.sl HSK.out hm.below HGW.out)).mono ?_; rintro e w5 ⟨rfl, hr, hu⟩; replace hm := hm.upd 0 rfl hu hr; clear hr hu))

      rw [List.append_assoc] at hm
      replace hm : Mem w [] w5 [(gc, hrow (wsOf (ki ++ catN Pc (k + 1))) (restOf (ki ++ catN Pc (k + 1))) ((ki ++ catN Pc (k + 1)).length : Int), 99), (g4, u8s (List.replicate 32 0), 22), (g2, begV gi go, 71)] := hm
      go_roundw
      case rel => exact ⟨k + 1, by omega, by go_num, hm⟩
      case measure => simp [intOf]; omega
    · have hkN : k = N := by omega
      subst hkN
      have hni : ¬ (k : Int) < (k : Int) := by omega
      obtain ⟨s, hs⟩ : ∃ s, s = shaOf (ki ++ catN Pc k) := ⟨_, rfl⟩
      have HS : Hid _ := hs
      have HSL : Hid (s.length = 32) := by show _ = _; rw [hs, shaOf_length]
      have HSB : Hid (Bytes s) := by rw [hs]; exact shaOf_bytes _
      have HBM : Hid (Bytes (ki ++ catN Pc k)) := Bytes.append HKI.out (HCB.out k (by omega))
      have HBO : Hid (Bytes (ko ++ s)) := Bytes.append HKO.out HSB.out
      clear hs
      have HOL : Hid (ko.length + s.length ≤ 1099511627776) := by show _ ≤ _; have := HSL.out; omega
      go_wp2_with fail
      refine (hashSum_any gc (ki ++ catN Pc k) HBM.out (by rw [List.length_append]; omega) _ (Tab.mem HT.out hm (by simp)) (hm.get 0 rfl)).mono ?_
      rintro e w6 ⟨rfl, hb⟩
      replace hm := hm.call hb
      clear hb
      rw [show shaOf (ki ++ catN Pc k) = s from HS.out.symm]
      go_wp2_with (first
        | ((with_reducible refine at_op (some 8) (.alloc 22) ?_); refine wpl_alloc _ zero_b32 hm ?_; clear hm; intro w7 g8 hm)
        | ((with_reducible refine at_op none (.store 22 (.tmp 8) (.tmp 24)) ?_); refine wpl_stw 0 (u8s s) hm rfl rfl rfl 32 sz_b32 (by simp [u8s_length]) (by rw [u8s_length]; exact HSL.out) (u8s_one _) ?_; clear hm; intro w8 hm)
        | ((with_reducible refine at_op (some 26) (.load 69 (.tmp 25)) ?_); refine wpl_ldc 3 1 (.pointer (some ⟨go, 0, none⟩)) hm rfl rfl ag_hp (rfl) ?_)
        | (go_at_call 51; refine (copy_any go (wsOf ko) (restOf ko) _ (wsOf_length _) (restOf_length _) _ (HRO.out.below' hm.below)).mono ?_; rintro e w9 ⟨gd, rfl, hge, hr, hb⟩; have HGD : Hid _ := Nat.ne_of_lt (Nat.lt_of_lt_of_le (Tab.lt (Tab.mem HT.out hm (by simp))) hge); replace hm := hm.callNew hb hr hge; clear hb hr hge)
        | (go_at_call 52; refine (write_any gd ko s _ HKO.out HSB.out HOL.out _ (Tab.mem HT.out hm (by simp)) HGD.out (hm.get 0 rfl) (sl_all (hm.get 1 rfl) (fun h => hm.ne 0 rfl h.symm) HSL.out (Nat.le_refl _))).mono ?_; rintro e w10 ⟨rfl, hr, hu⟩; replace hm := hm.upd 0 rfl hu hr; clear hr hu)
        | (go_at_call 53; refine (hashSum_any gd (ko ++ s) HBO.out (by rw [List.length_append]; exact HOL.out) _ (Tab.mem HT.out hm (by simp)) (hm.get 0 rfl)).mono ?_; rintro e w11 ⟨rfl, hb⟩; replace hm := hm.call hb; clear hb)
        | ((with_reducible refine at_op none (.store 22 (.tmp 4) (.tmp 32)) ?_); refine wpl_stw 3 (u8s (shaOf (ko ++ s))) hm rfl rfl rfl 32 sz_b32 (by simp [u8s_length]) (by rw [u8s_length, shaOf_length]) (u8s_one _) ?_; clear hm; intro w12 hm))
      exact ret_cell 3 hm rfl Tryd.results42 rfl _ un_b32 rfl 32 sz_b32 (by rw [u8s_length, shaOf_length]) rfl ⟨by rw [HS.out], hm.below⟩
set_option maxHeartbeats 1000000 in
set_option maxRecDepth 100000 in
theorem mac_any (ks ms : List Int) (vk vm : Value) (hbk : Bytes ks) (hbm : Bytes ms) (hkl : ks.length ≤ 500000) (hml : ms.length ≤ 500000) (w : World) (ht : Tab w) (hvk : SlOld w vk ks) (hvm : SlOld w vm ms) :
    Calls Tryd.prog 29 #[vk, vm] w fun e w' => e = .returned (.agg (u8s (macOf ks ms)).toArray) ∧ Below w.heap.size w w' := by
  obtain ⟨pk, ck, rfl, _⟩ := hvk.len
  obtain ⟨pm, cm, rfl, _⟩ := hvm.len
  have hm := Mem.start w
  have HT : Hid _ := ht
  have HBK : Hid _ := hbk
  have HBM : Hid _ := hbm
  have HVK : Hid (SlOld w (.slice pk ks.length ck) ks) := hvk
  have HVM : Hid (SlOld w (.slice pm ms.length cm) ms) := hvm
  have HFB : Hid _ := fillOf_bytes hbk
  have HML : Hid (macOf ks ms = shaOf (padOut ks ++ shaOf (padIn ks ++ catN (fun _ => ms) 1))) := rfl
  clear ht hbk hbm hvk hvm
  go_enter Tryd.func29, Tryd.ntmps29
  go_wp2_with (first
    | ((with_reducible refine at_op (some 4) (.alloc 22) ?_); refine wpl_alloc _ zero_b32 hm ?_; clear hm; intro w1 g4 hm)
    | (go_at_call 41; refine (filled_any ks _ HBK.out (by omega) _ (Tab.mem HT.out hm (by simp)) (SlOld.mem HVK.out hm)).mono ?_; rintro e w2 ⟨rfl, hb⟩; replace hm := hm.call hb; clear hb)
    | (go_at_call 40; refine (begin_any (fillOf ks) (fillOf_length _) HFB.out _ (Tab.mem HT.out hm (by simp))).mono ?_; rintro e w3 ⟨gi, go, rfl, hgi, hgo, _, hri, hro, hb⟩; have HRI : Hid (Row w3 gi (hrow (wsOf (padIn ks)) (restOf (padIn ks)) ((padIn ks).length : Int)) 99) := hri; have HRO : Hid (Row w3 go (hrow (wsOf (padOut ks)) (restOf (padOut ks)) ((padOut ks).length : Int)) 99) := hro; replace hm := hm.call hb; clear hb hri hro hgi hgo)
    | ((with_reducible refine at_op (some 9) (.buildSlice 87 1 #[(0, .tmp 8)]) ?_); refine wpl_bsl1 rfl (.slice none 0 0) (.slice pm ms.length cm) un_bss info_bs rfl rfl rfl hm ?_; clear hm; intro w4 g9 hb4 hm)
    | (go_at_call 42; refine (code_any gi go (padIn ks) (padOut ks) (padIn_bytes HBK.out) (padOut_bytes HBK.out) (by rw [padOut_length]; omega) g9 0 1 1 (fun _ => .slice pm ms.length cm) (fun _ => ms) (by rw [padIn_length]; simp [catN]; omega) (by omega) _ (Tab.mem HT.out hm (by simp)) (HRI.out.below' hb4) (HRO.out.below' hb4) (fun i hi => ⟨by rw [Nat.zero_add, show i = 0 by omega]; exact hm.cell 0 rfl 0, SlOld.mem HVM.out hm, HBM.out⟩)).mono ?_; rintro e w5 ⟨rfl, hb⟩; rw [← HML.out]; replace hm := hm.call hb; clear hb)
    | ((with_reducible refine at_op none (.store 22 (.tmp 4) (.tmp 10)) ?_); refine wpl_stw 1 (u8s (macOf ks ms)) hm rfl rfl rfl 32 sz_b32 (by simp [u8s_length]) (by rw [u8s_length, macOf_length]) (u8s_one _) ?_; clear hm; intro w6 hm))
  exact ret_cell 1 hm rfl Tryd.results29 rfl _ un_b32 rfl 32 sz_b32 (by rw [u8s_length, macOf_length]) rfl ⟨rfl, hm.below⟩
end Go.Proofs.YtbfccepddfinoaaDoor
