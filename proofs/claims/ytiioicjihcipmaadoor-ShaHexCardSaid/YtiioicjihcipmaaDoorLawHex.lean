/- The walk of the law ShaHex. -/
import Derived.Test.YtiioicjihcipmaaDoorKnown
namespace Go.Proofs.YtiioicjihcipmaaDoor
open Go Go.RowKit

theorem and15 (c : Int) (h0 : 0 ≤ c) (h1 : c < 256) : bits .and .u8 c 15 = c % 16 := by
  rw [u8_and c 15 h0 h1 (by omega) (by omega), show (15 : Int).toNat = 15 from rfl, nat_mask4]
  omega
theorem eg_b32 : Tryd.prog.eqGuardType Tryd.prog.depth 25 = false := by kernel_rfl
set_option maxHeartbeats 400000 in
set_option maxRecDepth 100000 in
theorem shaHex_walk (la lb : List Int) (hla : la.length = 32) (hlb : lb.length = 32) (hba : Bytes la) (hbb : Bytes lb) (w : World) (ht : Tab w) :
    Calls Tryd.prog 5 #[.agg (u8s la).toArray, .agg (u8s lb).toArray] w fun e w' => e = .returned (.bool true) ∧ Below w.heap.size w w' := by
  have hm := Mem.start w
  have HT : Hid _ := ht
  have HLA : Hid _ := hla
  have HLB : Hid _ := hlb
  have HBA : Hid _ := hba
  have HBB : Hid _ := hbb
  clear ht hla hlb hba hbb
  go_enter Tryd.func5, Tryd.ntmps5
  go_wp2_with (first
    | ((with_reducible refine at_op (some 2) (.box 25 (.tmp 0)) ?_); refine wpl_box (u8s la) rfl hm ?_; clear hm; intro w1 g2 hm)
    | ((with_reducible refine at_op (some 3) (.box 25 (.tmp 1)) ?_); refine wpl_box (u8s lb) rfl hm ?_; clear hm; intro w2 g3 hm)
    | (go_at_call 8; refine (known_any _ (Tab.mem HT.out hm (by simp))).mono ?_; rintro e w3 ⟨rfl, hb⟩; replace hm := hm.call hb; clear hb)
    | ((with_reducible refine at_op (some 10) (.load 25 (.tmp 2)) ?_); refine wpl_ldw 1 hm rfl rfl _ un_b32 rfl 32 sz_b32 (by rw [u8s_length]; exact HLA.out) ?_)
    | (go_at_call 16; refine (hex_any la HLA.out HBA.out _).mono ?_; rintro e w4 ⟨rfl, hb⟩; replace hm := hm.call hb; clear hb))

  obtain ⟨s, hs⟩ : ∃ s, s = strOf (hexOf la) := ⟨_, rfl⟩
  have hsz : s.size = 64 := by rw [hs, strOf_size, hexOf_length, HLA.out]
  rw [← hs]
  have HS : Hid _ := hs
  clear hs
  have heq : decide (hexOf la = hexOf lb) = decide (la = lb) := by
    rw [Bool.eq_iff_iff, decide_eq_true_iff, decide_eq_true_iff]
    exact ⟨fun h => hexOf_inj (HLA.out.trans HLB.out.symm) HBA.out HBB.out h, fun h => by rw [h]⟩
  have HEQ : Hid _ := heq
  clear heq
  refine wp_ends0 ?_
  refine anyH_start (T := fun W => Mem w [] W [(g3, u8s lb, 25), (g2, u8s la, 25)]) (by kernel_rfl) hm ?_
  clear hm
  intro w5 hm
  refine anyH_takeG 0 (v := .string s) rfl (by kernel_rfl) (by kernel_rfl) (by kernel_rfl) rfl (fun W _ => rfl) hm ?_
  go_simp
  refine anyH_takeG 1 (v := .int .i64 64) rfl (by kernel_rfl) (by kernel_rfl) (by kernel_rfl) rfl (fun W _ => by go_simp) hm ?_
  go_simp
  refine anyH_takeG 2 (v := .bool false) rfl (by kernel_rfl) (by kernel_rfl) (by kernel_rfl) rfl (fun W _ => by go_simp) hm ?_
  go_simp
  refine anyH_takeG 3 (v := .bool false) rfl (by kernel_rfl) (by kernel_rfl) (by kernel_rfl) rfl (fun W _ => rfl) hm ?_
  go_simp
  refine anyH_takeG 4 (v := .string s) rfl (by kernel_rfl) (by kernel_rfl) (by kernel_rfl) rfl (fun W _ => rfl) hm ?_
  go_simp
  refine anyH_takeG 5 (v := .agg (u8s lb).toArray) rfl (by kernel_rfl) (by kernel_rfl) (by kernel_rfl) rfl (fun W hW => exec_ldsG 0 _ (Mem.get hW 0 rfl) rfl _ un_b32 rfl 32 sz_b32 (by have h1 := HLA.out; have h2 := HLB.out; simp [u8s_length]; omega) (by rw [List.drop_zero, List.take_of_length_le (by have h1 := HLA.out; have h2 := HLB.out; simp [u8s_length]; omega)])) hm ?_
  go_simp
  refine anyH_takeG 8 (v := .agg (u8s la).toArray) rfl (by kernel_rfl) (by kernel_rfl) (by kernel_rfl) rfl (fun W hW => exec_ldsG 0 _ (Mem.get hW 1 rfl) rfl _ un_b32 rfl 32 sz_b32 (by have h1 := HLA.out; have h2 := HLB.out; simp [u8s_length]; omega) (by rw [List.drop_zero, List.take_of_length_le (by have h1 := HLA.out; have h2 := HLB.out; simp [u8s_length]; omega)])) hm ?_
  go_simp
  refine anyH_takeG 9 (v := .agg (u8s lb).toArray) rfl (by kernel_rfl) (by kernel_rfl) (by kernel_rfl) rfl (fun W hW => exec_ldsG 0 _ (Mem.get hW 0 rfl) rfl _ un_b32 rfl 32 sz_b32 (by have h1 := HLA.out; have h2 := HLB.out; simp [u8s_length]; omega) (by rw [List.drop_zero, List.take_of_length_le (by have h1 := HLA.out; have h2 := HLB.out; simp [u8s_length]; omega)])) hm ?_
  go_simp
  refine anyH_takeG 10 (v := .bool (decide (la = lb))) rfl (by kernel_rfl) (by kernel_rfl) (by kernel_rfl) rfl (fun W _ => exec_eqa _ 32 .u8 la lb rfl rfl un_b32 un_u8 sz_u8 eg_b32 HLA.out HLB.out) hm ?_
  go_simp
  refine wpAnyH_all (rs := [6]) (by kernel_rfl) (by simp) ?_
  intro i hi
  simp only [List.mem_cons, List.not_mem_nil, or_false] at hi
  subst hi
  refine anyH_opG 6 rfl rfl ?_
  intro K hK
  go_simp
  refine (hex_any lb HLB.out HBB.out _).mono ?_
  rintro e w6 ⟨rfl, hb⟩
  replace hm := hm.call hb
  clear hb
  refine hK _ _ hm ?_
  clear hK K
  go_simp
  refine anyH_takeG 7 (v := .bool (decide (la = lb))) rfl (by kernel_rfl) (by kernel_rfl) (by kernel_rfl) rfl (fun W _ => exec_eqsB s (strOf (hexOf lb)) _ rfl rfl (by rw [HS.out, strOf_eq (hexOf_bytes _) (hexOf_bytes _), HEQ.out])) hm ?_
  go_simp
  refine anyH_takeG 11 (v := .bool false) rfl (by kernel_rfl) (by kernel_rfl) (by kernel_rfl) rfl (fun W _ => by go_simp) hm ?_
  go_simp
  refine anyH_takeG 12 (v := .bool false) rfl (by kernel_rfl) (by kernel_rfl) (by kernel_rfl) rfl (fun W _ => by go_simp) hm ?_
  go_simp

  refine wpAnyH_done (by kernel_rfl) ?_ _
  simp only [endsIn]
  go_wp2_with fail
  go_loopw [7] (fun vi wr => ∃ k : Nat, k ≤ 32 ∧ vi = .int .i64 k ∧ Mem w [] wr [(g3, u8s lb, 25), (g2, u8s la, 25)]) (fun vi _ => 32 - (intOf vi).toNat)
  case atStart => exact ⟨0, by omega, rfl, hm⟩
  case round =>
    clear hm
    obtain ⟨k, hk, rfl, hm⟩ := hrel
    by_cases hlt : k < 32
    · obtain ⟨c, hc⟩ : ∃ c, c = la.getD k 0 := ⟨_, rfl⟩
      have hcb : 0 ≤ c ∧ c < 256 := by rw [hc]; exact Bytes.get HBA.out k
      obtain ⟨hc0, hc1⟩ := hcb
      have hvc : (u8s la)[k]? = some (.int .u8 c) := by rw [u8s_get _ _ (by rw [HLA.out]; exact hlt), hc]
      have hget := hexOf_get la k (by rw [HLA.out]; exact hlt)
      have hx1 : ∃ b, s.data[2 * k]? = some b ∧ (b.toNat : Int) = hexDigit (c / 16) := by
        rw [HS.out, hc, ← hget.1]; exact strOf_get _ (hexOf_bytes _) _ (by rw [hexOf_length, HLA.out]; omega)
      have hx2 : ∃ b, s.data[2 * k + 1]? = some b ∧ (b.toNat : Int) = hexDigit (c % 16) := by
        rw [HS.out, hc, ← hget.2]; exact strOf_get _ (hexOf_bytes _) _ (by rw [hexOf_length, HLA.out]; omega)
      have hd1 := digs_at (c / 16) (c / 16).toNat (by omega) (by omega)
      have hd2 := digs_at (c % 16) (c % 16).toNat (by omega) (by omega)
      have he1 : c / 16 = ((c / 16).toNat : Int) := by omega
      have he2 : c % 16 = ((c % 16).toNat : Int) := by omega
      have HV : Hid _ := hvc
      have HX1 : Hid _ := hx1
      have HX2 : Hid _ := hx2
      have HD1 : Hid _ := hd1
      have HD2 : Hid _ := hd2
      have HE1 : Hid _ := he1
      have HE2 : Hid _ := he2
      clear hvc hget hx1 hx2 hd1 hd2 he1 he2 hc
      go_wp2_with fail
      refine wp_ends0 ?_
      refine anyH_start (T := fun W => Mem w [] W [(g3, u8s lb, 25), (g2, u8s la, 25)]) (by kernel_rfl) hm ?_
      clear hm
      intro w7 hm
      refine anyH_takeG 0 (v := .string s) rfl (by kernel_rfl) (by kernel_rfl) (by kernel_rfl) rfl (fun W _ => rfl) hm ?_
      go_simp
      refine anyH_takeG 1 (v := .int .i64 k) rfl (by kernel_rfl) (by kernel_rfl) (by kernel_rfl) rfl (fun W _ => rfl) hm ?_
      go_simp
      refine anyH_takeG 2 (v := .int .i64 (2 * k)) rfl (by kernel_rfl) (by kernel_rfl) (by kernel_rfl) rfl (fun W _ => by go_simp; rw [show 2 * (k : Int) = ((2 * k : Nat) : Int) by omega]; exact wrap_nat _ (by omega)) hm ?_
      go_simp
      refine anyH_takeG 3 (v := .int .u8 (hexDigit (c / 16))) rfl (by kernel_rfl) (by kernel_rfl) (by kernel_rfl) rfl (fun W _ => exec_ixs un_str s (2 * k) _ rfl rfl (by omega) HX1.out) hm ?_
      go_simp
      refine anyH_takeG 4 (v := .string digs) rfl (by kernel_rfl) (by kernel_rfl) (by kernel_rfl) rfl (fun W _ => rfl) hm ?_
      go_simp
      refine anyH_takeG 5 (v := .int .i64 k) rfl (by kernel_rfl) (by kernel_rfl) (by kernel_rfl) rfl (fun W _ => rfl) hm ?_
      go_simp
      refine anyH_takeG 6 (v := .pointer (some ⟨g2, k, none⟩)) rfl (by kernel_rfl) (by kernel_rfl) (by kernel_rfl) rfl (fun W _ => by go_simp) hm ?_
      go_simp
      refine anyH_takeG 7 (v := .int .u8 c) rfl (by kernel_rfl) (by kernel_rfl) (by kernel_rfl) rfl (fun W hW => exec_ldrG k _ (Mem.get hW 1 rfl) rfl ag_u8 HV.out) hm ?_
      go_simp
      refine anyH_takeG 8 (v := .int .u8 (c / 16)) rfl (by kernel_rfl) (by kernel_rfl) (by kernel_rfl) rfl (fun W _ => by go_simp) hm ?_
      go_simp
      refine anyH_takeG 9 (v := .int .u8 (hexDigit (c / 16))) rfl (by kernel_rfl) (by kernel_rfl) (by kernel_rfl) rfl (fun W _ => exec_ixs un_str digs (c / 16).toNat _ rfl rfl HE1.out HD1.out) hm ?_
      go_simp
      refine anyH_takeG 10 (v := .bool false) rfl (by kernel_rfl) (by kernel_rfl) (by kernel_rfl) rfl (fun W _ => by go_simp) hm ?_
      go_simp
      refine anyH_takeG 11 (v := .bool false) rfl (by kernel_rfl) (by kernel_rfl) (by kernel_rfl) rfl (fun W _ => rfl) hm ?_
      go_simp
      refine anyH_takeG 12 (v := .string s) rfl (by kernel_rfl) (by kernel_rfl) (by kernel_rfl) rfl (fun W _ => rfl) hm ?_
      go_simp
      refine anyH_takeG 13 (v := .int .i64 k) rfl (by kernel_rfl) (by kernel_rfl) (by kernel_rfl) rfl (fun W _ => rfl) hm ?_
      go_simp
      refine anyH_takeG 14 (v := .int .i64 (2 * k)) rfl (by kernel_rfl) (by kernel_rfl) (by kernel_rfl) rfl (fun W _ => by go_simp; rw [show 2 * (k : Int) = ((2 * k : Nat) : Int) by omega]; exact wrap_nat _ (by omega)) hm ?_
      go_simp
      refine anyH_takeG 15 (v := .int .i64 (2 * k + 1)) rfl (by kernel_rfl) (by kernel_rfl) (by kernel_rfl) rfl (fun W _ => by go_simp; rw [show 2 * (k : Int) + 1 = ((2 * k + 1 : Nat) : Int) by omega]; exact wrap_nat _ (by omega)) hm ?_
      go_simp
      refine anyH_takeG 16 (v := .int .u8 (hexDigit (c % 16))) rfl (by kernel_rfl) (by kernel_rfl) (by kernel_rfl) rfl (fun W _ => exec_ixs un_str s (2 * k + 1) _ rfl rfl (by omega) HX2.out) hm ?_
      go_simp
      refine anyH_takeG 17 (v := .string digs) rfl (by kernel_rfl) (by kernel_rfl) (by kernel_rfl) rfl (fun W _ => rfl) hm ?_
      go_simp
      refine anyH_takeG 18 (v := .int .i64 k) rfl (by kernel_rfl) (by kernel_rfl) (by kernel_rfl) rfl (fun W _ => rfl) hm ?_
      go_simp
      refine anyH_takeG 19 (v := .pointer (some ⟨g2, k, none⟩)) rfl (by kernel_rfl) (by kernel_rfl) (by kernel_rfl) rfl (fun W _ => by go_simp) hm ?_
      go_simp
      refine anyH_takeG 20 (v := .int .u8 c) rfl (by kernel_rfl) (by kernel_rfl) (by kernel_rfl) rfl (fun W hW => exec_ldrG k _ (Mem.get hW 1 rfl) rfl ag_u8 HV.out) hm ?_
      go_simp
      refine anyH_takeG 21 (v := .int .u8 (c % 16)) rfl (by kernel_rfl) (by kernel_rfl) (by kernel_rfl) rfl (fun W _ => by go_simp; exact and15 c hc0 hc1) hm ?_
      go_simp
      refine anyH_takeG 22 (v := .int .u8 (hexDigit (c % 16))) rfl (by kernel_rfl) (by kernel_rfl) (by kernel_rfl) rfl (fun W _ => exec_ixs un_str digs (c % 16).toNat _ rfl rfl HE2.out HD2.out) hm ?_
      go_simp
      refine anyH_takeG 23 (v := .bool false) rfl (by kernel_rfl) (by kernel_rfl) (by kernel_rfl) rfl (fun W _ => by go_simp) hm ?_
      go_simp
      refine anyH_takeG 24 (v := .bool false) rfl (by kernel_rfl) (by kernel_rfl) (by kernel_rfl) rfl (fun W _ => by go_simp) hm ?_
      go_simp

      refine wpAnyH_done (by kernel_rfl) ?_ _
      simp only [endsIn]
      go_wp2_with fail
      go_roundw
      case rel => exact ⟨k + 1, by omega, by go_num, hm⟩
      case measure => simp [intOf]; omega
    · go_wp2_with fail
      go_ret
      exact ⟨rfl, hm.below⟩
end Go.Proofs.YtiioicjihcipmaaDoor
