/- The walk of the law MacEqual. -/
import Derived.Test.YtaalpmlmogfooaaDoorMacLaw
namespace Go.Proofs.YtaalpmlmogfooaaDoor
open Go Go.RowKit
set_option maxHeartbeats 1000000 in
set_option maxRecDepth 100000 in
theorem macEqual_none (v : Value) (cs : List Int) (at_ b : Int) (cut : Bool) (ha : 0 ≤ at_ ∧ at_ ≤ 255) (hby : 0 ≤ b ∧ b ≤ 255) (hxl : cs.length ≤ 9223372036854775807) (h0 : cs.length = 0) (w : World) (ht : Tab w) (hbc : Bytes cs) (hsl : SlOld w v cs) :
    Calls Tryd.prog 8 #[v, .int .u8 at_, .int .u8 b, .bool cut] w fun e w' => e = .returned (.bool true) ∧ Below w.heap.size w w' := by
  obtain ⟨p, cap, rfl, hcap⟩ := hsl.len
  obtain ⟨ha0, ha1⟩ := ha
  have HBY : Hid (0 ≤ b ∧ b < 256) := ⟨hby.1, by omega⟩
  obtain ⟨hb0, hb1⟩ := hby
  have hm := Mem.start w
  have HT : Hid _ := ht
  have HB : Hid _ := hbc
  have HLX : Hid _ := hxl
  have HV : Hid (SlOld w (.slice p cs.length cap) cs) := hsl
  clear ht hbc hsl
  obtain rfl : cs = [] := List.eq_nil_of_length_eq_zero h0
  clear h0 hxl hcap
  go_enter Tryd.func8, Tryd.ntmps8
  go_wp2_with (first
    | (go_at_call 9; refine (known_any _ (Tab.mem HT.out hm (by simp))).mono ?_; rintro e w3 ⟨rfl, hb⟩; replace hm := hm.call hb; clear hb)
    | (go_at_call 17; go_loud (refine (equal_any ([] : List Int) ([] : List Int) _ _ HB.out HB.out HLX.out _ (SlOld.mem HV.out hm) (SlOld.mem HV.out hm)).mono ?_; rintro e w4 ⟨he, hb⟩; rw [decide_eq_true (rfl : ([] : List Int) = ([] : List Int))] at he; subst he; replace hm := hm.call hb; clear hb)))
  go_ret
  exact ⟨rfl, hm.below⟩
set_option maxHeartbeats 1000000 in
set_option maxRecDepth 100000 in
theorem macEqual_long (v : Value) (cs : List Int) (at_ b : Int) (cut : Bool) (ha : 0 ≤ at_ ∧ at_ ≤ 255) (hby : 0 ≤ b ∧ b ≤ 255) (hxl : cs.length ≤ 9223372036854775807) (h100 : 100 < cs.length) (w : World) (ht : Tab w) (hbc : Bytes cs) (hsl : SlOld w v cs) :
    Calls Tryd.prog 8 #[v, .int .u8 at_, .int .u8 b, .bool cut] w fun e w' => e = .returned (.bool true) ∧ Below w.heap.size w w' := by
  obtain ⟨p, cap, rfl, hcap⟩ := hsl.len
  obtain ⟨ha0, ha1⟩ := ha
  have HBY : Hid (0 ≤ b ∧ b < 256) := ⟨hby.1, by omega⟩
  obtain ⟨hb0, hb1⟩ := hby
  have hm := Mem.start w
  have HT : Hid _ := ht
  have HB : Hid _ := hbc
  have HLX : Hid _ := hxl
  have HV : Hid (SlOld w (.slice p cs.length cap) cs) := hsl
  clear ht hbc hsl
  have h0i : ((cs.length : Int) == 0) = false := beq_eq_false_iff_ne.2 (by omega)
  have h1i : (100 : Int) < (cs.length : Int) := by omega
  go_enter Tryd.func8, Tryd.ntmps8
  go_wp2_with (first
    | (go_at_call 9; refine (known_any _ (Tab.mem HT.out hm (by simp))).mono ?_; rintro e w3 ⟨rfl, hb⟩; replace hm := hm.call hb; clear hb)
    | (go_at_call 17; go_loud (refine (equal_any cs cs _ _ HB.out HB.out HLX.out _ (SlOld.mem HV.out hm) (SlOld.mem HV.out hm)).mono ?_; rintro e w4 ⟨he, hb⟩; rw [decide_eq_true (rfl : cs = cs)] at he; subst he; replace hm := hm.call hb; clear hb)))
  go_ret
  exact ⟨rfl, hm.below⟩
set_option maxHeartbeats 1000000 in
set_option maxRecDepth 100000 in
theorem macEqual_cutZ (v : Value) (cs : List Int) (at_ b : Int) (cut : Bool) (ha : 0 ≤ at_ ∧ at_ ≤ 255) (hby : 0 ≤ b ∧ b ≤ 255) (hxl : cs.length ≤ 9223372036854775807) (h0 : 0 < cs.length) (h100 : cs.length ≤ 100) (hcut : cut = true) (hz : b = 0) (w : World) (ht : Tab w) (hbc : Bytes cs) (hsl : SlOld w v cs) :
    Calls Tryd.prog 8 #[v, .int .u8 at_, .int .u8 b, .bool cut] w fun e w' => e = .returned (.bool true) ∧ Below w.heap.size w w' := by
  subst hcut
  obtain ⟨p, cap, rfl, hcap⟩ := hsl.len
  obtain ⟨ha0, ha1⟩ := ha
  have HBY : Hid (0 ≤ b ∧ b < 256) := ⟨hby.1, by omega⟩
  obtain ⟨hb0, hb1⟩ := hby
  have hm := Mem.start w
  have HT : Hid _ := ht
  have HB : Hid _ := hbc
  have HLX : Hid _ := hxl
  have HV : Hid (SlOld w (.slice p cs.length cap) cs) := hsl
  clear ht hbc hsl
  have HZ : Hid _ := hz
  clear hz
  have h0i : ((cs.length : Int) == 0) = false := beq_eq_false_iff_ne.2 (by omega)
  have h1i : ¬ (100 : Int) < (cs.length : Int) := by omega
  have HPOS : Hid (0 < cs.length) := by show _ < _; omega
  obtain ⟨J, hJe⟩ : ∃ J, J = at_.toNat % cs.length := ⟨_, rfl⟩
  have hJ : J < cs.length := by rw [hJe]; exact Nat.mod_lt _ HPOS.out
  have hJi : at_.tmod (cs.length : Int) = (J : Int) := by
    rw [Int.tmod_eq_emod_of_nonneg ha0, hJe, Int.natCast_emod, Int.toNat_of_nonneg ha0]
  have hJm : at_ % (cs.length : Int) = (J : Int) := by
    rw [hJe, Int.natCast_emod, Int.toNat_of_nonneg ha0]
  have hJ0 : (0 : Int) ≤ (J : Int) := by omega
  have hJ1 : (J : Int) < (cs.length : Int) := by omega
  have hz0 : ¬ (cs.length : Int) = 0 := by omega
  clear hJe
  obtain ⟨c, hc⟩ : ∃ c, c = cs.getD J 0 := ⟨_, rfl⟩
  have HCC : Hid (c = cs.getD J 0) := hc
  have HCB : Hid (0 ≤ c ∧ c < 256) := by rw [hc]; exact Bytes.get HB.out J
  have HCG : Hid (∀ l : List Value, (u8s cs ++ l)[J]? = some (.int .u8 c)) := by
    intro l
    rw [List.getElem?_append_left (by rw [u8s_length]; exact hJ), u8s_get cs J hJ, hc]
  have HCS : Hid (∀ (l : List Value) (x : Int), (u8s cs ++ l).set J (.int .u8 x) = u8s (cs.set J x) ++ l) := by
    intro l x
    rw [List.set_append_left _ _ (by rw [u8s_length]; exact hJ), u8s_set]
  have HCL : Hid (∀ l : List Value, J < (u8s cs ++ l).length) := by
    intro l
    rw [List.length_append, u8s_length]
    omega
  clear hc
  go_enter Tryd.func8, Tryd.ntmps8
  go_wp2_with (first
    | (go_at_call 9; refine (known_any _ (Tab.mem HT.out hm (by simp))).mono ?_; rintro e w3 ⟨rfl, hb⟩; replace hm := hm.call hb; clear hb)
    | ((with_reducible refine at_op (some 29) (.call { callee := .builtin .append, args := #[.const (.slice none 0 0), .tmp 28], argTypes := #[22, 22] }) ?_); refine wpl_app rfl un_bs made_u8 cs hm (OwnB.nil _ _ _) (fun r hr => by cases hr) rfl rfl rfl (SlOld.mem HV.out hm).src0.2.2 (by simp; omega) ?_; clear hm; intro v1 w4 hown hm; replace hown : OwnB 5 w4 w.heap.size v1 cs := hown; obtain ⟨gb, cb, lb, rfl, hgb, hrb, hcb⟩ := OwnB.row hown HPOS.out; replace hm := Mem.adopt1 hm hrb hgb; clear hown hgb hrb)
    | ((with_reducible refine at_op (some 37) (.load 5 (.tmp 36)) ?_); go_must (refine wpl_ldc 0 J (.int .u8 c) hm rfl rfl ag_u8 (HCG.out _) ?_))
    | ((with_reducible refine at_op none (.store 5 (.tmp 40) (.tmp 39)) ?_); go_must (refine wpl_stc 0 J (.int .u8 (bits .xor .u8 c b)) hm rfl rfl rfl sz_u8 (HCL.out _) rfl rfl ?_); clear hm; intro w5 hm; go_must (rw [List.set_cons_zero, HCS.out] at hm)))
  have hzi : (b == 0) = true := beq_iff_eq.2 HZ.out
  have HBB : Hid (Bytes ((cs.set J (bits .xor .u8 c b)).take (cs.length - 1))) := (Bytes.set HB.out J _ (xor_byte HCB.out HBY.out)).take _
  have HLB : Hid (((cs.set J (bits .xor .u8 c b)).take (cs.length - 1)).length ≤ 9223372036854775807) := by show _ ≤ _; rw [List.length_take, List.length_set]; omega
  have HE1 : Hid (decide (cs = ((cs.set J (bits .xor .u8 c b)).take (cs.length - 1))) = false) := by
    show _ = _
    exact decide_eq_false (fun h => by have h2 := congrArg List.length h; rw [List.length_take, List.length_set] at h2; omega)
  have HE2 : Hid (decide (((cs.set J (bits .xor .u8 c b)).take (cs.length - 1)) = cs) = false) := by
    show _ = _
    rw [← HE1.out]
    exact decide_eq_decide.2 ⟨fun h => h.symm, fun h => h.symm⟩
  go_wp2_with (first
    | ((with_reducible refine at_op (some 46) (.slice 22 (.tmp 42) none (some (.tmp 45)) none) ?_); go_must (refine wpl_shi un_bs sz_u8 (cs.length - 1) (by omega) (by omega) rfl rfl (by omega) ?_)))
  refine (equal_any cs ((cs.set J (bits .xor .u8 c b)).take (cs.length - 1)) _ _ HB.out HBB.out HLX.out _ (SlOld.mem HV.out hm) (old_part (hm.get 0 rfl) (cs.length - 1) (by rw [List.length_set]; omega) (by omega))).mono ?_
  rintro e w7 ⟨he, hb⟩
  rw [HE1.out] at he
  subst he
  replace hm := hm.call hb
  clear hb
  go_wp2_with fail
  refine (equal_any ((cs.set J (bits .xor .u8 c b)).take (cs.length - 1)) cs _ _ HBB.out HB.out HLB.out _ (old_part (hm.get 0 rfl) (cs.length - 1) (by rw [List.length_set]; omega) (by omega)) (SlOld.mem HV.out hm)).mono ?_
  rintro e w8 ⟨he, hb⟩
  rw [HE2.out] at he
  subst he
  replace hm := hm.call hb
  clear hb
  go_wp2_with fail
  refine (equal_any cs ((cs.set J (bits .xor .u8 c b)).take (cs.length - 1)) _ _ HB.out HBB.out HLX.out _ (SlOld.mem HV.out hm) (old_part (hm.get 0 rfl) (cs.length - 1) (by rw [List.length_set]; omega) (by omega))).mono ?_
  rintro e w9 ⟨he, hb⟩
  rw [HE1.out] at he
  subst he
  replace hm := hm.call hb
  clear hb
  go_wp2_with fail
  go_ret
  exact ⟨rfl, hm.below⟩
set_option maxHeartbeats 1000000 in
set_option maxRecDepth 100000 in
theorem macEqual_cutN (v : Value) (cs : List Int) (at_ b : Int) (cut : Bool) (ha : 0 ≤ at_ ∧ at_ ≤ 255) (hby : 0 ≤ b ∧ b ≤ 255) (hxl : cs.length ≤ 9223372036854775807) (h0 : 0 < cs.length) (h100 : cs.length ≤ 100) (hcut : cut = true) (hz : ¬ b = 0) (w : World) (ht : Tab w) (hbc : Bytes cs) (hsl : SlOld w v cs) :
    Calls Tryd.prog 8 #[v, .int .u8 at_, .int .u8 b, .bool cut] w fun e w' => e = .returned (.bool true) ∧ Below w.heap.size w w' := by
  subst hcut
  obtain ⟨p, cap, rfl, hcap⟩ := hsl.len
  obtain ⟨ha0, ha1⟩ := ha
  have HBY : Hid (0 ≤ b ∧ b < 256) := ⟨hby.1, by omega⟩
  obtain ⟨hb0, hb1⟩ := hby
  have hm := Mem.start w
  have HT : Hid _ := ht
  have HB : Hid _ := hbc
  have HLX : Hid _ := hxl
  have HV : Hid (SlOld w (.slice p cs.length cap) cs) := hsl
  clear ht hbc hsl
  have HZ : Hid _ := hz
  clear hz
  have h0i : ((cs.length : Int) == 0) = false := beq_eq_false_iff_ne.2 (by omega)
  have h1i : ¬ (100 : Int) < (cs.length : Int) := by omega
  have HPOS : Hid (0 < cs.length) := by show _ < _; omega
  obtain ⟨J, hJe⟩ : ∃ J, J = at_.toNat % cs.length := ⟨_, rfl⟩
  have hJ : J < cs.length := by rw [hJe]; exact Nat.mod_lt _ HPOS.out
  have hJi : at_.tmod (cs.length : Int) = (J : Int) := by
    rw [Int.tmod_eq_emod_of_nonneg ha0, hJe, Int.natCast_emod, Int.toNat_of_nonneg ha0]
  have hJm : at_ % (cs.length : Int) = (J : Int) := by
    rw [hJe, Int.natCast_emod, Int.toNat_of_nonneg ha0]
  have hJ0 : (0 : Int) ≤ (J : Int) := by omega
  have hJ1 : (J : Int) < (cs.length : Int) := by omega
  have hz0 : ¬ (cs.length : Int) = 0 := by omega
  clear hJe
  obtain ⟨c, hc⟩ : ∃ c, c = cs.getD J 0 := ⟨_, rfl⟩
  have HCC : Hid (c = cs.getD J 0) := hc
  have HCB : Hid (0 ≤ c ∧ c < 256) := by rw [hc]; exact Bytes.get HB.out J
  have HCG : Hid (∀ l : List Value, (u8s cs ++ l)[J]? = some (.int .u8 c)) := by
    intro l
    rw [List.getElem?_append_left (by rw [u8s_length]; exact hJ), u8s_get cs J hJ, hc]
  have HCS : Hid (∀ (l : List Value) (x : Int), (u8s cs ++ l).set J (.int .u8 x) = u8s (cs.set J x) ++ l) := by
    intro l x
    rw [List.set_append_left _ _ (by rw [u8s_length]; exact hJ), u8s_set]
  have HCL : Hid (∀ l : List Value, J < (u8s cs ++ l).length) := by
    intro l
    rw [List.length_append, u8s_length]
    omega
  clear hc
  go_enter Tryd.func8, Tryd.ntmps8
  go_wp2_with (first
    | (go_at_call 9; refine (known_any _ (Tab.mem HT.out hm (by simp))).mono ?_; rintro e w3 ⟨rfl, hb⟩; replace hm := hm.call hb; clear hb)
    | ((with_reducible refine at_op (some 29) (.call { callee := .builtin .append, args := #[.const (.slice none 0 0), .tmp 28], argTypes := #[22, 22] }) ?_); refine wpl_app rfl un_bs made_u8 cs hm (OwnB.nil _ _ _) (fun r hr => by cases hr) rfl rfl rfl (SlOld.mem HV.out hm).src0.2.2 (by simp; omega) ?_; clear hm; intro v1 w4 hown hm; replace hown : OwnB 5 w4 w.heap.size v1 cs := hown; obtain ⟨gb, cb, lb, rfl, hgb, hrb, hcb⟩ := OwnB.row hown HPOS.out; replace hm := Mem.adopt1 hm hrb hgb; clear hown hgb hrb)
    | ((with_reducible refine at_op (some 37) (.load 5 (.tmp 36)) ?_); go_must (refine wpl_ldc 0 J (.int .u8 c) hm rfl rfl ag_u8 (HCG.out _) ?_))
    | ((with_reducible refine at_op none (.store 5 (.tmp 40) (.tmp 39)) ?_); go_must (refine wpl_stc 0 J (.int .u8 (bits .xor .u8 c b)) hm rfl rfl rfl sz_u8 (HCL.out _) rfl rfl ?_); clear hm; intro w5 hm; go_must (rw [List.set_cons_zero, HCS.out] at hm)))
  have hzi : (b == 0) = false := beq_eq_false_iff_ne.2 HZ.out
  have HBB : Hid (Bytes ((cs.set J (bits .xor .u8 c b)).take (cs.length - 1))) := (Bytes.set HB.out J _ (xor_byte HCB.out HBY.out)).take _
  have HLB : Hid (((cs.set J (bits .xor .u8 c b)).take (cs.length - 1)).length ≤ 9223372036854775807) := by show _ ≤ _; rw [List.length_take, List.length_set]; omega
  have HE1 : Hid (decide (cs = ((cs.set J (bits .xor .u8 c b)).take (cs.length - 1))) = false) := by
    show _ = _
    exact decide_eq_false (fun h => by have h2 := congrArg List.length h; rw [List.length_take, List.length_set] at h2; omega)
  have HE2 : Hid (decide (((cs.set J (bits .xor .u8 c b)).take (cs.length - 1)) = cs) = false) := by
    show _ = _
    rw [← HE1.out]
    exact decide_eq_decide.2 ⟨fun h => h.symm, fun h => h.symm⟩
  go_wp2_with (first
    | ((with_reducible refine at_op (some 46) (.slice 22 (.tmp 42) none (some (.tmp 45)) none) ?_); go_must (refine wpl_shi un_bs sz_u8 (cs.length - 1) (by omega) (by omega) rfl rfl (by omega) ?_)))
  refine (equal_any cs ((cs.set J (bits .xor .u8 c b)).take (cs.length - 1)) _ _ HB.out HBB.out HLX.out _ (SlOld.mem HV.out hm) (old_part (hm.get 0 rfl) (cs.length - 1) (by rw [List.length_set]; omega) (by omega))).mono ?_
  rintro e w7 ⟨he, hb⟩
  rw [HE1.out] at he
  subst he
  replace hm := hm.call hb
  clear hb
  go_wp2_with fail
  refine (equal_any ((cs.set J (bits .xor .u8 c b)).take (cs.length - 1)) cs _ _ HBB.out HB.out HLB.out _ (old_part (hm.get 0 rfl) (cs.length - 1) (by rw [List.length_set]; omega) (by omega)) (SlOld.mem HV.out hm)).mono ?_
  rintro e w8 ⟨he, hb⟩
  rw [HE2.out] at he
  subst he
  replace hm := hm.call hb
  clear hb
  go_wp2_with fail
  refine (equal_any cs ((cs.set J (bits .xor .u8 c b)).take (cs.length - 1)) _ _ HB.out HBB.out HLX.out _ (SlOld.mem HV.out hm) (old_part (hm.get 0 rfl) (cs.length - 1) (by rw [List.length_set]; omega) (by omega))).mono ?_
  rintro e w9 ⟨he, hb⟩
  rw [HE1.out] at he
  subst he
  replace hm := hm.call hb
  clear hb
  go_wp2_with fail
  go_ret
  exact ⟨rfl, hm.below⟩
set_option maxHeartbeats 1000000 in
set_option maxRecDepth 100000 in
theorem macEqual_wholeZ (v : Value) (cs : List Int) (at_ b : Int) (cut : Bool) (ha : 0 ≤ at_ ∧ at_ ≤ 255) (hby : 0 ≤ b ∧ b ≤ 255) (hxl : cs.length ≤ 9223372036854775807) (h0 : 0 < cs.length) (h100 : cs.length ≤ 100) (hcut : cut = false) (hz : b = 0) (w : World) (ht : Tab w) (hbc : Bytes cs) (hsl : SlOld w v cs) :
    Calls Tryd.prog 8 #[v, .int .u8 at_, .int .u8 b, .bool cut] w fun e w' => e = .returned (.bool true) ∧ Below w.heap.size w w' := by
  subst hcut
  obtain ⟨p, cap, rfl, hcap⟩ := hsl.len
  obtain ⟨ha0, ha1⟩ := ha
  have HBY : Hid (0 ≤ b ∧ b < 256) := ⟨hby.1, by omega⟩
  obtain ⟨hb0, hb1⟩ := hby
  have hm := Mem.start w
  have HT : Hid _ := ht
  have HB : Hid _ := hbc
  have HLX : Hid _ := hxl
  have HV : Hid (SlOld w (.slice p cs.length cap) cs) := hsl
  clear ht hbc hsl
  have HZ : Hid _ := hz
  clear hz
  have h0i : ((cs.length : Int) == 0) = false := beq_eq_false_iff_ne.2 (by omega)
  have h1i : ¬ (100 : Int) < (cs.length : Int) := by omega
  have HPOS : Hid (0 < cs.length) := by show _ < _; omega
  obtain ⟨J, hJe⟩ : ∃ J, J = at_.toNat % cs.length := ⟨_, rfl⟩
  have hJ : J < cs.length := by rw [hJe]; exact Nat.mod_lt _ HPOS.out
  have hJi : at_.tmod (cs.length : Int) = (J : Int) := by
    rw [Int.tmod_eq_emod_of_nonneg ha0, hJe, Int.natCast_emod, Int.toNat_of_nonneg ha0]
  have hJm : at_ % (cs.length : Int) = (J : Int) := by
    rw [hJe, Int.natCast_emod, Int.toNat_of_nonneg ha0]
  have hJ0 : (0 : Int) ≤ (J : Int) := by omega
  have hJ1 : (J : Int) < (cs.length : Int) := by omega
  have hz0 : ¬ (cs.length : Int) = 0 := by omega
  clear hJe
  obtain ⟨c, hc⟩ : ∃ c, c = cs.getD J 0 := ⟨_, rfl⟩
  have HCC : Hid (c = cs.getD J 0) := hc
  have HCB : Hid (0 ≤ c ∧ c < 256) := by rw [hc]; exact Bytes.get HB.out J
  have HCG : Hid (∀ l : List Value, (u8s cs ++ l)[J]? = some (.int .u8 c)) := by
    intro l
    rw [List.getElem?_append_left (by rw [u8s_length]; exact hJ), u8s_get cs J hJ, hc]
  have HCS : Hid (∀ (l : List Value) (x : Int), (u8s cs ++ l).set J (.int .u8 x) = u8s (cs.set J x) ++ l) := by
    intro l x
    rw [List.set_append_left _ _ (by rw [u8s_length]; exact hJ), u8s_set]
  have HCL : Hid (∀ l : List Value, J < (u8s cs ++ l).length) := by
    intro l
    rw [List.length_append, u8s_length]
    omega
  clear hc
  go_enter Tryd.func8, Tryd.ntmps8
  go_wp2_with (first
    | (go_at_call 9; refine (known_any _ (Tab.mem HT.out hm (by simp))).mono ?_; rintro e w3 ⟨rfl, hb⟩; replace hm := hm.call hb; clear hb)
    | ((with_reducible refine at_op (some 29) (.call { callee := .builtin .append, args := #[.const (.slice none 0 0), .tmp 28], argTypes := #[22, 22] }) ?_); refine wpl_app rfl un_bs made_u8 cs hm (OwnB.nil _ _ _) (fun r hr => by cases hr) rfl rfl rfl (SlOld.mem HV.out hm).src0.2.2 (by simp; omega) ?_; clear hm; intro v1 w4 hown hm; replace hown : OwnB 5 w4 w.heap.size v1 cs := hown; obtain ⟨gb, cb, lb, rfl, hgb, hrb, hcb⟩ := OwnB.row hown HPOS.out; replace hm := Mem.adopt1 hm hrb hgb; clear hown hgb hrb)
    | ((with_reducible refine at_op (some 37) (.load 5 (.tmp 36)) ?_); go_must (refine wpl_ldc 0 J (.int .u8 c) hm rfl rfl ag_u8 (HCG.out _) ?_))
    | ((with_reducible refine at_op none (.store 5 (.tmp 40) (.tmp 39)) ?_); go_must (refine wpl_stc 0 J (.int .u8 (bits .xor .u8 c b)) hm rfl rfl rfl sz_u8 (HCL.out _) rfl rfl ?_); clear hm; intro w5 hm; go_must (rw [List.set_cons_zero, HCS.out] at hm)))
  have hzi : (b == 0) = true := beq_iff_eq.2 HZ.out
  have HBB : Hid (Bytes ((cs.set J (bits .xor .u8 c b)).take cs.length)) := (Bytes.set HB.out J _ (xor_byte HCB.out HBY.out)).take _
  have HLB : Hid (((cs.set J (bits .xor .u8 c b)).take cs.length).length ≤ 9223372036854775807) := by show _ ≤ _; rw [List.length_take, List.length_set]; omega
  have HE1 : Hid (decide (cs = ((cs.set J (bits .xor .u8 c b)).take cs.length)) = true) := by
    show _ = _
    rw [List.take_of_length_le (by rw [List.length_set]; omega)]
    exact decide_eq_true ((set_same_iff cs J _ hJ).2 ((xor_same HCB.out HBY.out).2 HZ.out |>.trans HCC.out))
  have HE2 : Hid (decide (((cs.set J (bits .xor .u8 c b)).take cs.length) = cs) = true) := by
    show _ = _
    rw [← HE1.out]
    exact decide_eq_decide.2 ⟨fun h => h.symm, fun h => h.symm⟩
  go_wp2_with fail
  refine (equal_any cs ((cs.set J (bits .xor .u8 c b)).take cs.length) _ _ HB.out HBB.out HLX.out _ (SlOld.mem HV.out hm) (old_part (hm.get 0 rfl) cs.length (by rw [List.length_set]; omega) (by omega))).mono ?_
  rintro e w7 ⟨he, hb⟩
  rw [HE1.out] at he
  subst he
  replace hm := hm.call hb
  clear hb
  go_wp2_with fail
  refine (equal_any ((cs.set J (bits .xor .u8 c b)).take cs.length) cs _ _ HBB.out HB.out HLB.out _ (old_part (hm.get 0 rfl) cs.length (by rw [List.length_set]; omega) (by omega)) (SlOld.mem HV.out hm)).mono ?_
  rintro e w8 ⟨he, hb⟩
  rw [HE2.out] at he
  subst he
  replace hm := hm.call hb
  clear hb
  go_wp2_with fail
  refine (equal_any cs ((cs.set J (bits .xor .u8 c b)).take cs.length) _ _ HB.out HBB.out HLX.out _ (SlOld.mem HV.out hm) (old_part (hm.get 0 rfl) cs.length (by rw [List.length_set]; omega) (by omega))).mono ?_
  rintro e w9 ⟨he, hb⟩
  rw [HE1.out] at he
  subst he
  replace hm := hm.call hb
  clear hb
  go_wp2_with fail
  go_ret
  exact ⟨rfl, hm.below⟩
set_option maxHeartbeats 1000000 in
set_option maxRecDepth 100000 in
theorem macEqual_wholeN (v : Value) (cs : List Int) (at_ b : Int) (cut : Bool) (ha : 0 ≤ at_ ∧ at_ ≤ 255) (hby : 0 ≤ b ∧ b ≤ 255) (hxl : cs.length ≤ 9223372036854775807) (h0 : 0 < cs.length) (h100 : cs.length ≤ 100) (hcut : cut = false) (hz : ¬ b = 0) (w : World) (ht : Tab w) (hbc : Bytes cs) (hsl : SlOld w v cs) :
    Calls Tryd.prog 8 #[v, .int .u8 at_, .int .u8 b, .bool cut] w fun e w' => e = .returned (.bool true) ∧ Below w.heap.size w w' := by
  subst hcut
  obtain ⟨p, cap, rfl, hcap⟩ := hsl.len
  obtain ⟨ha0, ha1⟩ := ha
  have HBY : Hid (0 ≤ b ∧ b < 256) := ⟨hby.1, by omega⟩
  obtain ⟨hb0, hb1⟩ := hby
  have hm := Mem.start w
  have HT : Hid _ := ht
  have HB : Hid _ := hbc
  have HLX : Hid _ := hxl
  have HV : Hid (SlOld w (.slice p cs.length cap) cs) := hsl
  clear ht hbc hsl
  have HZ : Hid _ := hz
  clear hz
  have h0i : ((cs.length : Int) == 0) = false := beq_eq_false_iff_ne.2 (by omega)
  have h1i : ¬ (100 : Int) < (cs.length : Int) := by omega
  have HPOS : Hid (0 < cs.length) := by show _ < _; omega
  obtain ⟨J, hJe⟩ : ∃ J, J = at_.toNat % cs.length := ⟨_, rfl⟩
  have hJ : J < cs.length := by rw [hJe]; exact Nat.mod_lt _ HPOS.out
  have hJi : at_.tmod (cs.length : Int) = (J : Int) := by
    rw [Int.tmod_eq_emod_of_nonneg ha0, hJe, Int.natCast_emod, Int.toNat_of_nonneg ha0]
  have hJm : at_ % (cs.length : Int) = (J : Int) := by
    rw [hJe, Int.natCast_emod, Int.toNat_of_nonneg ha0]
  have hJ0 : (0 : Int) ≤ (J : Int) := by omega
  have hJ1 : (J : Int) < (cs.length : Int) := by omega
  have hz0 : ¬ (cs.length : Int) = 0 := by omega
  clear hJe
  obtain ⟨c, hc⟩ : ∃ c, c = cs.getD J 0 := ⟨_, rfl⟩
  have HCC : Hid (c = cs.getD J 0) := hc
  have HCB : Hid (0 ≤ c ∧ c < 256) := by rw [hc]; exact Bytes.get HB.out J
  have HCG : Hid (∀ l : List Value, (u8s cs ++ l)[J]? = some (.int .u8 c)) := by
    intro l
    rw [List.getElem?_append_left (by rw [u8s_length]; exact hJ), u8s_get cs J hJ, hc]
  have HCS : Hid (∀ (l : List Value) (x : Int), (u8s cs ++ l).set J (.int .u8 x) = u8s (cs.set J x) ++ l) := by
    intro l x
    rw [List.set_append_left _ _ (by rw [u8s_length]; exact hJ), u8s_set]
  have HCL : Hid (∀ l : List Value, J < (u8s cs ++ l).length) := by
    intro l
    rw [List.length_append, u8s_length]
    omega
  clear hc
  go_enter Tryd.func8, Tryd.ntmps8
  go_wp2_with (first
    | (go_at_call 9; refine (known_any _ (Tab.mem HT.out hm (by simp))).mono ?_; rintro e w3 ⟨rfl, hb⟩; replace hm := hm.call hb; clear hb)
    | ((with_reducible refine at_op (some 29) (.call { callee := .builtin .append, args := #[.const (.slice none 0 0), .tmp 28], argTypes := #[22, 22] }) ?_); refine wpl_app rfl un_bs made_u8 cs hm (OwnB.nil _ _ _) (fun r hr => by cases hr) rfl rfl rfl (SlOld.mem HV.out hm).src0.2.2 (by simp; omega) ?_; clear hm; intro v1 w4 hown hm; replace hown : OwnB 5 w4 w.heap.size v1 cs := hown; obtain ⟨gb, cb, lb, rfl, hgb, hrb, hcb⟩ := OwnB.row hown HPOS.out; replace hm := Mem.adopt1 hm hrb hgb; clear hown hgb hrb)
    | ((with_reducible refine at_op (some 37) (.load 5 (.tmp 36)) ?_); go_must (refine wpl_ldc 0 J (.int .u8 c) hm rfl rfl ag_u8 (HCG.out _) ?_))
    | ((with_reducible refine at_op none (.store 5 (.tmp 40) (.tmp 39)) ?_); go_must (refine wpl_stc 0 J (.int .u8 (bits .xor .u8 c b)) hm rfl rfl rfl sz_u8 (HCL.out _) rfl rfl ?_); clear hm; intro w5 hm; go_must (rw [List.set_cons_zero, HCS.out] at hm)))
  have hzi : (b == 0) = false := beq_eq_false_iff_ne.2 HZ.out
  have HBB : Hid (Bytes ((cs.set J (bits .xor .u8 c b)).take cs.length)) := (Bytes.set HB.out J _ (xor_byte HCB.out HBY.out)).take _
  have HLB : Hid (((cs.set J (bits .xor .u8 c b)).take cs.length).length ≤ 9223372036854775807) := by show _ ≤ _; rw [List.length_take, List.length_set]; omega
  have HE1 : Hid (decide (cs = ((cs.set J (bits .xor .u8 c b)).take cs.length)) = false) := by
    show _ = _
    rw [List.take_of_length_le (by rw [List.length_set]; omega)]
    exact decide_eq_false (fun h => HZ.out ((xor_same HCB.out HBY.out).1 (((set_same_iff cs J _ hJ).1 h).trans HCC.out.symm)))
  have HE2 : Hid (decide (((cs.set J (bits .xor .u8 c b)).take cs.length) = cs) = false) := by
    show _ = _
    rw [← HE1.out]
    exact decide_eq_decide.2 ⟨fun h => h.symm, fun h => h.symm⟩
  go_wp2_with fail
  refine (equal_any cs ((cs.set J (bits .xor .u8 c b)).take cs.length) _ _ HB.out HBB.out HLX.out _ (SlOld.mem HV.out hm) (old_part (hm.get 0 rfl) cs.length (by rw [List.length_set]; omega) (by omega))).mono ?_
  rintro e w7 ⟨he, hb⟩
  rw [HE1.out] at he
  subst he
  replace hm := hm.call hb
  clear hb
  go_wp2_with fail
  refine (equal_any ((cs.set J (bits .xor .u8 c b)).take cs.length) cs _ _ HBB.out HB.out HLB.out _ (old_part (hm.get 0 rfl) cs.length (by rw [List.length_set]; omega) (by omega)) (SlOld.mem HV.out hm)).mono ?_
  rintro e w8 ⟨he, hb⟩
  rw [HE2.out] at he
  subst he
  replace hm := hm.call hb
  clear hb
  go_wp2_with fail
  refine (equal_any cs ((cs.set J (bits .xor .u8 c b)).take cs.length) _ _ HB.out HBB.out HLX.out _ (SlOld.mem HV.out hm) (old_part (hm.get 0 rfl) cs.length (by rw [List.length_set]; omega) (by omega))).mono ?_
  rintro e w9 ⟨he, hb⟩
  rw [HE1.out] at he
  subst he
  replace hm := hm.call hb
  clear hb
  go_wp2_with fail
  go_ret
  exact ⟨rfl, hm.below⟩
set_option maxHeartbeats 1000000 in
set_option maxRecDepth 100000 in
theorem macEqual_walk (v : Value) (cs : List Int) (at_ b : Int) (cut : Bool) (ha : 0 ≤ at_ ∧ at_ ≤ 255) (hby : 0 ≤ b ∧ b ≤ 255) (hxl : cs.length ≤ 9223372036854775807) (w : World) (ht : Tab w) (hbc : Bytes cs) (hsl : SlOld w v cs) :
    Calls Tryd.prog 8 #[v, .int .u8 at_, .int .u8 b, .bool cut] w fun e w' => e = .returned (.bool true) ∧ Below w.heap.size w w' := by
  by_cases h0 : cs.length = 0
  · exact macEqual_none v cs at_ b cut ha hby hxl h0 w ht hbc hsl
  by_cases h100 : 100 < cs.length
  · exact macEqual_long v cs at_ b cut ha hby hxl h100 w ht hbc hsl
  by_cases hz : b = 0
  · cases hcut : cut with
    | true => exact macEqual_cutZ v cs at_ b true ha hby hxl (by omega) (by omega) rfl hz w ht hbc hsl
    | false => exact macEqual_wholeZ v cs at_ b false ha hby hxl (by omega) (by omega) rfl hz w ht hbc hsl
  · cases hcut : cut with
    | true => exact macEqual_cutN v cs at_ b true ha hby hxl (by omega) (by omega) rfl hz w ht hbc hsl
    | false => exact macEqual_wholeN v cs at_ b false ha hby hxl (by omega) (by omega) rfl hz w ht hbc hsl
end Go.Proofs.YtaalpmlmogfooaaDoor
