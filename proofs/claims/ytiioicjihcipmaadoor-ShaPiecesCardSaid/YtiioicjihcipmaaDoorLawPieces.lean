/- The walk of the law ShaPieces. -/
import Derived.Test.YtiioicjihcipmaaDoorCopyF
import Derived.Lib.SlBytesConst
namespace Go.Proofs.YtiioicjihcipmaaDoor
open Go Go.RowKit

theorem ty_hash (g : Nat) (l : List Value) : ∀ r ∈ [(g, l, 49)], r.2.2 ≠ 5 := by
  intro r hr
  have : r = (g, l, 49) := by simpa using hr
  rw [this]
  show (49 : Nat) ≠ 5
  decide
theorem ty_hash2 (g g' : Nat) (l l' : List Value) : ∀ r ∈ [(g, l, 49), (g', l', 49)], r.2.2 ≠ 5 := by
  intro r hr
  have : r = (g, l, 49) ∨ r = (g', l', 49) := by simpa using hr
  rcases this with h | h <;> rw [h] <;> show (49 : Nat) ≠ 5 <;> decide
theorem bytes_more : Bytes [109, 111, 114, 101] := by
  intro x hx
  simp only [List.mem_cons, List.not_mem_nil, or_false] at hx
  omega
theorem un_strT : Tryd.prog.underlying 9 = some .string := Tryd.underlying9
theorem SlOld.src {w : World} {p : Option Addr} {c : Nat} {cs : List Int} (h : SlOld w (.slice p cs.length c) cs) : 0 < cs.length → ∃ b off, p = some ⟨b, off, none⟩ ∧ Seg w b off cs := by
  obtain ⟨q, d, hv, _, hs⟩ := h
  simp only [Value.slice.injEq] at hv
  obtain ⟨rfl, _, _⟩ := hv
  exact hs
set_option maxHeartbeats 4000000 in
set_option maxRecDepth 100000 in
theorem shaPieces_walk (p0 p1 : Option Addr) (len0 cap0 len1 cap1 b0 o0 b1 o1 : Nat) (Pt : Nat → Option Addr) (Cp : Nat → Nat) (cs : Nat → List Int) (B : Nat → Bool) (w : World) (ht : Tab w)
    (hp0 : 0 < len0 → p0 = some ⟨b0, o0, none⟩) (hp1 : 0 < len1 → p1 = some ⟨b1, o1, none⟩)
    (hc0 : ∀ i, i < len0 → w.cell? ⟨b0, o0 + i, none⟩ = some (.slice (Pt i) (cs i).length (Cp i)) ∧ SlOld w (.slice (Pt i) (cs i).length (Cp i)) (cs i) ∧ Bytes (cs i))
    (hc1 : ∀ i, i < len1 → w.cell? ⟨b1, o1 + i, none⟩ = some (.bool (B i))) :
    Calls Tryd.prog 4 #[.slice p0 len0 cap0, .slice p1 len1 cap1] w fun e w' => e = .returned (.bool true) ∧ Below w.heap.size w w' := by
  have hm := Mem.start w
  have HT : Hid _ := ht
  have HP0 : Hid _ := hp0
  have HP1 : Hid _ := hp1
  have HC0 : Hid _ := hc0
  have HC1 : Hid _ := hc1
  clear ht hp0 hp1 hc0 hc1
  by_cases h12 : 12 < len0
  · have h12i : (12 : Int) < (len0 : Int) := by omega
    go_enter Tryd.func4, Tryd.ntmps4
    go_wp2_with (first
      | (go_at_call 8; refine (known_any _ (Tab.mem HT.out hm (by simp))).mono ?_; rintro e w3 ⟨rfl, hb⟩; replace hm := hm.call hb; clear hb))

    go_ret
    exact ⟨rfl, hm.below⟩
  by_cases hll : len1 < len0
  · have h12i : ¬ (12 : Int) < (len0 : Int) := by omega
    have hlli : (len1 : Int) < (len0 : Int) := by omega
    go_enter Tryd.func4, Tryd.ntmps4
    go_wp2_with (first
      | (go_at_call 8; refine (known_any _ (Tab.mem HT.out hm (by simp))).mono ?_; rintro e w3 ⟨rfl, hb⟩; replace hm := hm.call hb; clear hb))

    go_ret
    exact ⟨rfl, hm.below⟩
  have h12i : ¬ (12 : Int) < (len0 : Int) := by omega
  have hlli : ¬ (len1 : Int) < (len0 : Int) := by omega
  have kc := fun (w : World) (C : Array Value) (n c : Nat) => Lib.run_convert_bytes_const (P := Tryd.prog) w 22 5 C n c Tryd.underlying22 Tryd.underlying5
  have KC : Hid _ := kc
  clear kc
  go_enter Tryd.func4, Tryd.ntmps4
  go_wp2_with (first
    | (go_at_call 8; refine (known_any _ (Tab.mem HT.out hm (by simp))).mono ?_; rintro e w3 ⟨rfl, hb⟩; replace hm := hm.call hb; clear hb)
    | (go_at_call 11; refine (new_any _).mono ?_; rintro e w4 ⟨g, rfl, hge, hr, hb⟩; rw [new_row] at hr; have HGT : Hid _ := Nat.ne_of_lt (Nat.lt_of_lt_of_le (Tab.lt (Tab.mem HT.out hm (by simp))) hge); replace hm := hm.callNew hb hr hge; clear hb hr hge))

  have hgw : w.heap.size ≤ g := by simpa using hm.fresh _ (List.mem_cons_self ..)
  have HGW : Hid _ := hgw
  clear hgw
  rw [show decide ((12 : Int) < (len0 : Int)) = false from decide_eq_false (by omega)]
  go_loopw [6, 7] (fun va vi wr => ∃ (k : Nat) (msg : List Int), k ≤ len0 ∧ vi = .int .i64 k ∧ Hid (Bytes msg) ∧ msg.length ≤ 150 * k ∧ OwnB 5 wr w.heap.size va msg ∧ Mem w [] wr [(g, hrow (wsOf msg) (restOf msg) (msg.length : Int), 49)]) (fun _ vi _ => len0 - (intOf vi).toNat)
  case atStart => exact ⟨0, [], by omega, rfl, bytes_none, by simp, OwnB.nil _ _ _, hm⟩
  case round =>
    clear hm
    obtain ⟨k, msg, hk, rfl, HBM, hml, hown, hm⟩ := hrel
    by_cases hlt : k < len0
    · obtain ⟨hck, hsk, hbk⟩ := HC0.out k hlt
      obtain rfl := HP0.out (by omega)
      obtain rfl := HP1.out (by omega)
      have hcb := HC1.out k (by omega)
      have hki : (k : Int) < (len0 : Int) := by omega
      have hki1 : (k : Int) < (len1 : Int) := by omega
      have HB0 : Hid (b0 < w.heap.size) := block_lt_of_cell hck
      have HB1 : Hid (b1 < w.heap.size) := block_lt_of_cell hcb
      have HCK : Hid _ := hck
      have HSK : Hid (SlOld w (.slice (Pt k) (cs k).length (Cp k)) (cs k)) := hsk
      have HBK : Hid _ := hbk
      have HCB : Hid _ := hcb
      clear hck hsk hbk hcb
      by_cases h150 : 150 < (cs k).length
      · have h150i : (150 : Int) < ((cs k).length : Int) := by omega
        go_wp2_with (first
          | ((with_reducible refine at_op (some 31) (.load 22 (.tmp 30)) ?_); refine wpl_ldx (.slice (Pt k) (cs k).length (Cp k)) ((hm.old (p := ⟨b0, o0 + k, none⟩) HB0.out (by simp)).trans HCK.out) rfl ag_bs ?_)
          | ((with_reducible refine at_op (some 38) (.load 22 (.tmp 37)) ?_); refine wpl_ldx (.slice (Pt k) (cs k).length (Cp k)) ((hm.old (p := ⟨b0, o0 + k, none⟩) HB0.out (by simp)).trans HCK.out) rfl ag_bs ?_)
          | ((with_reducible refine at_op (some 44) (.load 22 (.tmp 43)) ?_); refine wpl_ldx (.slice (Pt k) (cs k).length (Cp k)) ((hm.old (p := ⟨b0, o0 + k, none⟩) HB0.out (by simp)).trans HCK.out) rfl ag_bs ?_)
          | (go_at_call 12; refine (write_any g msg (cs k) _ HBM.out HBK.out (by omega) _ (Tab.mem HT.out hm (by simp)) HGT.out (hm.get 0 rfl) (SlOld.sl HSK.out hm.below HGW.out)).mono ?_; rintro e w5 ⟨rfl, hr, hu⟩; replace hown := hown.upd (hm.get 0 rfl) (by decide) hu; replace hm := hm.upd 0 rfl hu hr; clear hr hu)
          | ((with_reducible refine at_op (some 45) (.call { callee := .builtin .append, args := #[.tmp 40, .tmp 44], argTypes := #[22, 22] }) ?_); refine wpl_app rfl un_bs made_u8 (cs k) hm hown (ty_hash _ _) rfl rfl rfl (SlOld.src (SlOld.mem HSK.out hm)) (by omega) ?_; clear hm hown; intro va2 w6 hown hm)
          | ((with_reducible refine at_op (some 49) (.load 4 (.tmp 48)) ?_); refine wpl_ldx (.bool (B k)) ((hm.old (p := ⟨b1, o1 + k, none⟩) HB1.out (by simp)).trans HCB.out) rfl ag_bool ?_))

        go_ret
        exact ⟨rfl, hm.below⟩
      · have h150i : ¬ (150 : Int) < ((cs k).length : Int) := by omega
        have HBN : Hid _ := Bytes.append HBM.out HBK.out
        have hnl : (msg ++ cs k).length ≤ 1099511627776 := by simp; omega
        have hn2 : (msg ++ cs k).length ≤ 150 * (k + 1) := by simp; omega
        have HNL : Hid _ := hnl
        have HN2 : Hid _ := hn2
        clear hnl hn2
        cases hB : B k with
        | true =>
          have heq := eq_self32 (shaOf (msg ++ cs k)) (shaOf_length _)
          go_wp2_with (first
            | ((with_reducible refine at_op (some 31) (.load 22 (.tmp 30)) ?_); refine wpl_ldx (.slice (Pt k) (cs k).length (Cp k)) ((hm.old (p := ⟨b0, o0 + k, none⟩) HB0.out (by simp)).trans HCK.out) rfl ag_bs ?_)
            | ((with_reducible refine at_op (some 38) (.load 22 (.tmp 37)) ?_); refine wpl_ldx (.slice (Pt k) (cs k).length (Cp k)) ((hm.old (p := ⟨b0, o0 + k, none⟩) HB0.out (by simp)).trans HCK.out) rfl ag_bs ?_)
            | ((with_reducible refine at_op (some 44) (.load 22 (.tmp 43)) ?_); refine wpl_ldx (.slice (Pt k) (cs k).length (Cp k)) ((hm.old (p := ⟨b0, o0 + k, none⟩) HB0.out (by simp)).trans HCK.out) rfl ag_bs ?_)
            | (go_at_call 12; refine (write_any g msg (cs k) _ HBM.out HBK.out (by omega) _ (Tab.mem HT.out hm (by simp)) HGT.out (hm.get 0 rfl) (SlOld.sl HSK.out hm.below HGW.out)).mono ?_; rintro e w5 ⟨rfl, hr, hu⟩; replace hown := hown.upd (hm.get 0 rfl) (by decide) hu; replace hm := hm.upd 0 rfl hu hr; clear hr hu)
            | ((with_reducible refine at_op (some 45) (.call { callee := .builtin .append, args := #[.tmp 40, .tmp 44], argTypes := #[22, 22] }) ?_); refine wpl_app rfl un_bs made_u8 (cs k) hm hown (ty_hash _ _) rfl rfl rfl (SlOld.src (SlOld.mem HSK.out hm)) (by omega) ?_; clear hm hown; intro va2 w6 hown hm)
            | ((with_reducible refine at_op (some 49) (.load 4 (.tmp 48)) ?_); refine wpl_ldx (.bool (B k)) ((hm.old (p := ⟨b1, o1 + k, none⟩) HB1.out (by simp)).trans HCB.out) rfl ag_bool ?_)
            | (go_at_call 13; refine (hashSum_any g (msg ++ cs k) HBN.out HNL.out _ (Tab.mem HT.out hm (by simp)) (hm.get 0 rfl)).mono ?_; rintro e w7 ⟨rfl, hb⟩; replace hown := hown.below hb; replace hm := hm.call hb; clear hb)
            | (go_at_call 9; refine (sum_any (msg ++ cs k) _ HBN.out HNL.out _ (Tab.mem HT.out hm (by simp)) hown.old).mono ?_; rintro e w8 ⟨rfl, hb⟩; replace hown := hown.below hb; replace hm := hm.call hb; clear hb))

          go_roundw
          case rel => exact ⟨k + 1, msg ++ cs k, by omega, by go_num, HBN.out, HN2.out, hown, hm⟩
          case measure => simp [intOf]; omega
        | false =>
          go_wp2_with (first
            | ((with_reducible refine at_op (some 31) (.load 22 (.tmp 30)) ?_); refine wpl_ldx (.slice (Pt k) (cs k).length (Cp k)) ((hm.old (p := ⟨b0, o0 + k, none⟩) HB0.out (by simp)).trans HCK.out) rfl ag_bs ?_)
            | ((with_reducible refine at_op (some 38) (.load 22 (.tmp 37)) ?_); refine wpl_ldx (.slice (Pt k) (cs k).length (Cp k)) ((hm.old (p := ⟨b0, o0 + k, none⟩) HB0.out (by simp)).trans HCK.out) rfl ag_bs ?_)
            | ((with_reducible refine at_op (some 44) (.load 22 (.tmp 43)) ?_); refine wpl_ldx (.slice (Pt k) (cs k).length (Cp k)) ((hm.old (p := ⟨b0, o0 + k, none⟩) HB0.out (by simp)).trans HCK.out) rfl ag_bs ?_)
            | (go_at_call 12; refine (write_any g msg (cs k) _ HBM.out HBK.out (by omega) _ (Tab.mem HT.out hm (by simp)) HGT.out (hm.get 0 rfl) (SlOld.sl HSK.out hm.below HGW.out)).mono ?_; rintro e w5 ⟨rfl, hr, hu⟩; replace hown := hown.upd (hm.get 0 rfl) (by decide) hu; replace hm := hm.upd 0 rfl hu hr; clear hr hu)
            | ((with_reducible refine at_op (some 45) (.call { callee := .builtin .append, args := #[.tmp 40, .tmp 44], argTypes := #[22, 22] }) ?_); refine wpl_app rfl un_bs made_u8 (cs k) hm hown (ty_hash _ _) rfl rfl rfl (SlOld.src (SlOld.mem HSK.out hm)) (by omega) ?_; clear hm hown; intro va2 w6 hown hm)
            | ((with_reducible refine at_op (some 49) (.load 4 (.tmp 48)) ?_); refine wpl_ldx (.bool (B k)) ((hm.old (p := ⟨b1, o1 + k, none⟩) HB1.out (by simp)).trans HCB.out) rfl ag_bool ?_))

          go_roundw
          case rel => exact ⟨k + 1, msg ++ cs k, by omega, by go_num, HBN.out, HN2.out, hown, hm⟩
          case measure => simp [intOf]; omega
    · have hke : ¬ (k : Int) < (len0 : Int) := by omega
      have hl18 : msg.length ≤ 1800 := by omega
      obtain ⟨pa, ca, rfl, hca, hsa⟩ := hown.old
      clear hsa
      have heq := eq_self32 (shaOf msg) (shaOf_length _)
      have heq2 := eq_self32 (shaOf (msg ++ [109, 111, 114, 101])) (shaOf_length _)
      have HB4 : Hid _ := Bytes.append HBM.out bytes_more
      have kc := KC.out
      go_wp2_with fail
      refine (copy_any g (wsOf msg) (restOf msg) _ (wsOf_length _) (restOf_length _) _ (hm.get 0 rfl)).mono ?_
      rintro e w5 ⟨gc, rfl, hge, hr, hb⟩
      have HGC : Hid _ := Nat.ne_of_lt (Nat.lt_of_lt_of_le (Tab.lt (Tab.mem HT.out hm (by simp))) hge)
      replace hown := hown.below hb
      replace hm := hm.callNew hb hr hge
      clear hb hr hge
      go_wp2_with fail
      refine (write_any gc msg [109, 111, 114, 101] _ HBM.out bytes_more (by simp; omega) _ (Tab.mem HT.out (hm.allocO _) (by simp)) HGC.out ((hm.allocO _).get 0 rfl) (slNew w5 [109, 111, 114, 101] 5 (4, 5) gc (hm.get 0 rfl).lt)).mono ?_
      rintro e w6 ⟨rfl, hr, hu⟩
      replace hown := (hown.alloc _).upd ((hm.allocO _).get 0 rfl) (by decide) hu
      replace hm : Mem w [] w6 [(gc, hrow (wsOf (msg ++ [109, 111, 114, 101])) (restOf (msg ++ [109, 111, 114, 101])) ((msg ++ [109, 111, 114, 101]).length : Int), 49), (g, hrow (wsOf msg) (restOf msg) (msg.length : Int), 49)] := (hm.allocO _).upd 0 rfl hu hr
      clear hr hu
      go_wp2_with fail
      refine (hashSum_any g msg HBM.out (by omega) _ (Tab.mem HT.out hm (by simp)) (hm.get 1 rfl)).mono ?_
      rintro e w7 ⟨rfl, hb⟩
      replace hown := hown.below hb
      replace hm := hm.call hb
      clear hb
      go_wp2_with fail
      refine (sum_any msg _ HBM.out (by omega) _ (Tab.mem HT.out hm (by simp)) hown.old).mono ?_
      rintro e w8 ⟨rfl, hb⟩
      replace hown := hown.below hb
      replace hm := hm.call hb
      clear hb
      go_wp2_with fail
      refine (hashSum_any g msg HBM.out (by omega) _ (Tab.mem HT.out hm (by simp)) (hm.get 1 rfl)).mono ?_
      rintro e w9 ⟨rfl, hb⟩
      replace hown := hown.below hb
      replace hm := hm.call hb
      clear hb
      go_wp2_with fail
      refine (hashSum_any g msg HBM.out (by omega) _ (Tab.mem HT.out hm (by simp)) (hm.get 1 rfl)).mono ?_
      rintro e w10 ⟨rfl, hb⟩
      replace hown := hown.below hb
      replace hm := hm.call hb
      clear hb
      go_wp2_with fail
      refine (len_any g (wsOf msg) (restOf msg) _ (wsOf_length _) (restOf_length _) _ (hm.get 1 rfl)).mono ?_
      rintro e w11 ⟨rfl, rfl⟩
      go_wp2_with fail
      refine (hashSum_any gc (msg ++ [109, 111, 114, 101]) HB4.out (by simp; omega) _ (Tab.mem HT.out hm (by simp)) (hm.get 0 rfl)).mono ?_
      rintro e w12 ⟨rfl, hb⟩
      replace hown := hown.below hb
      replace hm := hm.call hb
      clear hb
      go_wp2_with (first
        | ((with_reducible refine at_opG (some 86) (.call { callee := .builtin .append, args := #[.const (.slice none 0 0), .tmp 85], argTypes := #[22, 22] }) (some (19, true)) ?_); refine wpl_app rfl un_bs made_u8 msg hm (OwnB.nil _ _ _) (ty_hash2 _ _ _ _) rfl rfl rfl (SlOld.src hown.old) (by simp; omega) ?_; clear hm hown; intro vb w13 hown hm; replace hown : OwnB 5 w13 w.heap.size vb msg := hown)
        | ((with_reducible refine at_opG (some 87) (.call { callee := .builtin .append, args := #[.tmp 86, .const (.string { data := #[109, 111, 114, 101] })], argTypes := #[22, 9] }) (some (19, true)) ?_); refine wpl_appS rfl un_bs un_strT made_u8 [109, 111, 114, 101] { data := #[109, 111, 114, 101] } hm hown (ty_hash2 _ _ _ _) rfl rfl rfl (by simp; omega) ?_; clear hm hown; intro vc w14 hown hm))
      refine (sum_any (msg ++ [109, 111, 114, 101]) _ HB4.out (by simp; omega) _ (Tab.mem HT.out hm (by simp)) hown.old).mono ?_
      rintro e w15 ⟨rfl, hb⟩
      replace hm := hm.call hb
      clear hb hown
      go_wp2_with fail
      refine (len_any gc (wsOf (msg ++ [109, 111, 114, 101])) (restOf (msg ++ [109, 111, 114, 101])) _ (wsOf_length _) (restOf_length _) _ (hm.get 0 rfl)).mono ?_
      rintro e w16 ⟨rfl, rfl⟩
      have hlen4 : (((msg ++ ([109, 111, 114, 101] : List Int)).length : Nat) : Int) = (msg.length : Int) + 4 := by simp
      rw [hlen4]
      go_wp2_with fail
      go_ret
      exact ⟨rfl, hm.below⟩
end Go.Proofs.YtiioicjihcipmaaDoor
