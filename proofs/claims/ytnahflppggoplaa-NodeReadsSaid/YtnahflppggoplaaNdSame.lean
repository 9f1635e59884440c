/- The statements' own function same. -/
import Derived.Test.YtnahflppggoplaaNdLawA
namespace Go.Proofs.Ytnahflppggoplaa
open Go Go.RowKit
set_option maxHeartbeats 1000000 in
set_option maxRecDepth 100000 in
theorem same_len1 (n m n2 m2 c1 c2 c3 c4 : Nat) (p1 p2 p3 p4 : Option Addr) (h : ¬ n = n2) (w : World) :
    Calls Try.prog 10 #[.slice p1 n c1, .slice p2 m c2, .slice p3 n2 c3, .slice p4 m2 c4] w fun e w' => e = .returned (.bool false) ∧ w' = w := by
  have hb : ((n : Int) != (n2 : Int)) = true := by simp; omega
  go_enter Try.func10, Try.ntmps10
  go_wp2
  go_ret
  exact ⟨rfl, rfl⟩
set_option maxHeartbeats 1000000 in
set_option maxRecDepth 100000 in
theorem same_len2 (n m m2 c1 c2 c3 c4 : Nat) (p1 p2 p3 p4 : Option Addr) (h : ¬ m = m2) (w : World) :
    Calls Try.prog 10 #[.slice p1 n c1, .slice p2 m c2, .slice p3 n c3, .slice p4 m2 c4] w fun e w' => e = .returned (.bool false) ∧ w' = w := by
  have hb : ((m : Int) != (m2 : Int)) = true := by simp; omega
  go_enter Try.func10, Try.ntmps10
  go_wp2
  go_ret
  exact ⟨rfl, rfl⟩
set_option maxRecDepth 100000 in
theorem exec_neU {a : Act} {w : World} {dst : Option Tmp} {typ : TypeId} {pos : String} {aft : Array Edge} {gd : Option (Nat × Bool)} {x y : Operand} (i j : Int) (b : Bool) (hb : Tells b (i = j)) (hx : a.eval x = .int .u32 i) (hy : a.eval y = .int .u32 j) :
    (execOp a.eval { dst := dst, op := .binOp .neq 43 x y 43, type := typ, pos := pos, after := aft, guard := gd }).run Try.prog w = .ok (.value (.bool (!b))) w := by
  have e : (i != j) = !b := by
    cases b with
    | true =>
      obtain rfl := hb.1 rfl
      simp
    | false =>
      have h : ¬ i = j := fun h9 => absurd (hb.2 h9) (by decide)
      simpa using h
  unfold execOp
  simp only [hx, hy]
  simp [eqGuard, binOp, go_sem, e]
set_option maxHeartbeats 3000000 in
set_option maxRecDepth 100000 in
theorem same_go (ka kb : List ByteArray) (xa xb : List Int) (n m c1 c2 c3 c4 : Nat) (p1 p2 p3 p4 : Option Addr) (h1 : ka.length = n) (h2 : xa.length = m) (h3 : kb.length = n) (h4 : xb.length = m) (hn : n ≤ 1000) (hm : m ≤ 1000) (w : World) (v1 : SlS w (.slice p1 n c1) ka) (v2 : SlU w (.slice p2 m c2) xa) (v3 : SlS w (.slice p3 n c3) kb) (v4 : SlU w (.slice p4 m c4) xb) :
    Calls Try.prog 10 #[.slice p1 n c1, .slice p2 m c2, .slice p3 n c3, .slice p4 m c4] w fun e w' => AnsIs e (ka = kb ∧ xa = xb) ∧ Below w.heap.size w w' := by
  have HV1 : Hid (SlS w (.slice p1 n c1) ka) := v1
  have HV2 : Hid (SlU w (.slice p2 m c2) xa) := v2
  have HV3 : Hid (SlS w (.slice p3 n c3) kb) := v3
  have HV4 : Hid (SlU w (.slice p4 m c4) xb) := v4
  have HN1 : Hid (ka.length = n) := h1
  have HN2 : Hid (xa.length = m) := h2
  have HN3 : Hid (kb.length = n) := h3
  have HN4 : Hid (xb.length = m) := h4
  clear v1 v2 v3 v4 h1 h2 h3 h4
  go_enter Try.func10, Try.ntmps10
  go_wp2_with fail
  go_loopw [9] (fun vi wr => ∃ k : Nat, k ≤ n ∧ vi = .int .i64 (k : Int) ∧ Hid (ka.take k = kb.take k) ∧ Hid (Below w.heap.size w wr)) (fun vi _ => n - (intOf vi).toNat)
  case atStart => exact ⟨0, by omega, rfl, rfl, Below.refl _ _⟩
  case round =>
    obtain ⟨k, hk, rfl, HT, HB⟩ := hrel
    by_cases hlt : k < n
    · have hki : (k : Int) < (n : Int) := by omega
      obtain ⟨b, off, hp⟩ := SlS.at HV1.out HN1.out (by omega)
      subst hp
      obtain ⟨b2, off2, hq⟩ := SlS.at HV3.out HN3.out (by omega)
      subst hq
      obtain ⟨k1, hk1⟩ : ∃ x, x = ka.getD k noStr := ⟨_, rfl⟩
      obtain ⟨k2, hk2⟩ : ∃ x, x = kb.getD k noStr := ⟨_, rfl⟩
      have HC1 : Hid (∀ W, Below wr.heap.size wr W → W.cell? ⟨b, off + k, none⟩ = some (.string k1)) := by
        intro W hW
        rw [hk1]
        exact SlS.cells HN1.out (SlV.below HV1.out (below_next HB.out HB.out.size hW)) k hlt
      have HC2 : Hid (∀ W, Below wr.heap.size wr W → W.cell? ⟨b2, off2 + k, none⟩ = some (.string k2)) := by
        intro W hW
        rw [hk2]
        exact SlS.cells HN3.out (SlV.below HV3.out (below_next HB.out HB.out.size hW)) k hlt
      have hm := Mem.start wr
      by_cases he : k1 = k2
      · have HNE : Hid (Tells true (k1 = k2)) := Tells.yes he
        have HT2 : Hid (ka.take (k + 1) = kb.take (k + 1)) := take_next_eq noStr HT.out (by rw [HN1.out]; exact hlt) (by rw [HN3.out]; exact hlt) (by rw [← hk1, ← hk2]; exact he)
        clear hk1 hk2 he
        go_wp2_with fail
        refine wp_ends0 ?_
        refine anyH_start (T := fun W => Mem wr [] W []) (by kernel_rfl) hm ?_
        clear hm
        intro wc hm
        refine anyH_take 0 (v := .slice (some ⟨b, off, none⟩) n c1) rfl (by kernel_rfl) (by kernel_rfl) (by kernel_rfl) rfl (fun W _ => by go_simp) hm ?_
        go_simp
        refine anyH_take 1 (v := .int .i64 (k : Int)) rfl (by kernel_rfl) (by kernel_rfl) (by kernel_rfl) rfl (fun W _ => by go_simp) hm ?_
        go_simp
        refine anyH_take 2 (v := .pointer (some ⟨b, off + k, none⟩)) rfl (by kernel_rfl) (by kernel_rfl) (by kernel_rfl) rfl (fun W _ => by go_simp) hm ?_
        go_simp
        refine anyH_take 3 (v := .string k1) rfl (by kernel_rfl) (by kernel_rfl) (by kernel_rfl) rfl (fun W hW => exec_ldx (.string k1) (HC1.out W (Mem.below hW)) rfl ag_str) hm ?_
        go_simp
        refine anyH_take 4 (v := .slice (some ⟨b2, off2, none⟩) n c3) rfl (by kernel_rfl) (by kernel_rfl) (by kernel_rfl) rfl (fun W _ => by go_simp) hm ?_
        go_simp
        refine anyH_take 5 (v := .int .i64 (k : Int)) rfl (by kernel_rfl) (by kernel_rfl) (by kernel_rfl) rfl (fun W _ => by go_simp) hm ?_
        go_simp
        refine anyH_take 6 (v := .pointer (some ⟨b2, off2 + k, none⟩)) rfl (by kernel_rfl) (by kernel_rfl) (by kernel_rfl) rfl (fun W _ => by go_simp) hm ?_
        go_simp
        refine anyH_take 7 (v := .string k2) rfl (by kernel_rfl) (by kernel_rfl) (by kernel_rfl) rfl (fun W hW => exec_ldx (.string k2) (HC2.out W (Mem.below hW)) rfl ag_str) hm ?_
        go_simp
        refine anyH_take 8 (v := .bool false) rfl (by kernel_rfl) (by kernel_rfl) (by kernel_rfl) rfl (fun W _ => exec_neS k1 k2 true HNE.out rfl rfl) hm ?_
        go_simp
        refine wpAnyH_done (by kernel_rfl) ?_ _
        simp only [endsIn]
        have HB2 : Hid (Below w.heap.size w wc) := below_next HB.out HB.out.size hm.below
        go_wp2_with fail
        go_roundw
        case rel => exact ⟨k + 1, by omega, by go_num, HT2.out, HB2.out⟩
        case measure => simp [intOf]; omega
      · have HNE : Hid (Tells false (k1 = k2)) := Tells.no he
        have HLM : Hid (∀ _ : Unit, ¬ (ka = kb ∧ xa = xb)) := fun _ h => he (by first | rw [hk1, hk2, h.1] | rw [hk1, hk2, h.2])
        clear hk1 hk2 he
        go_wp2_with fail
        refine wp_ends0 ?_
        refine anyH_start (T := fun W => Mem wr [] W []) (by kernel_rfl) hm ?_
        clear hm
        intro wc hm
        refine anyH_take 0 (v := .slice (some ⟨b, off, none⟩) n c1) rfl (by kernel_rfl) (by kernel_rfl) (by kernel_rfl) rfl (fun W _ => by go_simp) hm ?_
        go_simp
        refine anyH_take 1 (v := .int .i64 (k : Int)) rfl (by kernel_rfl) (by kernel_rfl) (by kernel_rfl) rfl (fun W _ => by go_simp) hm ?_
        go_simp
        refine anyH_take 2 (v := .pointer (some ⟨b, off + k, none⟩)) rfl (by kernel_rfl) (by kernel_rfl) (by kernel_rfl) rfl (fun W _ => by go_simp) hm ?_
        go_simp
        refine anyH_take 3 (v := .string k1) rfl (by kernel_rfl) (by kernel_rfl) (by kernel_rfl) rfl (fun W hW => exec_ldx (.string k1) (HC1.out W (Mem.below hW)) rfl ag_str) hm ?_
        go_simp
        refine anyH_take 4 (v := .slice (some ⟨b2, off2, none⟩) n c3) rfl (by kernel_rfl) (by kernel_rfl) (by kernel_rfl) rfl (fun W _ => by go_simp) hm ?_
        go_simp
        refine anyH_take 5 (v := .int .i64 (k : Int)) rfl (by kernel_rfl) (by kernel_rfl) (by kernel_rfl) rfl (fun W _ => by go_simp) hm ?_
        go_simp
        refine anyH_take 6 (v := .pointer (some ⟨b2, off2 + k, none⟩)) rfl (by kernel_rfl) (by kernel_rfl) (by kernel_rfl) rfl (fun W _ => by go_simp) hm ?_
        go_simp
        refine anyH_take 7 (v := .string k2) rfl (by kernel_rfl) (by kernel_rfl) (by kernel_rfl) rfl (fun W hW => exec_ldx (.string k2) (HC2.out W (Mem.below hW)) rfl ag_str) hm ?_
        go_simp
        refine anyH_take 8 (v := .bool true) rfl (by kernel_rfl) (by kernel_rfl) (by kernel_rfl) rfl (fun W _ => exec_neS k1 k2 false HNE.out rfl rfl) hm ?_
        go_simp
        refine wpAnyH_done (by kernel_rfl) ?_ _
        simp only [endsIn]
        have HB2 : Hid (Below w.heap.size w wc) := below_next HB.out HB.out.size hm.below
        go_wp2_with fail
        go_ret
        exact ⟨AnsIs.no rfl (HLM.out ()), HB2.out⟩
    · have hkn : n = k := by omega
      subst hkn
      have hni : ¬ (n : Int) < (n : Int) := by omega
      have HEQn : Hid (∀ _ : Unit, ka = kb) := fun _ => by
        have h9 := HT.out
        rw [List.take_of_length_le (by rw [HN1.out]; exact Nat.le_refl _), List.take_of_length_le (by rw [HN3.out]; exact Nat.le_refl _)] at h9
        exact h9
      go_wp2_with fail
      go_loopw [10] (fun vi wr => ∃ k : Nat, k ≤ m ∧ vi = .int .i64 (k : Int) ∧ Hid (xa.take k = xb.take k) ∧ Hid (Below w.heap.size w wr)) (fun vi _ => m - (intOf vi).toNat)
      case atStart => exact ⟨0, by omega, rfl, rfl, HB.out⟩
      case round =>
        clear HB HT
        obtain ⟨k, hk, rfl, HT, HB⟩ := hrel
        by_cases hlt : k < m
        · have hki : (k : Int) < (m : Int) := by omega
          obtain ⟨b, off, hp⟩ := SlU.at HV2.out HN2.out (by omega)
          subst hp
          obtain ⟨b2, off2, hq⟩ := SlU.at HV4.out HN4.out (by omega)
          subst hq
          obtain ⟨k1, hk1⟩ : ∃ x, x = xa.getD k 0 := ⟨_, rfl⟩
          obtain ⟨k2, hk2⟩ : ∃ x, x = xb.getD k 0 := ⟨_, rfl⟩
          have HC1 : Hid (∀ W, Below wr.heap.size wr W → W.cell? ⟨b, off + k, none⟩ = some (.int .u32 k1)) := by
            intro W hW
            rw [hk1]
            exact SlU.cells HN2.out (SlV.below HV2.out (below_next HB.out HB.out.size hW)) k hlt
          have HC2 : Hid (∀ W, Below wr.heap.size wr W → W.cell? ⟨b2, off2 + k, none⟩ = some (.int .u32 k2)) := by
            intro W hW
            rw [hk2]
            exact SlU.cells HN4.out (SlV.below HV4.out (below_next HB.out HB.out.size hW)) k hlt
          have hm := Mem.start wr
          by_cases he : k1 = k2
          · have HNE : Hid (Tells true (k1 = k2)) := Tells.yes he
            have HT2 : Hid (xa.take (k + 1) = xb.take (k + 1)) := take_next_eq 0 HT.out (by rw [HN2.out]; exact hlt) (by rw [HN4.out]; exact hlt) (by rw [← hk1, ← hk2]; exact he)
            clear hk1 hk2 he
            go_wp2_with fail
            refine wp_ends0 ?_
            refine anyH_start (T := fun W => Mem wr [] W []) (by kernel_rfl) hm ?_
            clear hm
            intro wc hm
            refine anyH_take 0 (v := .slice (some ⟨b, off, none⟩) m c2) rfl (by kernel_rfl) (by kernel_rfl) (by kernel_rfl) rfl (fun W _ => by go_simp) hm ?_
            go_simp
            refine anyH_take 1 (v := .int .i64 (k : Int)) rfl (by kernel_rfl) (by kernel_rfl) (by kernel_rfl) rfl (fun W _ => by go_simp) hm ?_
            go_simp
            refine anyH_take 2 (v := .pointer (some ⟨b, off + k, none⟩)) rfl (by kernel_rfl) (by kernel_rfl) (by kernel_rfl) rfl (fun W _ => by go_simp) hm ?_
            go_simp
            refine anyH_take 3 (v := .int .u32 k1) rfl (by kernel_rfl) (by kernel_rfl) (by kernel_rfl) rfl (fun W hW => exec_ldx (.int .u32 k1) (HC1.out W (Mem.below hW)) rfl ag_u32) hm ?_
            go_simp
            refine anyH_take 4 (v := .slice (some ⟨b2, off2, none⟩) m c4) rfl (by kernel_rfl) (by kernel_rfl) (by kernel_rfl) rfl (fun W _ => by go_simp) hm ?_
            go_simp
            refine anyH_take 5 (v := .int .i64 (k : Int)) rfl (by kernel_rfl) (by kernel_rfl) (by kernel_rfl) rfl (fun W _ => by go_simp) hm ?_
            go_simp
            refine anyH_take 6 (v := .pointer (some ⟨b2, off2 + k, none⟩)) rfl (by kernel_rfl) (by kernel_rfl) (by kernel_rfl) rfl (fun W _ => by go_simp) hm ?_
            go_simp
            refine anyH_take 7 (v := .int .u32 k2) rfl (by kernel_rfl) (by kernel_rfl) (by kernel_rfl) rfl (fun W hW => exec_ldx (.int .u32 k2) (HC2.out W (Mem.below hW)) rfl ag_u32) hm ?_
            go_simp
            refine anyH_take 8 (v := .bool false) rfl (by kernel_rfl) (by kernel_rfl) (by kernel_rfl) rfl (fun W _ => exec_neU k1 k2 true HNE.out rfl rfl) hm ?_
            go_simp
            refine wpAnyH_done (by kernel_rfl) ?_ _
            simp only [endsIn]
            have HB2 : Hid (Below w.heap.size w wc) := below_next HB.out HB.out.size hm.below
            go_wp2_with fail
            go_roundw
            case rel => exact ⟨k + 1, by omega, by go_num, HT2.out, HB2.out⟩
            case measure => simp [intOf]; omega
          · have HNE : Hid (Tells false (k1 = k2)) := Tells.no he
            have HLM : Hid (∀ _ : Unit, ¬ (ka = kb ∧ xa = xb)) := fun _ h => he (by first | rw [hk1, hk2, h.1] | rw [hk1, hk2, h.2])
            clear hk1 hk2 he
            go_wp2_with fail
            refine wp_ends0 ?_
            refine anyH_start (T := fun W => Mem wr [] W []) (by kernel_rfl) hm ?_
            clear hm
            intro wc hm
            refine anyH_take 0 (v := .slice (some ⟨b, off, none⟩) m c2) rfl (by kernel_rfl) (by kernel_rfl) (by kernel_rfl) rfl (fun W _ => by go_simp) hm ?_
            go_simp
            refine anyH_take 1 (v := .int .i64 (k : Int)) rfl (by kernel_rfl) (by kernel_rfl) (by kernel_rfl) rfl (fun W _ => by go_simp) hm ?_
            go_simp
            refine anyH_take 2 (v := .pointer (some ⟨b, off + k, none⟩)) rfl (by kernel_rfl) (by kernel_rfl) (by kernel_rfl) rfl (fun W _ => by go_simp) hm ?_
            go_simp
            refine anyH_take 3 (v := .int .u32 k1) rfl (by kernel_rfl) (by kernel_rfl) (by kernel_rfl) rfl (fun W hW => exec_ldx (.int .u32 k1) (HC1.out W (Mem.below hW)) rfl ag_u32) hm ?_
            go_simp
            refine anyH_take 4 (v := .slice (some ⟨b2, off2, none⟩) m c4) rfl (by kernel_rfl) (by kernel_rfl) (by kernel_rfl) rfl (fun W _ => by go_simp) hm ?_
            go_simp
            refine anyH_take 5 (v := .int .i64 (k : Int)) rfl (by kernel_rfl) (by kernel_rfl) (by kernel_rfl) rfl (fun W _ => by go_simp) hm ?_
            go_simp
            refine anyH_take 6 (v := .pointer (some ⟨b2, off2 + k, none⟩)) rfl (by kernel_rfl) (by kernel_rfl) (by kernel_rfl) rfl (fun W _ => by go_simp) hm ?_
            go_simp
            refine anyH_take 7 (v := .int .u32 k2) rfl (by kernel_rfl) (by kernel_rfl) (by kernel_rfl) rfl (fun W hW => exec_ldx (.int .u32 k2) (HC2.out W (Mem.below hW)) rfl ag_u32) hm ?_
            go_simp
            refine anyH_take 8 (v := .bool true) rfl (by kernel_rfl) (by kernel_rfl) (by kernel_rfl) rfl (fun W _ => exec_neU k1 k2 false HNE.out rfl rfl) hm ?_
            go_simp
            refine wpAnyH_done (by kernel_rfl) ?_ _
            simp only [endsIn]
            have HB2 : Hid (Below w.heap.size w wc) := below_next HB.out HB.out.size hm.below
            go_wp2_with fail
            go_ret
            exact ⟨AnsIs.no rfl (HLM.out ()), HB2.out⟩
        · have hkn : m = k := by omega
          subst hkn
          have hni : ¬ (m : Int) < (m : Int) := by omega
          have HEQm : Hid (∀ _ : Unit, xa = xb) := fun _ => by
            have h9 := HT.out
            rw [List.take_of_length_le (by rw [HN2.out]; exact Nat.le_refl _), List.take_of_length_le (by rw [HN4.out]; exact Nat.le_refl _)] at h9
            exact h9
          go_wp2_with fail
          go_ret
          exact ⟨AnsIs.yes rfl ⟨HEQn.out (), HEQm.out ()⟩, HB.out⟩
set_option maxRecDepth 100000 in
theorem same_any (ka kb : List ByteArray) (xa xb : List Int) (u1 u2 u3 u4 : Value) (hn : ka.length ≤ 1000) (hm : xa.length ≤ 1000) (w : World) (v1 : SlS w u1 ka) (v2 : SlU w u2 xa) (v3 : SlS w u3 kb) (v4 : SlU w u4 xb) :
    Calls Try.prog 10 #[u1, u2, u3, u4] w fun e w' => AnsIs e (ka = kb ∧ xa = xb) ∧ Below w.heap.size w w' := by
  obtain ⟨p1, c1, rfl, _⟩ := SlV.len v1
  obtain ⟨p2, c2, rfl, _⟩ := SlV.len v2
  obtain ⟨p3, c3, rfl, _⟩ := SlV.len v3
  obtain ⟨p4, c4, rfl, _⟩ := SlV.len v4
  by_cases h : ka.length = kb.length
  · by_cases h2 : xa.length = xb.length
    · have v5 := v3
      have v6 := v4
      rw [← h] at v5 ⊢
      rw [← h2] at v6 ⊢
      exact same_go ka kb xa xb ka.length xa.length c1 c2 c3 c4 p1 p2 p3 p4 rfl rfl h.symm h2.symm hn hm w v1 v2 v5 v6
    · rw [← h]
      refine (same_len2 ka.length xa.length xb.length c1 c2 c3 c4 p1 p2 p3 p4 h2 w).mono fun e w' ⟨he, hw⟩ => ⟨AnsIs.no he (fun h9 => h2 (by rw [h9.2])), by rw [hw]; exact Below.refl _ _⟩
  · refine (same_len1 ka.length xa.length kb.length xb.length c1 c2 c3 c4 p1 p2 p3 p4 h w).mono fun e w' ⟨he, hw⟩ => ⟨AnsIs.no he (fun h9 => h (by rw [h9.1])), by rw [hw]; exact Below.refl _ _⟩
end Go.Proofs.Ytnahflppggoplaa
