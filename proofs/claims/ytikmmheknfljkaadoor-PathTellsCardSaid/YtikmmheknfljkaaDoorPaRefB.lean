/- The document's parts of a text, paths, segments. -/
import Derived.Test.YtikmmheknfljkaaDoorPaRefA
namespace Go.Proofs.YtikmmheknfljkaaDoor
open Go Go.RowKit
set_option maxRecDepth 100000 in
theorem drop_at {l : List UInt8} {f k : Nat} {c : UInt8} (hf : f ≤ k) (hk : l[k]? = some c) : l.drop f = (l.drop f).take (k - f) ++ c :: l.drop (k + 1) := by
  have hlt : k < l.length := (List.getElem?_eq_some_iff.1 hk).1
  have h1 : l.drop k = c :: l.drop (k + 1) := by
    rw [List.drop_eq_getElem_cons hlt]
    congr 1
    exact (List.getElem?_eq_some_iff.1 hk).2
  rw [← h1]
  conv => lhs; rw [← List.take_append_drop (k - f) (l.drop f)]
  rw [List.drop_drop, show f + (k - f) = k by omega]
set_option maxRecDepth 100000 in
theorem cut_step {l : List UInt8} {f k : Nat} {c : UInt8} (hf : f ≤ k) (hk : l[k]? = some c) (hn : c ∉ (l.drop f).take (k - f)) : cut c (l.drop f) = (l.drop f).take (k - f) :: cut c (l.drop (k + 1)) := by
  conv => lhs; rw [drop_at hf hk]
  exact cut_append c hn _
set_option maxRecDepth 100000 in
theorem free_next {l : List UInt8} {f k : Nat} {c b : UInt8} (hf : f ≤ k) (hk : l[k]? = some b) (hb : b ≠ c) (hn : c ∉ (l.drop f).take (k - f)) : c ∉ (l.drop f).take (k + 1 - f) := by
  rw [show k + 1 - f = (k - f) + 1 by omega, List.take_add_one, List.getElem?_drop, show f + (k - f) = k by omega, hk]
  simp only [Option.toList_some, List.mem_append, List.mem_singleton, not_or]
  exact ⟨hn, fun e => hb e.symm⟩
def cutB (c : UInt8) (s : ByteArray) : List ByteArray := (cut c (bs s)).map mkS
set_option maxRecDepth 100000 in
theorem take_drop_eq (l : List UInt8) (f k : Nat) : (l.take k).drop f = (l.drop f).take (k - f) := by
  rw [List.drop_take]
set_option maxHeartbeats 6000000 in
set_option maxRecDepth 100000 in
theorem partsR_any (c : UInt8) (s : ByteArray) (y : Int) (hy : y = (c.toNat : Int)) (w : World) (hs : s.size ≤ 1000) :
    Calls Tryd.prog 35 #[.string s, .int .u8 y] w fun e w' => ∃ v, e = .returned v ∧ SlS w' v (cutB c s) ∧ Below w.heap.size w w' := by
  obtain ⟨n, hn⟩ : ∃ n : Nat, n = s.size := ⟨_, rfl⟩
  have HN : Hid (∀ _ : Unit, n = s.size) := fun _ => hn
  have hn1 : n ≤ 1000 := by omega
  have HY : Hid (∀ _ : Unit, y = (c.toNat : Int)) := fun _ => hy
  clear hn hs hy
  go_enter Tryd.func35, Tryd.ntmps35
  go_wp2_with fail
  go_loopw [5, 6, 7] (fun vl vf vi wr => ∃ (k f : Nat) (ps : List ByteArray) (vb : Value), vb = vl ∧ k ≤ n ∧ f ≤ k ∧ vf = .int .i64 (f : Int) ∧ vi = .int .i64 (k : Int) ∧ Hid (wr.ownsRow w.heap.size 9 1 vb ps.length (strs ps)) ∧ Hid (ps.length ≤ f) ∧ Hid (cut c (bs s) = ps.map bs ++ cut c ((bs s).drop f)) ∧ Hid (c ∉ ((bs s).drop f).take (k - f)) ∧ Hid (Below w.heap.size w wr)) (fun _ _ vi _ => n - (intOf vi).toNat)
  case atStart => exact ⟨0, 0, [], _, rfl, by omega, by omega, rfl, rfl, World.ownsRow_nil _ _ _ _, Nat.le_refl _, (by show _ = _; simp), (by show _ ∉ _; simp), Below.refl _ _⟩
  case round =>
    obtain ⟨k, f, ps, vb, hvb, hk, hf, rfl, rfl, HO, HPL, HCU, HFR, HW⟩ := hrel
    subst hvb
    have hm := Mem.start wr
    obtain ⟨np, hnp⟩ : ∃ np, np = ps.length := ⟨_, rfl⟩
    rw [← hnp] at HO HPL
    have HNP : Hid (∀ _ : Unit, np = ps.length) := fun _ => hnp
    have hnp3 : np ≤ 100000 := by have := HPL.out; omega
    clear hnp
    by_cases hlt : k < n
    · have hki : (k : Int) < (s.size : Int) := by have := HN.out (); omega
      obtain ⟨b, hb, hb2⟩ := byte_at s k (by have := HN.out (); omega)
      obtain ⟨x, hx⟩ : ∃ x : Int, x = (b.toNat : Int) := ⟨_, rfl⟩
      have HB : Hid (∀ _ : Unit, ∃ c, s.data[k]? = some c ∧ (c.toNat : Int) = x) := fun _ => ⟨b, hb, hx.symm⟩
      have HB2 : Hid (∀ _ : Unit, (bs s)[k]? = some b) := fun _ => hb2
      by_cases hbc : b = c
      · have hxy : (x == y) = true := by rw [beq_iff_eq, hx, HY.out (), hbc]
        subst hbc
        clear hb hb2 hx
        obtain ⟨r, hr⟩ : ∃ r, r = mkS (((bs s).take k).drop f) := ⟨_, rfl⟩
        have HRR : Hid (∀ _ : Unit, bs r = ((bs s).take k).drop f) := fun _ => by rw [hr, bs_mkS]
        have HFK : Hid (f ≤ k) := hf
        have HKN : Hid (k ≤ s.size) := by have := HN.out (); show k ≤ s.size; omega
        clear hr
        go_wp2_with (first
          | ((with_reducible refine at_op (some 16) (.index 9 (.tmp 14) (.tmp 15)) ?_); refine wpl_ixs un_strT s k x rfl rfl rfl (HB.out ()) ?_)
          | ((with_reducible refine at_op (some 23) (.slice 9 (.tmp 20) (some (.tmp 21)) (some (.tmp 22)) none) ?_); go_must (refine wpl_execG (.string r) rfl (exec_slhS s r f k HFK.out HKN.out (HRR.out ()) rfl rfl rfl) ?_))
          | ((with_reducible refine at_op (some 24) (.buildSlice 22 1 #[(0, .tmp 23)]) ?_); go_must (refine wpl_bsl1 rfl (.string ByteArray.empty) (.string r) un_strs info_str rfl rfl rfl hm ?_); clear hm; intro w8 g8 hb8 hm; clear hb8)
          | ((with_reducible refine at_op (some 25) (.call { callee := .builtin .append, args := #[.tmp 19, .tmp 24], argTypes := #[22, 22] }) ?_); go_must (refine wpl_appV (.string ByteArray.empty) 1 16 rfl un_strs made_str rfl (by omega) (by omega) (own_below HO.out hm.below) (Nat.le_trans HW.out.size hm.size) rfl rfl (hm.get 0 rfl) rfl (by simp [Value.oneCell']) hnp3 ?_); intro v9 w9 ho9 hg9 hl9; have HO9 : Hid (w9.ownsRow w.heap.size 9 1 v9 (np + 1) (strs ps ++ [.string r])) := ho9; have HW9 : Hid (Below w.heap.size w w9) := below_grown (below_next HW.out HW.out.size hm.below) (Nat.le_trans HW.out.size hm.size) (own_below HO.out hm.below) hg9; clear ho9 hg9 hl9 hm))
        go_roundw
        case rel =>
          refine ⟨k + 1, k + 1, ps ++ [r], _, rfl, by omega, by omega, by go_num, by go_num, ?_, ?_, ?_, ?_, HW9.out⟩
          · show World.ownsRow _ _ _ _ _ _ _
            rw [List.length_append, List.length_singleton, ← HNP.out (), show strs (ps ++ [r]) = strs ps ++ [.string r] by simp [strs]]
            exact HO9.out
          · show _ ≤ _
            have := HPL.out
            rw [List.length_append, List.length_singleton, ← HNP.out ()]
            omega
          · show _ = _
            rw [HCU.out, cut_step hf (HB2.out ()) HFR.out, List.map_append, List.append_assoc]
            congr 1
            rw [List.map_cons, List.map_nil, HRR.out (), take_drop_eq]; rfl
          · show _ ∉ _
            rw [Nat.sub_self, List.take_zero]; simp
        case measure => simp [intOf]; omega
      · have hxy : (x == y) = false := by
          rw [beq_eq_false_iff_ne, hx, HY.out ()]
          intro he
          exact hbc (by
            have : b.toNat = c.toNat := by omega
            exact UInt8.toNat_inj.1 this)
        have HBC : Hid (b ≠ c) := hbc
        clear hb hb2 hx hbc
        go_wp2_with (first
          | ((with_reducible refine at_op (some 16) (.index 9 (.tmp 14) (.tmp 15)) ?_); refine wpl_ixs un_strT s k x rfl rfl rfl (HB.out ()) ?_))
        go_roundw
        case rel =>
          refine ⟨k + 1, f, ps, _, rfl, by omega, by omega, rfl, by go_num, by rw [← HNP.out ()]; exact HO.out, by rw [← HNP.out ()]; exact HPL.out, HCU.out, free_next hf (HB2.out ()) HBC.out HFR.out, HW.out⟩
        case measure => simp [intOf]; omega
    · have hkn : n = k := by omega
      subst hkn
      have hki : ¬ (n : Int) < (s.size : Int) := by have := HN.out (); omega
      obtain ⟨r, hr⟩ : ∃ r, r = mkS ((bs s).drop f) := ⟨_, rfl⟩
      have HRR : Hid (∀ _ : Unit, bs r = (bs s).drop f) := fun _ => by rw [hr, bs_mkS]
      have HFK : Hid (f ≤ s.size) := by have := HN.out (); show f ≤ s.size; omega
      have HCE : Hid (∀ _ : Unit, cutB c s = ps ++ [r]) := fun _ => by
        have h9 := HFR.out
        rw [List.take_of_length_le (by rw [List.length_drop, bs_length]; have := HN.out (); omega)] at h9
        rw [cutB, HCU.out, cut_none c h9, List.map_append, map_mkS_bs, hr]; rfl
      clear hr
      go_wp2_with (first
        | ((with_reducible refine at_op (some 31) (.slice 9 (.tmp 29) (some (.tmp 30)) none none) ?_); go_must (refine wpl_execG (.string r) rfl (exec_sloS s r f HFK.out (HRR.out ()) rfl rfl) ?_))
        | ((with_reducible refine at_op (some 32) (.buildSlice 22 1 #[(0, .tmp 31)]) ?_); go_must (refine wpl_bsl1 rfl (.string ByteArray.empty) (.string r) un_strs info_str rfl rfl rfl hm ?_); clear hm; intro w8 g8 hb8 hm; clear hb8)
        | ((with_reducible refine at_op (some 33) (.call { callee := .builtin .append, args := #[.tmp 28, .tmp 32], argTypes := #[22, 22] }) ?_); go_must (refine wpl_appV (.string ByteArray.empty) 1 16 rfl un_strs made_str rfl (by omega) (by omega) (own_below HO.out hm.below) (Nat.le_trans HW.out.size hm.size) rfl rfl (hm.get 0 rfl) rfl (by simp [Value.oneCell']) hnp3 ?_); intro v9 w9 ho9 hg9 hl9; have HO9 : Hid (w9.ownsRow w.heap.size 9 1 v9 (np + 1) (strs ps ++ [.string r])) := ho9; have HW9 : Hid (Below w.heap.size w w9) := below_grown (below_next HW.out HW.out.size hm.below) (Nat.le_trans HW.out.size hm.size) (own_below HO.out hm.below) hg9; clear ho9 hg9 hl9 hm))
      go_ret
      refine ⟨_, rfl, ?_, HW9.out⟩
      have h9 := own_sl HO9.out
      rw [HCE.out ()]
      show SlV 1 _ _ (ps ++ [r]).length (strs (ps ++ [r]))
      rw [List.length_append, List.length_singleton, ← HNP.out (), show strs (ps ++ [r]) = strs ps ++ [.string r] by simp [strs]]
      exact h9
set_option maxRecDepth 100000 in
theorem cutB_len (c : UInt8) (s : ByteArray) : (cutB c s).length ≤ s.size + 1 := by
  rw [cutB, List.length_map, ← bs_length]; exact cut_length_le c (bs s)
set_option maxRecDepth 100000 in
theorem cutB_bs (c : UInt8) (s : ByteArray) : (cutB c s).map bs = cut c (bs s) := map_bs_mkS _
set_option maxRecDepth 100000 in
theorem cut_sizes (c : UInt8) (l : List UInt8) : ∀ k ∈ cut c l, k.length ≤ l.length := by
  induction l with
  | nil => intro k hk; simp [cut] at hk; simp [hk]
  | cons x t ih =>
    intro k hk
    rw [cut] at hk
    split at hk
    · rcases List.mem_cons.1 hk with rfl | hk
      · simp
      · have := ih k hk; simp; omega
    · cases hc : cut c t with
      | nil => exact absurd hc (cut_ne c t)
      | cons a r =>
        rw [hc] at hk ih
        rcases List.mem_cons.1 hk with rfl | hk
        · have := ih a (by simp); simp; omega
        · have := ih k (by simp [hk]); simp; omega
set_option maxRecDepth 100000 in
theorem cutB_size (c : UInt8) (s : ByteArray) : ∀ x ∈ cutB c s, x.size ≤ s.size := by
  intro x hx
  obtain ⟨k, hk, rfl⟩ := List.mem_map.1 hx
  rw [mkS_size, ← bs_length]
  exact cut_sizes c _ k hk
end Go.Proofs.YtikmmheknfljkaaDoor
