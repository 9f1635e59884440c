/- What the library's way to part a text has to do with parting it at each sign. -/
import Derived.Lib.SlicesS
import Derived.Test.YtikmmheknfljkaaDoorPaPlain
namespace Go.Proofs.YtikmmheknfljkaaDoor
open Go Go.RowKit
set_option maxRecDepth 100000 in
theorem index_no {c : UInt8} : ∀ {l : List UInt8}, c ∉ l → Lib.index l [c] = -1
  | [], _ => rfl
  | x :: l, h => by
    rw [Lib.index_one, Lib.indexByte]
    have hx : (x == c) = false := beq_eq_false_iff_ne.2 (fun e => h (by simp [e]))
    have ih := index_no (c := c) (l := l) (fun hc => h (List.mem_cons_of_mem _ hc))
    rw [Lib.index_one] at ih
    simp [hx, ih]
set_option maxRecDepth 100000 in
theorem index_at {c : UInt8} (t : List UInt8) : ∀ {a : List UInt8}, c ∉ a → Lib.index (a ++ c :: t) [c] = (a.length : Int)
  | [], _ => by rw [Lib.index_one]; simp [Lib.indexByte]
  | x :: a, h => by
    have hx : (x == c) = false := beq_eq_false_iff_ne.2 (fun e => h (by simp [e]))
    have ih := index_at (c := c) t (a := a) (fun hc => h (List.mem_cons_of_mem _ hc))
    rw [Lib.index_one] at ih ⊢
    rw [List.cons_append, Lib.indexByte, hx, ih]
    have : ¬ ((a.length : Int) == -1) = true := by rw [beq_iff_eq]; omega
    rw [if_neg (by simp), if_neg this]
    simp
set_option maxRecDepth 100000 in
theorem splitK_cut (c : UInt8) : ∀ (k : Nat) (l : List UInt8), (cut c l).length ≤ k + 1 → Lib.splitK [c] 0 k l = cut c l
  | 0, l, h => by
    by_cases hc : c ∈ l
    · obtain ⟨a, t, rfl, hn⟩ := first_of c l hc
      rw [cut_append c hn] at h
      have := List.length_pos_iff.2 (cut_ne c t)
      simp at h
      exact absurd h (cut_ne c t)
    · rw [cut_none c hc]; rfl
  | k + 1, l, h => by
    by_cases hc : c ∈ l
    · obtain ⟨a, t, rfl, hn⟩ := first_of c l hc
      rw [cut_append c hn] at h ⊢
      rw [Lib.splitK, index_at t hn, if_neg (show ¬ (((a.length : Nat) : Int) == -1) = true by rw [beq_iff_eq]; omega)]
      have e : (a ++ c :: t).drop (a.length + 1) = t := by
        rw [show a ++ c :: t = (a ++ [c]) ++ t by simp, show a.length + 1 = (a ++ [c]).length by simp, List.drop_left]
      simp only [Int.toNat_natCast, Nat.add_zero, List.length_cons, List.length_nil, Nat.zero_add, List.take_left, e]
      rw [splitK_cut c k t (by simpa using h)]
    · rw [cut_none c hc, Lib.splitK, index_no hc, if_pos (by rfl)]
set_option maxRecDepth 100000 in
theorem splitK_long (c : UInt8) : ∀ (k : Nat) (l : List UInt8), k + 1 < (cut c l).length → (Lib.splitK [c] 0 k l).length = k + 1
  | 0, l, _ => rfl
  | k + 1, l, h => by
    by_cases hc : c ∈ l
    · obtain ⟨a, t, rfl, hn⟩ := first_of c l hc
      rw [cut_append c hn] at h
      rw [Lib.splitK, index_at t hn, if_neg (show ¬ (((a.length : Nat) : Int) == -1) = true by rw [beq_iff_eq]; omega)]
      have e : (a ++ c :: t).drop (a.length + 1) = t := by
        rw [show a ++ c :: t = (a ++ [c]) ++ t by simp, show a.length + 1 = (a ++ [c]).length by simp, List.drop_left]
      simp only [Int.toNat_natCast, Nat.add_zero, List.length_cons, List.length_nil, Nat.zero_add, e]
      rw [splitK_long c k t (by simpa using h)]
    · rw [cut_none c hc] at h; simp at h
set_option maxRecDepth 100000 in
/-- What the program parts into four at most, and what it is made of. -/
theorem parts_ok (c : UInt8) (s : ByteArray) : (okSegs ((Lib.splitB (mkS [c]) 0 (min 4 (s.size + 1) - 1) s).map bs) = okSegs (cut c (bs s))) ∧ (okSegs (cut c (bs s)) = true → (Lib.splitB (mkS [c]) 0 (min 4 (s.size + 1) - 1) s).map bs = cut c (bs s)) := by
  have e : (Lib.splitB (mkS [c]) 0 (min 4 (s.size + 1) - 1) s).map bs = Lib.splitK [c] 0 (min 4 (s.size + 1) - 1) (bs s) := Lib.splitB_data (mkS [c]) 0 _ s
  rw [e]
  have hle := cut_length_le c (bs s)
  rw [bs_length] at hle
  by_cases h : (cut c (bs s)).length ≤ (min 4 (s.size + 1) - 1) + 1
  · rw [splitK_cut c _ _ h]; exact ⟨rfl, fun _ => rfl⟩
  · have h4 : min 4 (s.size + 1) - 1 = 3 := by omega
    have hl := splitK_long c (min 4 (s.size + 1) - 1) (bs s) (by omega)
    rw [h4] at hl h ⊢
    have e1 : okSegs (cut c (bs s)) = false := by unfold okSegs; rw [decide_eq_false (by omega)]; rfl
    have e2 : okSegs (Lib.splitK [c] 0 3 (bs s)) = false := by unfold okSegs; rw [decide_eq_false (by omega)]; rfl
    rw [e1, e2]
    exact ⟨rfl, fun h => by cases h⟩
set_option maxRecDepth 100000 in
theorem splitB_len (c : UInt8) (s : ByteArray) : (Lib.splitB (mkS [c]) 0 (min 4 (s.size + 1) - 1) s).length ≤ 4 := by
  have := Lib.splitB_length_le (mkS [c]) 0 (min 4 (s.size + 1) - 1) s
  omega

/-! Places: three strings. -/
def plv (ks : List ByteArray) : List Value := [.string (ks.getD 0 noStr), .string (ks.getD 1 noStr), .string (ks.getD 2 noStr)]
structure PlOk (ks : List ByteArray) : Prop where
  len : ks.length ≤ 3
  seg : ∀ k ∈ ks, seg (bs k) = true
set_option maxRecDepth 100000 in
theorem PlOk.of {ks : List ByteArray} (h : okSegs (ks.map bs) = true) : PlOk ks := by
  have := okSegs_parts h
  exact ⟨by simpa using this.1, fun k hk => this.2 (bs k) (List.mem_map_of_mem hk)⟩
set_option maxRecDepth 100000 in
theorem PlOk.to {ks : List ByteArray} (h : PlOk ks) : okSegs (ks.map bs) = true :=
  okSegs_mk (by simpa using h.len) (fun k hk => by obtain ⟨x, hx, rfl⟩ := List.mem_map.1 hk; exact h.seg x hx)
set_option maxRecDepth 100000 in
theorem PlOk.nil : PlOk [] := ⟨by simp, fun k hk => by cases hk⟩
set_option maxRecDepth 100000 in
theorem PlOk.size {ks : List ByteArray} (h : PlOk ks) {k : ByteArray} (hk : k ∈ ks) : 1 ≤ k.size ∧ k.size ≤ 10 := by
  have := seg_parts (h.seg k hk)
  rw [bs_length] at this
  exact ⟨this.1, this.2.1⟩
set_option maxRecDepth 100000 in
theorem PlOk.drop {ks : List ByteArray} (h : PlOk ks) : PlOk ks.dropLast :=
  ⟨by have := h.len; simp; omega, fun k hk => h.seg k (List.dropLast_subset ks hk)⟩
set_option maxRecDepth 100000 in
theorem PlOk.at {ks : List ByteArray} (h : PlOk ks) {i : Nat} (hi : i < ks.length) : ks.getD i noStr ≠ noStr := by
  have e : ks.getD i noStr = ks[i] := by simp [hi]
  rw [e]
  intro hc
  have := (h.size (List.getElem_mem hi)).1
  rw [hc] at this
  exact absurd this (by decide)
set_option maxRecDepth 100000 in
theorem plv_inj {ks qs : List ByteArray} (h : PlOk ks) (h2 : PlOk qs) (he : plv ks = plv qs) : ks = qs := by
  simp only [plv, List.cons.injEq, Value.string.injEq, and_true] at he
  obtain ⟨e0, e1, e2⟩ := he
  have hl : ks.length = qs.length := by
    have l1 := h.len
    have l2 := h2.len
    have key : ∀ i, i < 3 → (i < ks.length ↔ i < qs.length) := by
      intro i hi
      have e : ks.getD i noStr = qs.getD i noStr := by
        rcases (show i = 0 ∨ i = 1 ∨ i = 2 by omega) with rfl | rfl | rfl
        · exact e0
        · exact e1
        · exact e2
      constructor
      · intro hk
        refine Decidable.byContradiction fun hq => h.at hk ?_
        rw [e]; simp [List.getElem?_eq_none (show qs.length ≤ i by omega)]
      · intro hq
        refine Decidable.byContradiction fun hk => h2.at hq ?_
        rw [← e]; simp [List.getElem?_eq_none (show ks.length ≤ i by omega)]
    have k0 := key 0 (by omega)
    have k1 := key 1 (by omega)
    have k2 := key 2 (by omega)
    omega
  apply List.ext_getElem hl
  intro i h1 h2'
  have l1 := h.len
  have e : ks.getD i noStr = qs.getD i noStr := by
    rcases (show i = 0 ∨ i = 1 ∨ i = 2 by omega) with rfl | rfl | rfl
    · exact e0
    · exact e1
    · exact e2
  simpa [h1, h2'] using e
set_option maxRecDepth 100000 in
/-- How many segments, as slices.Index tells it. -/
theorem idx_pl {ks : List ByteArray} (h : PlOk ks) : Lib.idxOfS ([ks.getD 0 noStr, ks.getD 1 noStr, ks.getD 2 noStr].take 3) noStr = if ks.length = 3 then -1 else (ks.length : Int) := by
  have l1 := h.len
  split
  · next h3 =>
    refine Lib.idxOfS_miss _ 3 _ fun j hj => ?_
    rcases (show j = 0 ∨ j = 1 ∨ j = 2 by omega) with rfl | rfl | rfl
    · exact h.at (by omega)
    · exact h.at (by omega)
    · exact h.at (by omega)
  · next h3 =>
    refine Lib.idxOfS_hit _ 3 ks.length _ (by omega) (by simp) ?_ fun j hj => ?_
    · have e : ∀ i, ks.length ≤ i → ks.getD i noStr = noStr := fun i hi => by simp [List.getElem?_eq_none hi]
      rcases (show ks.length = 0 ∨ ks.length = 1 ∨ ks.length = 2 by omega) with hl | hl | hl
      · rw [hl]; exact e 0 (by omega)
      · rw [hl]; exact e 1 (by omega)
      · rw [hl]; exact e 2 (by omega)
    · rcases (show j = 0 ∨ j = 1 ∨ j = 2 by omega) with rfl | rfl | rfl
      · exact h.at (by omega)
      · exact h.at (by omega)
      · exact h.at (by omega)
/-- The segments that a place is filled with, one by one. -/
def plk (xs : List ByteArray) (k : Nat) : List Value := plv (xs.take k)
set_option maxRecDepth 100000 in
theorem plk_zero (xs : List ByteArray) : plk xs 0 = [.string ByteArray.empty, .string ByteArray.empty, .string ByteArray.empty] := rfl
set_option maxRecDepth 100000 in
theorem plk_set (xs : List ByteArray) (k : Nat) (hk : k < xs.length) (hl : xs.length ≤ 3) : (plk xs k).set k (.string (xs.getD k noStr)) = plk xs (k + 1) := by
  unfold plk
  rcases (show k = 0 ∨ k = 1 ∨ k = 2 by omega) with rfl | rfl | rfl
  · match xs, hk with
    | a :: r, _ => rfl
  · match xs, hk with
    | a :: b :: r, _ => rfl
  · match xs, hk with
    | a :: b :: c :: r, _ => rfl
set_option maxRecDepth 100000 in
theorem plv_drop {ks : List ByteArray} (hl : ks.length ≤ 3) (h0 : ks ≠ []) : (plv ks).set (ks.length - 1) (.string noStr) = plv ks.dropLast := by
  match ks, h0, hl with
  | [a], _, _ => rfl
  | [a, b], _, _ => rfl
  | [a, b, c], _, _ => rfl
end Go.Proofs.YtikmmheknfljkaaDoor
