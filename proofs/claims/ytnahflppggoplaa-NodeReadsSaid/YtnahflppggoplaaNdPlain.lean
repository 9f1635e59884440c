/- Nodes of a tree as plain lists of bytes; no statement is proved here. -/
import Derived.Test.YtnahflppggoplaaNdFns
namespace Go.Proofs.Ytnahflppggoplaa
open Go Go.RowKit

def noStr : ByteArray := ByteArray.empty
def less (a b : ByteArray) : Bool := Op.bytesLess a.toList b.toList
def fitK (k : ByteArray) : Bool := decide (1 ≤ k.size) && decide (k.size ≤ 60)
def okKey (ks : List ByteArray) (i : Nat) : Bool := fitK (ks.getD i noStr) && (decide (i = 0) || less (ks.getD (i - 1) noStr) (ks.getD i noStr))
def okKeys (ks : List ByteArray) : Nat → Bool
  | 0 => true
  | n + 1 => okKeys ks n && okKey ks n
def okVals (l : List (ByteArray × ByteArray)) : Nat → Bool
  | 0 => true
  | n + 1 => okVals l n && decide ((l.getD n (noStr, noStr)).2.size ≤ 150)
def okPair (l : List (ByteArray × ByteArray)) (i : Nat) : Bool := decide ((l.getD i (noStr, noStr)).2.size ≤ 150) && okKey (l.map Prod.fst) i
def okPairs (l : List (ByteArray × ByteArray)) : Nat → Bool
  | 0 => true
  | n + 1 => okPairs l n && okPair l n
set_option maxRecDepth 100000 in
theorem okPairs_two (l : List (ByteArray × ByteArray)) (n : Nat) : okPairs l n = (okVals l n && okKeys (l.map Prod.fst) n) := by
  induction n with
  | zero => rfl
  | succ n ih =>
    rw [okPairs, okVals, okKeys, ih, okPair]
    cases okVals l n <;> cases okKeys (l.map Prod.fst) n <;> simp
set_option maxRecDepth 100000 in
theorem okKeys_le {ks : List ByteArray} {n m : Nat} (h : n ≤ m) (hn : okKeys ks n = false) : okKeys ks m = false := by
  induction m with
  | zero => rw [Nat.le_zero.1 h] at hn; exact hn
  | succ m ih =>
    rcases Nat.lt_or_ge n (m + 1) with h1 | h1
    · rw [okKeys, ih (by omega)]; rfl
    · rw [show n = m + 1 by omega] at hn; exact hn
set_option maxRecDepth 100000 in
theorem okPairs_le {l : List (ByteArray × ByteArray)} {n m : Nat} (h : n ≤ m) (hn : okPairs l n = false) : okPairs l m = false := by
  induction m with
  | zero => rw [Nat.le_zero.1 h] at hn; exact hn
  | succ m ih =>
    rcases Nat.lt_or_ge n (m + 1) with h1 | h1
    · rw [okPairs, ih (by omega)]; rfl
    · rw [show n = m + 1 by omega] at hn; exact hn
set_option maxRecDepth 100000 in
theorem okVals_le {l : List (ByteArray × ByteArray)} {n m : Nat} (h : n ≤ m) (hn : okVals l n = false) : okVals l m = false := by
  induction m with
  | zero => rw [Nat.le_zero.1 h] at hn; exact hn
  | succ m ih =>
    rcases Nat.lt_or_ge n (m + 1) with h1 | h1
    · rw [okVals, ih (by omega)]; rfl
    · rw [show n = m + 1 by omega] at hn; exact hn
set_option maxRecDepth 100000 in
theorem okKeys_at {ks : List ByteArray} {n i : Nat} (h : okKeys ks n = true) (hi : i < n) : okKey ks i = true := by
  induction n with
  | zero => omega
  | succ n ih =>
    rw [okKeys, Bool.and_eq_true] at h
    rcases Nat.lt_or_ge i n with h1 | h1
    · exact ih h.1 h1
    · rw [show i = n by omega]; exact h.2
set_option maxRecDepth 100000 in
theorem okPairs_at {l : List (ByteArray × ByteArray)} {n i : Nat} (h : okPairs l n = true) (hi : i < n) : okPair l i = true := by
  induction n with
  | zero => omega
  | succ n ih =>
    rw [okPairs, Bool.and_eq_true] at h
    rcases Nat.lt_or_ge i n with h1 | h1
    · exact ih h.1 h1
    · rw [show i = n by omega]; exact h.2
set_option maxRecDepth 100000 in
theorem fst_getD (l : List (ByteArray × ByteArray)) (i : Nat) : (l.map Prod.fst).getD i noStr = (l.getD i (noStr, noStr)).1 := by
  by_cases h : i < l.length
  · simp [h]
  · simp [h]
set_option maxRecDepth 100000 in
theorem okPair_eq (l : List (ByteArray × ByteArray)) (i : Nat) : okPair l i = (decide ((l.getD i (noStr, noStr)).2.size ≤ 150) && (fitK (l.getD i (noStr, noStr)).1 && (decide (i = 0) || less (l.getD (i - 1) (noStr, noStr)).1 (l.getD i (noStr, noStr)).1))) := by
  rw [okPair, okKey, fst_getD, fst_getD]
/-! Texts. -/
def textB (s : ByteArray) : List Int := be2 s.size ++ strB s
set_option maxRecDepth 100000 in
theorem textB_length (s : ByteArray) : (textB s).length = 2 + s.size := by simp [textB, be2_length, strB_length]
set_option maxRecDepth 100000 in
theorem textB_bytes (s : ByteArray) : Bytes (textB s) := (be2_bytes _).append (strB_bytes _)
set_option maxRecDepth 100000 in
theorem strOf_strB (s : ByteArray) : strOf (strB s) = s := by
  apply ByteArray.ext
  apply Array.ext'
  simp only [strOf, strB, List.map_map]
  exact (List.map_congr_left (fun b _ => by simp)).trans (List.map_id _)
def gtNum (cs : List Int) : Nat := (numL (cs.take 2)).toNat
def gtCode (cs : List Int) (m : Nat) : Int := if cs.length < 2 then 10 else if m < gtNum cs then 11 else if cs.length < 2 + gtNum cs then 10 else 0
def gtStr (cs : List Int) (m : Nat) : ByteArray := if gtCode cs m = 0 then strOf ((cs.drop 2).take (gtNum cs)) else noStr
def gtRest (cs : List Int) (m : Nat) : List Int := if gtCode cs m = 0 then cs.drop (2 + gtNum cs) else cs
set_option maxRecDepth 100000 in
theorem gtRest_bytes {cs : List Int} (h : Bytes cs) (m : Nat) : Bytes (gtRest cs m) := by
  unfold gtRest; split
  · exact h.drop _
  · exact h
set_option maxRecDepth 100000 in
theorem gtRest_length (cs : List Int) (m : Nat) : (gtRest cs m).length ≤ cs.length := by
  unfold gtRest; split
  · rw [List.length_drop]; omega
  · exact Nat.le_refl _
set_option maxRecDepth 100000 in
theorem gtNum_text (s : ByteArray) (r : List Int) (h : s.size < 65536) : gtNum (textB s ++ r) = s.size := by
  unfold gtNum textB
  rw [List.append_assoc, List.take_append_of_le_length (by simp [be2_length]), List.take_of_length_le (by simp [be2_length]), numL_be2 (by omega)]
  rfl
set_option maxRecDepth 100000 in
theorem gtCode_text (s : ByteArray) (r : List Int) (m : Nat) (h : s.size ≤ m) (hm : m < 65536) : gtCode (textB s ++ r) m = 0 := by
  unfold gtCode
  rw [gtNum_text s r (by omega), List.length_append, textB_length, if_neg (by omega), if_neg (by omega), if_neg (by omega)]
set_option maxRecDepth 100000 in
theorem gtStr_text (s : ByteArray) (r : List Int) (m : Nat) (h : s.size ≤ m) (hm : m < 65536) : gtStr (textB s ++ r) m = s := by
  unfold gtStr
  rw [if_pos (gtCode_text s r m h hm), gtNum_text s r (by omega)]
  unfold textB
  rw [List.append_assoc, List.drop_append_of_le_length (by simp [be2_length]), List.drop_of_length_le (by simp [be2_length]), List.nil_append, List.take_append_of_le_length (by rw [strB_length]; exact Nat.le_refl _), List.take_of_length_le (by rw [strB_length]; exact Nat.le_refl _), strOf_strB]
set_option maxRecDepth 100000 in
theorem gtRest_text (s : ByteArray) (r : List Int) (m : Nat) (h : s.size ≤ m) (hm : m < 65536) : gtRest (textB s ++ r) m = r := by
  unfold gtRest
  rw [if_pos (gtCode_text s r m h hm), gtNum_text s r (by omega), List.drop_append_of_le_length (by rw [textB_length]; exact Nat.le_refl _), List.drop_of_length_le (by rw [textB_length]; exact Nat.le_refl _), List.nil_append]
/-! A leaf. -/
def pairB (p : ByteArray × ByteArray) : List Int := textB p.1 ++ textB p.2
def texts (l : List (ByteArray × ByteArray)) : List Int := l.flatMap pairB
def psz (p : ByteArray × ByteArray) : Nat := 4 + p.1.size + p.2.size
def szP (l : List (ByteArray × ByteArray)) : Nat := 3 + (l.map psz).sum
set_option maxRecDepth 100000 in
theorem pairB_length (p : ByteArray × ByteArray) : (pairB p).length = psz p := by
  rw [pairB, List.length_append, textB_length, textB_length, psz]; omega
set_option maxRecDepth 100000 in
theorem texts_length (l : List (ByteArray × ByteArray)) : 3 + (texts l).length = szP l := by
  unfold texts szP
  congr 1
  induction l with
  | nil => rfl
  | cons p l ih => rw [List.flatMap_cons, List.length_append, ih, pairB_length, List.map_cons, List.sum_cons]
set_option maxRecDepth 100000 in
theorem texts_append (l m : List (ByteArray × ByteArray)) : texts (l ++ m) = texts l ++ texts m := by simp [texts]
set_option maxRecDepth 100000 in
theorem texts_one (p : ByteArray × ByteArray) : texts [p] = textB p.1 ++ textB p.2 := by simp [texts, pairB]
set_option maxRecDepth 100000 in
theorem szP_append (l m : List (ByteArray × ByteArray)) : szP (l ++ m) = szP l + (m.map psz).sum := by simp [szP]; omega
set_option maxRecDepth 100000 in
theorem take_snoc {α : Type} (l : List α) (n : Nat) (d : α) (h : n < l.length) : l.take (n + 1) = l.take n ++ [l.getD n d] := by
  rw [List.take_add_one, List.getElem?_eq_getElem h, Option.toList_some]; simp [h]
set_option maxRecDepth 100000 in
theorem szP_take (l : List (ByteArray × ByteArray)) (n : Nat) (h : n < l.length) : szP (l.take (n + 1)) = szP (l.take n) + psz (l.getD n (noStr, noStr)) := by
  rw [take_snoc l n (noStr, noStr) h, szP_append]; simp
set_option maxRecDepth 100000 in
theorem szP_take_le (l : List (ByteArray × ByteArray)) (n : Nat) : szP (l.take n) ≤ szP l := by
  have h : szP l = szP (l.take n) + ((l.drop n).map psz).sum := by rw [← szP_append, List.take_append_drop]
  omega
set_option maxRecDepth 100000 in
theorem szP_len (l : List (ByteArray × ByteArray)) : 3 + 4 * l.length ≤ szP l := by
  unfold szP
  induction l with
  | nil => simp
  | cons p l ih => simp only [List.map_cons, List.sum_cons, List.length_cons, psz] at ih ⊢; omega
def leafB (l : List (ByteArray × ByteArray)) : List Int := [1] ++ be2 l.length ++ texts l
set_option maxRecDepth 100000 in
theorem leafB_length (l : List (ByteArray × ByteArray)) : (leafB l).length = szP l := by
  rw [leafB, List.length_append, ← texts_length]; simp [be2_length]
set_option maxRecDepth 100000 in
theorem texts_bytes (l : List (ByteArray × ByteArray)) : Bytes (texts l) := by
  intro x hx
  obtain ⟨p, _, hp⟩ := List.mem_flatMap.1 hx
  exact ((textB_bytes _).append (textB_bytes _)) x hp
set_option maxRecDepth 100000 in
theorem leafB_bytes (l : List (ByteArray × ByteArray)) : Bytes (leafB l) :=
  (((show Bytes [1] by intro x hx; simp at hx; omega)).append (be2_bytes _)).append (texts_bytes l)
def leafCode (l : List (ByteArray × ByteArray)) : Int := if okPairs l l.length = false then 90 else if 480 < szP l then 11 else 0
def leafOut (l : List (ByteArray × ByteArray)) : List Int := if leafCode l = 0 then leafB l else []
set_option maxRecDepth 100000 in
theorem leafCode_ok {l : List (ByteArray × ByteArray)} (h : leafCode l = 0) : okPairs l l.length = true ∧ szP l ≤ 480 := by
  unfold leafCode at h
  split at h
  · simp at h
  · rename_i h1
    split at h
    · simp at h
    · exact ⟨by simpa using h1, by omega⟩
set_option maxRecDepth 100000 in
theorem leafCode_of {l : List (ByteArray × ByteArray)} (h : okPairs l l.length = true) (h2 : szP l ≤ 480) : leafCode l = 0 := by
  rw [leafCode, if_neg (by rw [h]; simp), if_neg (by omega)]
set_option maxRecDepth 100000 in
theorem pair_sizes {l : List (ByteArray × ByteArray)} (h : okPairs l l.length = true) (i : Nat) (hi : i < l.length) : (l.getD i (noStr, noStr)).1.size ≤ 60 ∧ (l.getD i (noStr, noStr)).2.size ≤ 150 := by
  have h1 := okPairs_at h hi
  simp only [okPair, okKey, fitK, Bool.and_eq_true, decide_eq_true_eq] at h1
  refine ⟨?_, h1.1⟩
  have h2 := h1.2.1.2
  simpa [List.getD_eq_getElem?_getD, hi] using h2
def headB (b : List Int) (k : Int) : Bool := decide (3 ≤ b.length ∧ b.length ≤ 480 ∧ b.getD 0 0 = k)
def cnt (b : List Int) : Nat := (b.getD 1 0 * 256 + b.getD 2 0).toNat
def restL (r : List Int) : Nat → List Int
  | 0 => r
  | n + 1 => gtRest (gtRest (restL r n) 60) 150
def pairL (r : List Int) (n : Nat) : ByteArray × ByteArray := (gtStr (restL r n) 60, gtStr (gtRest (restL r n) 60) 150)
def goodL (r : List Int) (n : Nat) : Bool := decide (gtCode (restL r n) 60 = 0) && decide (gtCode (gtRest (restL r n) 60) 150 = 0)
def okL (r : List Int) : Nat → Bool
  | 0 => true
  | n + 1 => okL r n && goodL r n
def listL (r : List Int) : Nat → List (ByteArray × ByteArray)
  | 0 => []
  | n + 1 => listL r n ++ [pairL r n]
set_option maxRecDepth 100000 in
theorem listL_length (r : List Int) (n : Nat) : (listL r n).length = n := by
  induction n with
  | zero => rfl
  | succ n ih => rw [listL, List.length_append, ih]; rfl
set_option maxRecDepth 100000 in
theorem okL_le {r : List Int} {n m : Nat} (h : n ≤ m) (hn : okL r n = false) : okL r m = false := by
  induction m with
  | zero => rw [Nat.le_zero.1 h] at hn; exact hn
  | succ m ih =>
    rcases Nat.lt_or_ge n (m + 1) with h1 | h1
    · rw [okL, ih (by omega)]; rfl
    · rw [show n = m + 1 by omega] at hn; exact hn
set_option maxRecDepth 100000 in
theorem restL_bytes {r : List Int} (h : Bytes r) (n : Nat) : Bytes (restL r n) := by
  induction n with
  | zero => exact h
  | succ n ih => exact gtRest_bytes (gtRest_bytes ih _) _
set_option maxRecDepth 100000 in
theorem restL_length (r : List Int) (n : Nat) : (restL r n).length ≤ r.length := by
  induction n with
  | zero => exact Nat.le_refl _
  | succ n ih => exact Nat.le_trans (gtRest_length _ _) (Nat.le_trans (gtRest_length _ _) ih)
def rlOk (b : List Int) : Bool := headB b 1 && okL (b.drop 3) (cnt b) && decide (leafCode (listL (b.drop 3) (cnt b)) = 0) && decide (leafB (listL (b.drop 3) (cnt b)) = b)
def rlOut (b : List Int) : List (ByteArray × ByteArray) := if rlOk b then listL (b.drop 3) (cnt b) else []
set_option maxRecDepth 100000 in
theorem restL_texts {l : List (ByteArray × ByteArray)} (h : okPairs l l.length = true) (r : List Int) (n : Nat) (hn : n ≤ l.length) : restL (texts l ++ r) n = texts (l.drop n) ++ r := by
  induction n with
  | zero => rfl
  | succ n ih =>
    obtain ⟨h1, h2⟩ := pair_sizes h n (by omega)
    have e : l.drop n = l.getD n (noStr, noStr) :: l.drop (n + 1) := by
      rw [List.drop_eq_getElem_cons (show n < l.length by omega)]; simp [show n < l.length by omega]
    rw [restL, ih (by omega), e]
    simp only [texts, List.flatMap_cons, pairB, List.append_assoc]
    rw [gtRest_text _ _ _ h1 (by omega), gtRest_text _ _ _ h2 (by omega)]
set_option maxRecDepth 100000 in
theorem pairL_texts {l : List (ByteArray × ByteArray)} (h : okPairs l l.length = true) (r : List Int) (n : Nat) (hn : n < l.length) : pairL (texts l ++ r) n = l.getD n (noStr, noStr) ∧ goodL (texts l ++ r) n = true := by
  obtain ⟨h1, h2⟩ := pair_sizes h n hn
  have e : l.drop n = l.getD n (noStr, noStr) :: l.drop (n + 1) := by
    rw [List.drop_eq_getElem_cons hn]; simp [hn]
  unfold pairL goodL
  rw [restL_texts h r n (by omega), e]
  simp only [texts, List.flatMap_cons, pairB, List.append_assoc]
  rw [gtStr_text _ _ _ h1 (by omega), gtCode_text _ _ _ h1 (by omega), gtRest_text _ _ _ h1 (by omega), gtStr_text _ _ _ h2 (by omega), gtCode_text _ _ _ h2 (by omega)]
  exact ⟨rfl, rfl⟩
set_option maxRecDepth 100000 in
theorem listL_texts {l : List (ByteArray × ByteArray)} (h : okPairs l l.length = true) (r : List Int) (n : Nat) (hn : n ≤ l.length) : listL (texts l ++ r) n = l.take n ∧ okL (texts l ++ r) n = true := by
  induction n with
  | zero => exact ⟨rfl, rfl⟩
  | succ n ih =>
    obtain ⟨i1, i2⟩ := ih (by omega)
    obtain ⟨h1, h2⟩ := pairL_texts h r n (by omega)
    rw [listL, okL, i1, i2, h1, h2, take_snoc l n (noStr, noStr) (by omega)]
    exact ⟨rfl, rfl⟩
set_option maxRecDepth 100000 in
theorem listL_all {l : List (ByteArray × ByteArray)} (h : okPairs l l.length = true) (r : List Int) : listL (texts l ++ r) l.length = l ∧ okL (texts l ++ r) l.length = true := by
  obtain ⟨h1, h2⟩ := listL_texts h r l.length (Nat.le_refl _)
  rw [List.take_length] at h1
  exact ⟨h1, h2⟩
set_option maxRecDepth 100000 in
theorem leafB_drop (l : List (ByteArray × ByteArray)) (r : List Int) : (leafB l ++ r).drop 3 = texts l ++ r := by simp [leafB, be2]
set_option maxRecDepth 100000 in
theorem leafB_cnt (l : List (ByteArray × ByteArray)) (h : l.length < 65536) (r : List Int) : cnt (leafB l ++ r) = l.length := by
  simp [cnt, leafB, be2]; omega
set_option maxRecDepth 100000 in
theorem leafB_head (l : List (ByteArray × ByteArray)) (r : List Int) : (leafB l ++ r).getD 0 0 = 1 := by simp [leafB]
set_option maxRecDepth 100000 in
theorem rl_back {l : List (ByteArray × ByteArray)} (h : leafCode l = 0) : rlOk (leafB l) = true ∧ rlOut (leafB l) = l := by
  obtain ⟨h1, h2⟩ := leafCode_ok h
  have hl := szP_len l
  have e1 : (leafB l).drop 3 = texts l ++ [] := by rw [← leafB_drop, List.append_nil]
  have e2 : cnt (leafB l) = l.length := by rw [← leafB_cnt l (by omega) [], List.append_nil]
  obtain ⟨e3, e4⟩ := listL_all h1 []
  have e5 : headB (leafB l) 1 = true := by
    unfold headB
    rw [leafB_length]
    have := leafB_head l []
    rw [List.append_nil] at this
    exact decide_eq_true ⟨by omega, h2, this⟩
  have e6 : rlOk (leafB l) = true := by
    unfold rlOk
    rw [e1, e2, e3, e4, e5, h]; simp
  refine ⟨e6, ?_⟩
  rw [rlOut, e6, if_pos rfl, e1, e2, e3]
set_option maxRecDepth 100000 in
theorem rlOk_ok {b : List Int} (h : rlOk b = true) : leafCode (rlOut b) = 0 ∧ leafB (rlOut b) = b := by
  have h0 := h
  unfold rlOk at h0
  simp only [Bool.and_eq_true, decide_eq_true_eq] at h0
  rw [rlOut, h, if_pos rfl]
  exact ⟨h0.1.2, h0.2⟩
set_option maxRecDepth 100000 in
theorem rl_more {l : List (ByteArray × ByteArray)} (h : leafCode l = 0) (x : Int) : rlOk (leafB l ++ [x]) = false := by
  obtain ⟨h1, h2⟩ := leafCode_ok h
  have hl := szP_len l
  cases hr : rlOk (leafB l ++ [x]) with
  | false => rfl
  | true =>
    obtain ⟨_, h4⟩ := rlOk_ok hr
    rw [rlOut, hr, if_pos rfl, leafB_drop, leafB_cnt l (by omega), (listL_all h1 [x]).1] at h4
    have := congrArg List.length h4
    simp at this
set_option maxRecDepth 100000 in
theorem rl_less {l : List (ByteArray × ByteArray)} (h : leafCode l = 0) : rlOk (leafB l).dropLast = false := by
  obtain ⟨h1, h2⟩ := leafCode_ok h
  have hl := szP_len l
  cases hr : rlOk (leafB l).dropLast with
  | false => rfl
  | true =>
    obtain ⟨h3, h4⟩ := rlOk_ok hr
    obtain ⟨h5, h6⟩ := leafCode_ok h3
    have hl' := szP_len (rlOut (leafB l).dropLast)
    generalize rlOut (leafB l).dropLast = m at *
    have hne : leafB l ≠ [] := by intro he; have := leafB_length l; rw [he] at this; simp at this; omega
    obtain ⟨x, hx⟩ : ∃ x, leafB l = leafB m ++ [x] := ⟨_, by rw [h4]; exact (List.dropLast_concat_getLast hne).symm⟩
    have c1 := leafB_cnt m (by omega) [x]
    have c2 := leafB_cnt l (by omega) []
    rw [List.append_nil, hx, c1] at c2
    have d1 := leafB_drop m [x]
    have d2 := leafB_drop l []
    rw [List.append_nil, hx, d1] at d2
    have l1 := (listL_all h5 [x]).1
    have l2 := (listL_all h1 []).1
    rw [← d2, ← c2, l1] at l2
    rw [l2] at hx
    have := congrArg List.length hx
    simp at this
set_option maxRecDepth 100000 in
theorem leafB_inj {l m : List (ByteArray × ByteArray)} (hl : leafCode l = 0) (hm : leafCode m = 0) (h : leafB l = leafB m) : l = m := by
  rw [← (rl_back hl).2, h, (rl_back hm).2]
set_option maxRecDepth 100000 in
theorem gtRest_good {cs : List Int} {m : Nat} (h : gtCode cs m = 0) : (gtRest cs m).length + 2 ≤ cs.length := by
  rw [gtRest, if_pos h, List.length_drop]
  unfold gtCode at h
  split at h
  · simp at h
  · split at h
    · simp at h
    · split at h
      · simp at h
      · omega
set_option maxRecDepth 100000 in
theorem gtStr_size (cs : List Int) (m : Nat) : (gtStr cs m).size ≤ m := by
  unfold gtStr
  split
  · rename_i h
    rw [strOf_size, List.length_take]
    unfold gtCode at h
    split at h
    · simp at h
    · split at h
      · simp at h
      · omega
  · exact Nat.zero_le _
set_option maxRecDepth 100000 in
theorem okL_len {r : List Int} {n : Nat} (h : okL r n = true) : (restL r n).length + 4 * n ≤ r.length := by
  induction n with
  | zero => simp [restL]
  | succ n ih =>
    rw [okL, Bool.and_eq_true] at h
    have h1 := ih h.1
    have h2 := h.2
    simp only [goodL, Bool.and_eq_true, decide_eq_true_eq] at h2
    have h3 := gtRest_good h2.1
    have h4 := gtRest_good h2.2
    rw [restL]
    omega
set_option maxRecDepth 100000 in
theorem listL_sizes (r : List Int) (n : Nat) : ∀ p ∈ listL r n, p.1.size ≤ 60 ∧ p.2.size ≤ 150 := by
  induction n with
  | zero => intro p hp; cases hp
  | succ n ih =>
    intro p hp
    rw [listL, List.mem_append] at hp
    rcases hp with hp | hp
    · exact ih p hp
    · simp only [List.mem_cons, List.not_mem_nil, or_false] at hp
      subst hp
      exact ⟨gtStr_size _ _, gtStr_size _ _⟩
set_option maxRecDepth 100000 in
theorem rl_head {b : List Int} (h : headB b 1 = false) : rlOk b = false := by unfold rlOk; rw [h]; rfl
set_option maxRecDepth 100000 in
theorem rl_bad {b : List Int} {k : Nat} (hk : k ≤ cnt b) (h : okL (b.drop 3) k = false) : rlOk b = false := by
  unfold rlOk; rw [okL_le hk h]; simp
set_option maxRecDepth 100000 in
theorem rl_code {b : List Int} (h : ¬ leafCode (listL (b.drop 3) (cnt b)) = 0) : rlOk b = false := by
  unfold rlOk; rw [decide_eq_false h]; simp
set_option maxRecDepth 100000 in
theorem rl_eq {b : List Int} (h : ¬ leafB (listL (b.drop 3) (cnt b)) = b) : rlOk b = false := by
  unfold rlOk; rw [decide_eq_false h]; simp
set_option maxRecDepth 100000 in
theorem rl_yes {b : List Int} (h1 : headB b 1 = true) (h2 : okL (b.drop 3) (cnt b) = true) (h3 : leafCode (listL (b.drop 3) (cnt b)) = 0) (h4 : leafB (listL (b.drop 3) (cnt b)) = b) : rlOk b = true := by
  unfold rlOk; rw [h1, h2, h3, h4]; simp
/-! A branch. -/
def keysB (ks : List ByteArray) : List Int := ks.flatMap textB
def kidsB (kids : List Int) : List Int := kids.flatMap be4
def ksz (ks : List ByteArray) : Nat := (ks.map fun k => 2 + k.size).sum
def szB (ks : List ByteArray) (m : Nat) : Nat := 3 + 4 * m + ksz ks
set_option maxRecDepth 100000 in
theorem keysB_length (ks : List ByteArray) : (keysB ks).length = ksz ks := by
  unfold keysB ksz
  induction ks with
  | nil => rfl
  | cons k ks ih => rw [List.flatMap_cons, List.length_append, ih, textB_length, List.map_cons, List.sum_cons]
set_option maxRecDepth 100000 in
theorem kidsB_length (kids : List Int) : (kidsB kids).length = 4 * kids.length := by
  unfold kidsB
  induction kids with
  | nil => rfl
  | cons k ks ih => rw [List.flatMap_cons, List.length_append, ih, be4_length, List.length_cons]; omega
set_option maxRecDepth 100000 in
theorem keysB_append (a b : List ByteArray) : keysB (a ++ b) = keysB a ++ keysB b := by simp [keysB]
set_option maxRecDepth 100000 in
theorem keysB_one (k : ByteArray) : keysB [k] = textB k := by simp [keysB]
set_option maxRecDepth 100000 in
theorem kidsB_append (a b : List Int) : kidsB (a ++ b) = kidsB a ++ kidsB b := by simp [kidsB]
set_option maxRecDepth 100000 in
theorem kidsB_one (k : Int) : kidsB [k] = be4 k := by simp [kidsB]
set_option maxRecDepth 100000 in
theorem ksz_append (a b : List ByteArray) : ksz (a ++ b) = ksz a + ksz b := by simp [ksz]
set_option maxRecDepth 100000 in
theorem ksz_take (ks : List ByteArray) (n : Nat) (h : n < ks.length) : ksz (ks.take (n + 1)) = ksz (ks.take n) + (2 + (ks.getD n noStr).size) := by
  rw [take_snoc ks n noStr h, ksz_append]; simp [ksz]
set_option maxRecDepth 100000 in
theorem ksz_take_le (ks : List ByteArray) (n : Nat) : ksz (ks.take n) ≤ ksz ks := by
  have h : ksz ks = ksz (ks.take n) + ksz (ks.drop n) := by rw [← ksz_append, List.take_append_drop]
  omega
set_option maxRecDepth 100000 in
theorem ksz_len (ks : List ByteArray) : 2 * ks.length ≤ ksz ks := by
  unfold ksz
  induction ks with
  | nil => simp
  | cons p l ih => simp only [List.map_cons, List.sum_cons, List.length_cons] at ih ⊢; omega
def branchB (ks : List ByteArray) (kids : List Int) : List Int := [2] ++ be2 ks.length ++ keysB ks ++ kidsB kids
set_option maxRecDepth 100000 in
theorem branchB_length (ks : List ByteArray) (kids : List Int) : (branchB ks kids).length = szB ks kids.length := by
  simp only [branchB, List.length_append, keysB_length, kidsB_length, be2_length, szB, List.length_cons, List.length_nil]; omega
set_option maxRecDepth 100000 in
theorem keysB_bytes (ks : List ByteArray) : Bytes (keysB ks) := by
  intro x hx
  obtain ⟨p, _, hp⟩ := List.mem_flatMap.1 hx
  exact textB_bytes _ x hp
set_option maxRecDepth 100000 in
theorem kidsB_bytes (kids : List Int) : Bytes (kidsB kids) := by
  intro x hx
  obtain ⟨p, _, hp⟩ := List.mem_flatMap.1 hx
  exact be4_bytes _ x hp
set_option maxRecDepth 100000 in
theorem branchB_bytes (ks : List ByteArray) (kids : List Int) : Bytes (branchB ks kids) :=
  ((((show Bytes [2] by intro x hx; simp at hx; omega)).append (be2_bytes _)).append (keysB_bytes ks)).append (kidsB_bytes kids)
def okBr (ks : List ByteArray) (m : Nat) : Bool := decide (ks.length ≠ 0) && decide (m = ks.length + 1) && okKeys ks ks.length
def branchCode (ks : List ByteArray) (m : Nat) : Int := if okBr ks m = false then 90 else if 480 < szB ks m then 11 else 0
def branchOut (ks : List ByteArray) (kids : List Int) : List Int := if branchCode ks kids.length = 0 then branchB ks kids else []
set_option maxRecDepth 100000 in
theorem branchCode_ok {ks : List ByteArray} {m : Nat} (h : branchCode ks m = 0) : (ks.length ≠ 0 ∧ m = ks.length + 1 ∧ okKeys ks ks.length = true) ∧ szB ks m ≤ 480 := by
  unfold branchCode at h
  split at h
  · simp at h
  · rename_i h1
    split at h
    · simp at h
    · refine ⟨?_, by omega⟩
      simp only [okBr, Bool.not_eq_false, Bool.and_eq_true, decide_eq_true_eq] at h1
      exact ⟨h1.1.1, h1.1.2, h1.2⟩
set_option maxRecDepth 100000 in
theorem key_size {ks : List ByteArray} (h : okKeys ks ks.length = true) (i : Nat) (hi : i < ks.length) : (ks.getD i noStr).size ≤ 60 := by
  have h1 := okKeys_at h hi
  simp only [okKey, fitK, Bool.and_eq_true, decide_eq_true_eq] at h1
  exact h1.1.2
def restK (r : List Int) : Nat → List Int
  | 0 => r
  | n + 1 => gtRest (restK r n) 60
def okK (r : List Int) : Nat → Bool
  | 0 => true
  | n + 1 => okK r n && decide (gtCode (restK r n) 60 = 0)
def listK (r : List Int) : Nat → List ByteArray
  | 0 => []
  | n + 1 => listK r n ++ [gtStr (restK r n) 60]
def kidsL (r : List Int) : Nat → List Int
  | 0 => []
  | n + 1 => kidsL r n ++ [numL ((r.drop (4 * n)).take 4)]
set_option maxRecDepth 100000 in
theorem listK_length (r : List Int) (n : Nat) : (listK r n).length = n := by
  induction n with
  | zero => rfl
  | succ n ih => rw [listK, List.length_append, ih]; rfl
set_option maxRecDepth 100000 in
theorem kidsL_length (r : List Int) (n : Nat) : (kidsL r n).length = n := by
  induction n with
  | zero => rfl
  | succ n ih => rw [kidsL, List.length_append, ih]; rfl
set_option maxRecDepth 100000 in
theorem okK_le {r : List Int} {n m : Nat} (h : n ≤ m) (hn : okK r n = false) : okK r m = false := by
  induction m with
  | zero => rw [Nat.le_zero.1 h] at hn; exact hn
  | succ m ih =>
    rcases Nat.lt_or_ge n (m + 1) with h1 | h1
    · rw [okK, ih (by omega)]; rfl
    · rw [show n = m + 1 by omega] at hn; exact hn
set_option maxRecDepth 100000 in
theorem restK_bytes {r : List Int} (h : Bytes r) (n : Nat) : Bytes (restK r n) := by
  induction n with
  | zero => exact h
  | succ n ih => exact gtRest_bytes ih _
set_option maxRecDepth 100000 in
theorem restK_length (r : List Int) (n : Nat) : (restK r n).length ≤ r.length := by
  induction n with
  | zero => exact Nat.le_refl _
  | succ n ih => exact Nat.le_trans (gtRest_length _ _) ih
/-- The keys and the kids that a branch's bytes tell, if they are one. -/
def rbKeys (b : List Int) : List ByteArray := listK (b.drop 3) (cnt b)
def rbTail (b : List Int) : List Int := restK (b.drop 3) (cnt b)
def rbKids (b : List Int) : List Int := kidsL (rbTail b) ((rbTail b).length / 4)
def rbOk (b : List Int) : Bool := headB b 2 && okK (b.drop 3) (cnt b) && decide (branchCode (rbKeys b) (rbKids b).length = 0) && decide (branchB (rbKeys b) (rbKids b) = b)
def rbOutK (b : List Int) : List ByteArray := if rbOk b then rbKeys b else []
def rbOutI (b : List Int) : List Int := if rbOk b then rbKids b else []
set_option maxRecDepth 100000 in
theorem okK_len {r : List Int} {n : Nat} (h : okK r n = true) : (restK r n).length + 2 * n ≤ r.length := by
  induction n with
  | zero => simp [restK]
  | succ n ih =>
    rw [okK, Bool.and_eq_true, decide_eq_true_eq] at h
    have h1 := ih h.1
    have h3 := gtRest_good h.2
    rw [restK]
    omega
set_option maxRecDepth 100000 in
theorem listK_sizes (r : List Int) (n : Nat) : ∀ p ∈ listK r n, p.size ≤ 60 := by
  induction n with
  | zero => intro p hp; cases hp
  | succ n ih =>
    intro p hp
    rw [listK, List.mem_append] at hp
    rcases hp with hp | hp
    · exact ih p hp
    · simp only [List.mem_cons, List.not_mem_nil, or_false] at hp
      subst hp
      exact gtStr_size _ _
set_option maxRecDepth 100000 in
theorem kidsL_bounds {r : List Int} (h : Bytes r) (n : Nat) : ∀ x ∈ kidsL r n, 0 ≤ x ∧ x < 4294967296 := by
  induction n with
  | zero => intro p hp; cases hp
  | succ n ih =>
    intro p hp
    rw [kidsL, List.mem_append] at hp
    rcases hp with hp | hp
    · exact ih p hp
    · simp only [List.mem_cons, List.not_mem_nil, or_false] at hp
      subst hp
      have hb : Bytes ((r.drop (4 * n)).take 4) := (h.drop _).take _
      have h1 := numL_nonneg hb
      have h2 := numL_lt hb
      have h3 : (256 : Int) ^ ((r.drop (4 * n)).take 4).length ≤ 256 ^ 4 := by
        have hl : ((r.drop (4 * n)).take 4).length ≤ 4 := by rw [List.length_take]; omega
        exact (show ∀ k : Nat, k ≤ 4 → (256 : Int) ^ k ≤ 256 ^ 4 by intro k hk; match k, hk with | 0, _ => decide | 1, _ => decide | 2, _ => decide | 3, _ => decide | 4, _ => decide) _ hl
      have h4 : (256 : Int) ^ 4 = 4294967296 := by decide
      omega
set_option maxRecDepth 100000 in
theorem rb_head {b : List Int} (h : headB b 2 = false) : rbOk b = false := by unfold rbOk; rw [h]; rfl
set_option maxRecDepth 100000 in
theorem rb_bad {b : List Int} {k : Nat} (hk : k ≤ cnt b) (h : okK (b.drop 3) k = false) : rbOk b = false := by
  unfold rbOk; rw [okK_le hk h]; simp
set_option maxRecDepth 100000 in
theorem rb_code {b : List Int} (h : ¬ branchCode (rbKeys b) (rbKids b).length = 0) : rbOk b = false := by
  unfold rbOk; rw [decide_eq_false h]; simp
set_option maxRecDepth 100000 in
theorem rb_eq {b : List Int} (h : ¬ branchB (rbKeys b) (rbKids b) = b) : rbOk b = false := by
  unfold rbOk; rw [decide_eq_false h]; simp
set_option maxRecDepth 100000 in
theorem rb_yes {b : List Int} (h1 : headB b 2 = true) (h2 : okK (b.drop 3) (cnt b) = true) (h3 : branchCode (rbKeys b) (rbKids b).length = 0) (h4 : branchB (rbKeys b) (rbKids b) = b) : rbOk b = true := by
  unfold rbOk; rw [h1, h2, h3, h4]; simp
set_option maxRecDepth 100000 in
theorem restK_texts {ks : List ByteArray} (h : okKeys ks ks.length = true) (r : List Int) (n : Nat) (hn : n ≤ ks.length) : restK (keysB ks ++ r) n = keysB (ks.drop n) ++ r := by
  induction n with
  | zero => rfl
  | succ n ih =>
    have h1 := key_size h n (by omega)
    have e : ks.drop n = ks.getD n noStr :: ks.drop (n + 1) := by
      rw [List.drop_eq_getElem_cons (show n < ks.length by omega)]; simp [show n < ks.length by omega]
    rw [restK, ih (by omega), e]
    simp only [keysB, List.flatMap_cons, List.append_assoc]
    rw [gtRest_text _ _ _ h1 (by omega)]
set_option maxRecDepth 100000 in
theorem listK_texts {ks : List ByteArray} (h : okKeys ks ks.length = true) (r : List Int) (n : Nat) (hn : n ≤ ks.length) : listK (keysB ks ++ r) n = ks.take n ∧ okK (keysB ks ++ r) n = true := by
  induction n with
  | zero => exact ⟨rfl, rfl⟩
  | succ n ih =>
    obtain ⟨i1, i2⟩ := ih (by omega)
    have h1 := key_size h n (by omega)
    have e : ks.drop n = ks.getD n noStr :: ks.drop (n + 1) := by
      rw [List.drop_eq_getElem_cons (show n < ks.length by omega)]; simp [show n < ks.length by omega]
    have e2 : restK (keysB ks ++ r) n = textB (ks.getD n noStr) ++ (keysB (ks.drop (n + 1)) ++ r) := by
      rw [restK_texts h r n (by omega), e]
      simp only [keysB, List.flatMap_cons, List.append_assoc]
    rw [listK, okK, i1, i2, e2, gtStr_text _ _ _ h1 (by omega), gtCode_text _ _ _ h1 (by omega), take_snoc ks n noStr (by omega)]
    exact ⟨rfl, rfl⟩
set_option maxRecDepth 100000 in
theorem kidsL_back (kids : List Int) (hb : ∀ x ∈ kids, 0 ≤ x ∧ x < 4294967296) (n : Nat) (hn : n ≤ kids.length) : kidsL (kidsB kids) n = kids.take n := by
  have hd : ∀ n, n ≤ kids.length → (kidsB kids).drop (4 * n) = kidsB (kids.drop n) := by
    intro n
    induction n with
    | zero => intro _; rfl
    | succ n ih =>
      intro hn
      have e : kids.drop n = kids.getD n 0 :: kids.drop (n + 1) := by
        rw [List.drop_eq_getElem_cons (show n < kids.length by omega)]; simp [show n < kids.length by omega]
      have h1 := ih (by omega)
      rw [show 4 * (n + 1) = 4 * n + 4 by omega, ← List.drop_drop, h1, e]
      simp only [kidsB, List.flatMap_cons]
      rw [List.drop_append_of_le_length (by rw [be4_length]; omega), List.drop_of_length_le (by rw [be4_length]; omega), List.nil_append]
  induction n with
  | zero => rfl
  | succ n ih =>
    have e : kids.drop n = kids.getD n 0 :: kids.drop (n + 1) := by
      rw [List.drop_eq_getElem_cons (show n < kids.length by omega)]; simp [show n < kids.length by omega]
    have hm : kids.getD n 0 ∈ kids := by simp [show n < kids.length by omega]
    rw [kidsL, ih (by omega), hd n (by omega), e, take_snoc kids n 0 (by omega)]
    simp only [kidsB, List.flatMap_cons]
    rw [List.take_append_of_le_length (by rw [be4_length]; omega), List.take_of_length_le (l := be4 _) (by rw [be4_length]; omega), numL_be4 (hb _ hm)]
set_option maxRecDepth 100000 in
theorem branchB_eq (ks : List ByteArray) (kids : List Int) : branchB ks kids = 2 :: (ks.length : Int) / 256 % 256 :: (ks.length : Int) % 256 :: (keysB ks ++ kidsB kids) := by
  simp [branchB, be2]
set_option maxRecDepth 100000 in
theorem branchB_drop (ks : List ByteArray) (kids : List Int) : (branchB ks kids).drop 3 = keysB ks ++ kidsB kids := by rw [branchB_eq]; rfl
set_option maxRecDepth 100000 in
theorem branchB_cnt (ks : List ByteArray) (kids : List Int) (h : ks.length < 65536) : cnt (branchB ks kids) = ks.length := by
  rw [branchB_eq]; simp [cnt]; omega
set_option maxRecDepth 100000 in
theorem rb_back {ks : List ByteArray} {kids : List Int} (h : branchCode ks kids.length = 0) (hb : ∀ x ∈ kids, 0 ≤ x ∧ x < 4294967296) : rbOk (branchB ks kids) = true ∧ rbOutK (branchB ks kids) = ks ∧ rbOutI (branchB ks kids) = kids := by
  obtain ⟨⟨h1, h2, h3⟩, h4⟩ := branchCode_ok h
  have hl := ksz_len ks
  have hk : ks.length < 65536 := by unfold szB at h4; omega
  have e1 := branchB_drop ks kids
  have e2 := branchB_cnt ks kids hk
  obtain ⟨e3, e4⟩ := listK_texts h3 (kidsB kids) ks.length (Nat.le_refl _)
  rw [List.take_length] at e3
  have e5 : rbKeys (branchB ks kids) = ks := by rw [rbKeys, e1, e2, e3]
  have e6 : rbTail (branchB ks kids) = kidsB kids := by
    rw [rbTail, e1, e2, restK_texts h3 _ _ (Nat.le_refl _), List.drop_length]; rfl
  have e7 : rbKids (branchB ks kids) = kids := by
    rw [rbKids, e6, kidsB_length, Nat.mul_div_cancel_left _ (by omega), kidsL_back kids hb _ (Nat.le_refl _), List.take_length]
  have e8 : headB (branchB ks kids) 2 = true := by
    unfold headB
    rw [branchB_length]
    exact decide_eq_true ⟨by unfold szB; omega, h4, by rw [branchB_eq]; rfl⟩
  have e9 : rbOk (branchB ks kids) = true := by
    unfold rbOk
    rw [e1, e2, e4, e5, e7, e8, h]; simp
  exact ⟨e9, by rw [rbOutK, e9, if_pos rfl, e5], by rw [rbOutI, e9, if_pos rfl, e7]⟩
set_option maxRecDepth 100000 in
theorem rbOk_ok {b : List Int} (h : rbOk b = true) : branchCode (rbKeys b) (rbKids b).length = 0 ∧ branchB (rbKeys b) (rbKids b) = b := by
  unfold rbOk at h
  simp only [Bool.and_eq_true, decide_eq_true_eq] at h
  exact ⟨h.1.2, h.2⟩
set_option maxRecDepth 100000 in
theorem rb_leaf (l : List (ByteArray × ByteArray)) : rbOk (leafB l) = false := by
  have : headB (leafB l) 2 = false := by
    unfold headB
    have := leafB_head l []
    rw [List.append_nil] at this
    exact decide_eq_false (by rw [this]; omega)
  unfold rbOk; rw [this]; rfl
set_option maxRecDepth 100000 in
theorem rl_branch (ks : List ByteArray) (kids : List Int) : rlOk (branchB ks kids) = false := by
  have : headB (branchB ks kids) 1 = false := by
    unfold headB
    exact decide_eq_false (by rw [branchB_eq]; simp)
  unfold rlOk; rw [this]; rfl
end Go.Proofs.Ytnahflppggoplaa
