/- Paths as plain lists of bytes; no statement is proved here. -/
import Derived.Lib.Split
import Derived.Lib.Join
import Derived.Lib.IndexBytes
import Derived.Test.YtikmmheknfljkaaDoorAnyG
namespace Go.Proofs.YtikmmheknfljkaaDoor
open Go Go.RowKit

def noStr : ByteArray := ByteArray.empty
def bs (s : ByteArray) : List UInt8 := s.data.toList
def mkS (l : List UInt8) : ByteArray := ⟨l.toArray⟩
set_option maxRecDepth 100000 in
theorem bs_mkS (l : List UInt8) : bs (mkS l) = l := by simp [bs, mkS]
set_option maxRecDepth 100000 in
theorem mkS_bs (s : ByteArray) : mkS (bs s) = s := by cases s; simp [bs, mkS]
set_option maxRecDepth 100000 in
theorem bs_inj {a b : ByteArray} (h : bs a = bs b) : a = b := by rw [← mkS_bs a, ← mkS_bs b, h]
set_option maxRecDepth 100000 in
theorem mkS_inj {a b : List UInt8} (h : mkS a = mkS b) : a = b := by rw [← bs_mkS a, ← bs_mkS b, h]
set_option maxRecDepth 100000 in
theorem bs_length (s : ByteArray) : (bs s).length = s.size := by unfold bs; exact Array.length_toList
set_option maxRecDepth 100000 in
theorem mkS_size (l : List UInt8) : (mkS l).size = l.length := by rw [← bs_length, bs_mkS]
set_option maxRecDepth 100000 in
theorem bs_noStr : bs noStr = [] := rfl
set_option maxRecDepth 100000 in
theorem mkS_nil : mkS [] = noStr := rfl
set_option maxRecDepth 100000 in
theorem size_zero {s : ByteArray} (h : s.size = 0) : s = noStr := bs_inj (by rw [bs_noStr]; exact List.length_eq_zero_iff.1 (by rw [bs_length]; exact h))
set_option maxRecDepth 100000 in
theorem map_bs_mkS (l : List (List UInt8)) : (l.map mkS).map bs = l := by
  induction l with
  | nil => rfl
  | cons x l ih => rw [List.map_cons, List.map_cons, ih, bs_mkS]
set_option maxRecDepth 100000 in
theorem map_mkS_bs (l : List ByteArray) : (l.map bs).map mkS = l := by
  induction l with
  | nil => rfl
  | cons x l ih => rw [List.map_cons, List.map_cons, ih, mkS_bs]

/-! Segments. -/
def okc (x : Int) : Bool := (decide (97 ≤ x) && decide (x ≤ 122)) || (decide (48 ≤ x) && decide (x ≤ 57))
def okU (c : UInt8) : Bool := okc (c.toNat : Int)
def seg (l : List UInt8) : Bool := decide (1 ≤ l.length) && (decide (l.length ≤ 10) && l.all okU)
set_option maxRecDepth 100000 in
theorem okU_ne {c : UInt8} (h : okU c = true) : c ≠ 47 ∧ c ≠ 0 := by
  constructor
  · rintro rfl; revert h; decide
  · rintro rfl; revert h; decide
set_option maxRecDepth 100000 in
theorem seg_parts {l : List UInt8} (h : seg l = true) : 1 ≤ l.length ∧ l.length ≤ 10 ∧ ∀ c ∈ l, okU c = true := by
  simp only [seg, Bool.and_eq_true, decide_eq_true_eq, List.all_eq_true] at h
  exact ⟨h.1, h.2.1, h.2.2⟩
set_option maxRecDepth 100000 in
theorem seg_mk {l : List UInt8} (h1 : 1 ≤ l.length) (h2 : l.length ≤ 10) (h3 : ∀ c ∈ l, okU c = true) : seg l = true := by
  simp only [seg, Bool.and_eq_true, decide_eq_true_eq, List.all_eq_true]
  exact ⟨h1, h2, h3⟩
set_option maxRecDepth 100000 in
theorem seg_ne47 {l : List UInt8} (h : seg l = true) : 47 ∉ l := fun hc => (okU_ne ((seg_parts h).2.2 47 hc)).1 rfl
set_option maxRecDepth 100000 in
theorem seg_ne0 {l : List UInt8} (h : seg l = true) : 0 ∉ l := fun hc => (okU_ne ((seg_parts h).2.2 0 hc)).2 rfl
set_option maxRecDepth 100000 in
theorem seg_ne {l : List UInt8} (h : seg l = true) : l ≠ [] := by
  rintro rfl
  have := (seg_parts h).1
  simp at this

/-! A text parted by a sign. -/
def hang (x : UInt8) : List (List UInt8) → List (List UInt8)
  | [] => [[x]]
  | h :: r => (x :: h) :: r
def cut (c : UInt8) : List UInt8 → List (List UInt8)
  | [] => [[]]
  | x :: t => if x = c then [] :: cut c t else hang x (cut c t)
set_option maxRecDepth 100000 in
theorem hang_length (x : UInt8) {l : List (List UInt8)} (h : l ≠ []) : (hang x l).length = l.length := by
  cases l with
  | nil => exact absurd rfl h
  | cons a t => rfl
set_option maxRecDepth 100000 in
theorem cut_ne (c : UInt8) (l : List UInt8) : cut c l ≠ [] := by
  cases l with
  | nil => simp [cut]
  | cons x t =>
    rw [cut]
    split
    · simp
    · cases cut c t <;> simp [hang]
set_option maxRecDepth 100000 in
theorem cut_append (c : UInt8) {a : List UInt8} (h : c ∉ a) (t : List UInt8) : cut c (a ++ c :: t) = a :: cut c t := by
  induction a with
  | nil => simp [cut]
  | cons x a ih =>
    have hx : ¬ x = c := fun e => h (by simp [e])
    rw [List.cons_append, cut, if_neg hx, ih (fun hc => h (by simp [hc]))]
    rfl
set_option maxRecDepth 100000 in
theorem cut_none (c : UInt8) {a : List UInt8} (h : c ∉ a) : cut c a = [a] := by
  induction a with
  | nil => rfl
  | cons x a ih =>
    have hx : ¬ x = c := fun e => h (by simp [e])
    rw [cut, if_neg hx, ih (fun hc => h (by simp [hc]))]
    rfl
set_option maxRecDepth 100000 in
theorem cut_length_le (c : UInt8) (l : List UInt8) : (cut c l).length ≤ l.length + 1 := by
  induction l with
  | nil => simp [cut]
  | cons x t ih =>
    rw [cut]
    split
    · simp; omega
    · rw [hang_length x (cut_ne c t)]; simp; omega
set_option maxRecDepth 100000 in
/-- The first instance of a sign. -/
theorem first_of (c : UInt8) (l : List UInt8) (h : c ∈ l) : ∃ a t, l = a ++ c :: t ∧ c ∉ a := by
  induction l with
  | nil => cases h
  | cons x l ih =>
    by_cases hx : x = c
    · exact ⟨[], l, by rw [hx]; rfl, by simp⟩
    · obtain ⟨a, t, e, hn⟩ := ih ((List.mem_cons.1 h).resolve_left (fun e => hx e.symm))
      exact ⟨x :: a, t, by rw [e]; rfl, by simp [hn]; exact fun e => hx e.symm⟩

def jn (c : UInt8) (ks : List (List UInt8)) : List UInt8 := Lib.join ks [c]
set_option maxRecDepth 100000 in
theorem jn_nil (c : UInt8) : jn c [] = [] := rfl
set_option maxRecDepth 100000 in
theorem jn_one (c : UInt8) (k : List UInt8) : jn c [k] = k := Lib.join_one k [c]
set_option maxRecDepth 100000 in
theorem jn_cons (c : UInt8) (k q : List UInt8) (r : List (List UInt8)) : jn c (k :: q :: r) = k ++ c :: jn c (q :: r) := by
  simp [jn, Lib.join, List.intercalate]
set_option maxRecDepth 100000 in
theorem cut_jn (c : UInt8) : ∀ {ks : List (List UInt8)}, ks ≠ [] → (∀ k ∈ ks, c ∉ k) → cut c (jn c ks) = ks
  | [], h, _ => absurd rfl h
  | [k], _, hk => by rw [jn_one]; exact cut_none c (hk k (by simp))
  | k :: q :: r, _, hk => by rw [jn_cons, cut_append c (hk k (by simp)), cut_jn c (by simp) (fun x hx => hk x (List.mem_cons_of_mem _ hx))]
set_option maxRecDepth 100000 in
theorem jn_hang (c x : UInt8) {l : List (List UInt8)} (h : l ≠ []) : jn c (hang x l) = x :: jn c l := by
  match l, h with
  | [k], _ => simp [hang, jn_one]
  | k :: q :: r, _ => simp [hang, jn_cons]
set_option maxRecDepth 100000 in
theorem jn_empty (c : UInt8) {l : List (List UInt8)} (h : l ≠ []) : jn c ([] :: l) = c :: jn c l := by
  match l, h with
  | q :: r, _ => rw [jn_cons]; rfl
set_option maxRecDepth 100000 in
theorem jn_cut (c : UInt8) (l : List UInt8) : jn c (cut c l) = l := by
  induction l with
  | nil => exact jn_one c []
  | cons x t ih =>
    rw [cut]
    split
    · next e => rw [jn_empty c (cut_ne c t), ih, e]
    · rw [jn_hang c x (cut_ne c t), ih]
set_option maxRecDepth 100000 in
theorem cut_free (c : UInt8) (l : List UInt8) : ∀ k ∈ cut c l, c ∉ k := by
  induction l with
  | nil => intro k hk; simp [cut] at hk; simp [hk]
  | cons x t ih =>
    intro k hk
    rw [cut] at hk
    split at hk
    · rcases List.mem_cons.1 hk with rfl | hk
      · simp
      · exact ih k hk
    · next hx =>
      cases hc : cut c t with
      | nil => exact absurd hc (cut_ne c t)
      | cons a r =>
        rw [hc] at hk ih
        rcases List.mem_cons.1 hk with rfl | hk
        · intro hm
          rcases List.mem_cons.1 hm with e | hm
          · exact hx e.symm
          · exact ih a (by simp) hm
        · exact ih k (by simp [hk])
set_option maxRecDepth 100000 in
theorem jn_len (c : UInt8) : ∀ {ks : List (List UInt8)}, (∀ k ∈ ks, k.length ≤ 10) → (jn c ks).length ≤ 11 * ks.length
  | [], _ => by simp [jn_nil]
  | [k], h => by rw [jn_one]; have := h k (by simp); simp; omega
  | k :: q :: r, h => by
    have := h k (by simp)
    have h2 := jn_len c (ks := q :: r) (fun x hx => h x (List.mem_cons_of_mem _ hx))
    rw [jn_cons]
    simp only [List.length_append, List.length_cons] at h2 ⊢
    omega
set_option maxRecDepth 100000 in
theorem jn_ne (c : UInt8) : ∀ {ks : List (List UInt8)}, ks ≠ [] → (∀ k ∈ ks, k ≠ []) → jn c ks ≠ []
  | [], h, _ => absurd rfl h
  | [k], _, hk => by rw [jn_one]; exact hk k (by simp)
  | k :: q :: r, _, _ => by rw [jn_cons]; simp

/-! Paths. -/
def okSegs (ks : List (List UInt8)) : Bool := decide (ks.length ≤ 3) && ks.all seg
set_option maxRecDepth 100000 in
theorem okSegs_parts {ks : List (List UInt8)} (h : okSegs ks = true) : ks.length ≤ 3 ∧ ∀ k ∈ ks, seg k = true := by
  simp only [okSegs, Bool.and_eq_true, decide_eq_true_eq, List.all_eq_true] at h
  exact h
set_option maxRecDepth 100000 in
theorem okSegs_mk {ks : List (List UInt8)} (h1 : ks.length ≤ 3) (h2 : ∀ k ∈ ks, seg k = true) : okSegs ks = true := by
  simp only [okSegs, Bool.and_eq_true, decide_eq_true_eq, List.all_eq_true]
  exact ⟨h1, h2⟩
set_option maxRecDepth 100000 in
theorem okSegs_sub {ks qs : List (List UInt8)} (h : okSegs ks = true) (hl : qs.length ≤ ks.length) (hs : ∀ k ∈ qs, k ∈ ks) : okSegs qs = true :=
  okSegs_mk (Nat.le_trans hl (okSegs_parts h).1) (fun k hk => (okSegs_parts h).2 k (hs k hk))
def isP (l : List UInt8) : Bool := l.isEmpty || okSegs (cut 47 l)
def segsOf (l : List UInt8) : List (List UInt8) := if l.isEmpty || !isP l then [] else cut 47 l
set_option maxRecDepth 100000 in
theorem segsOf_ok (l : List UInt8) : okSegs (segsOf l) = true := by
  unfold segsOf
  split
  · rfl
  · next h =>
    simp only [Bool.or_eq_true, Bool.not_eq_true', not_or, Bool.not_eq_true, Bool.not_eq_false] at h
    have h2 := h.2
    simp only [isP, h.1, Bool.false_or] at h2
    exact h2
set_option maxRecDepth 100000 in
theorem segsOf_no {l : List UInt8} (h : isP l = false) : segsOf l = [] := by simp [segsOf, h]
set_option maxRecDepth 100000 in
theorem segsOf_path {l : List UInt8} (h : isP l = true) (h0 : l ≠ []) : segsOf l = cut 47 l := by
  have : l.isEmpty = false := by
    cases l with
    | nil => exact absurd rfl h0
    | cons _ _ => rfl
  simp [segsOf, h, this]
set_option maxRecDepth 100000 in
theorem jn_segsOf {l : List UInt8} (h : isP l = true) : jn 47 (segsOf l) = l := by
  by_cases h0 : l = []
  · subst h0; rfl
  · rw [segsOf_path h h0, jn_cut]
set_option maxRecDepth 100000 in
theorem isP_jn {ks : List (List UInt8)} (h : okSegs ks = true) : isP (jn 47 ks) = true ∧ segsOf (jn 47 ks) = ks := by
  cases ks with
  | nil => exact ⟨rfl, rfl⟩
  | cons k r =>
    have hp := okSegs_parts h
    have hc := cut_jn 47 (ks := k :: r) (by simp) (fun x hx => seg_ne47 (hp.2 x hx))
    have hi : isP (jn 47 (k :: r)) = true := by rw [isP, hc, h, Bool.or_true]
    exact ⟨hi, by rw [segsOf_path hi (jn_ne 47 (by simp) (fun x hx => seg_ne (hp.2 x hx))), hc]⟩
set_option maxRecDepth 100000 in
theorem segsOf_ne {l : List UInt8} (h : isP l = true) (h0 : l ≠ []) : segsOf l ≠ [] := by rw [segsOf_path h h0]; exact cut_ne 47 l
set_option maxRecDepth 100000 in
theorem segsOf_inj {a b : List UInt8} (ha : isP a = true) (hb : isP b = true) (h : segsOf a = segsOf b) : a = b := by
  rw [← jn_segsOf ha, ← jn_segsOf hb, h]

/-! Codes. -/
def codeOf : List (List UInt8) → List UInt8
  | [] => []
  | k :: r => k ++ 0 :: codeOf r
set_option maxRecDepth 100000 in
theorem codeOf_append (a b : List (List UInt8)) : codeOf (a ++ b) = codeOf a ++ codeOf b := by
  induction a with
  | nil => rfl
  | cons k a ih => simp [codeOf, ih]
set_option maxRecDepth 100000 in
theorem codeOf_jn {ks : List (List UInt8)} (h : ks ≠ []) : codeOf ks = jn 0 ks ++ [0] := by
  match ks, h with
  | [k], _ => simp [codeOf, jn_one]
  | k :: q :: r, _ => rw [codeOf, codeOf_jn (ks := q :: r) (by simp), jn_cons]; simp
set_option maxRecDepth 100000 in
theorem codeOf_len {ks : List (List UInt8)} (h : ∀ k ∈ ks, k.length ≤ 10) : (codeOf ks).length ≤ 11 * ks.length := by
  induction ks with
  | nil => simp [codeOf]
  | cons k r ih =>
    have h1 := h k (by simp)
    have h2 := ih (fun x hx => h x (List.mem_cons_of_mem _ hx))
    simp only [codeOf, List.length_append, List.length_cons]
    omega
set_option maxRecDepth 100000 in
/-- Two lists that begin with a sign-free piece and the sign. -/
theorem piece_eq {c : UInt8} : ∀ {a b s t : List UInt8}, c ∉ a → c ∉ b → a ++ c :: s = b ++ c :: t → a = b ∧ s = t
  | [], [], s, t, _, _, h => by simp at h; exact ⟨rfl, h⟩
  | [], y :: b, s, t, _, hb, h => by simp at h; exact absurd h.1 (fun e => hb (by simp [e]))
  | x :: a, [], s, t, ha, _, h => by simp at h; exact absurd h.1 (fun e => ha (by simp [e]))
  | x :: a, y :: b, s, t, ha, hb, h => by
    simp only [List.cons_append, List.cons.injEq] at h
    obtain ⟨e1, e2⟩ := piece_eq (fun hc => ha (by simp [hc])) (fun hc => hb (by simp [hc])) h.2
    exact ⟨by rw [h.1, e1], e2⟩
set_option maxRecDepth 100000 in
theorem codeOf_prefix : ∀ {ks qs : List (List UInt8)}, (∀ k ∈ ks, 0 ∉ k) → (∀ k ∈ qs, 0 ∉ k) → (codeOf ks <+: codeOf qs ↔ ks <+: qs)
  | [], qs, _, _ => by simp [codeOf]
  | k :: ks, [], _, _ => by simp [codeOf]
  | k :: ks, q :: qs, hk, hq => by
    have ih := codeOf_prefix (ks := ks) (qs := qs) (fun x hx => hk x (List.mem_cons_of_mem _ hx)) (fun x hx => hq x (List.mem_cons_of_mem _ hx))
    constructor
    · rintro ⟨t, ht⟩
      simp only [codeOf, List.append_assoc, List.cons_append] at ht
      obtain ⟨e1, e2⟩ := piece_eq (hk k (by simp)) (hq q (by simp)) ht
      rw [e1]
      exact List.cons_prefix_cons.2 ⟨rfl, ih.1 ⟨t, e2⟩⟩
    · intro h
      obtain ⟨rfl, h2⟩ := List.cons_prefix_cons.1 h
      obtain ⟨t, ht⟩ := ih.2 h2
      exact ⟨t, by simp [codeOf, ← ht]⟩
set_option maxRecDepth 100000 in
theorem codeOf_inj {ks qs : List (List UInt8)} (hk : ∀ k ∈ ks, 0 ∉ k) (hq : ∀ k ∈ qs, 0 ∉ k) (h : codeOf ks = codeOf qs) : ks = qs := by
  have h1 := (codeOf_prefix hk hq).1 ⟨[], by simp [h]⟩
  have h2 := (codeOf_prefix hq hk).1 ⟨[], by simp [h]⟩
  exact h1.eq_of_length (Nat.le_antisymm h1.length_le h2.length_le)
set_option maxRecDepth 100000 in
theorem code_free (l : List UInt8) : ∀ k ∈ segsOf l, 0 ∉ k := fun k hk => seg_ne0 ((okSegs_parts (segsOf_ok l)).2 k hk)
set_option maxRecDepth 100000 in
theorem code_inj {a b : List UInt8} (ha : isP a = true) (hb : isP b = true) (h : codeOf (segsOf a) = codeOf (segsOf b)) : a = b :=
  segsOf_inj ha hb (codeOf_inj (code_free a) (code_free b) h)

/-! What is read of a code. -/
def decOk (l : List UInt8) : Bool := l.isEmpty || (decide (l.getLast? = some 0) && okSegs (cut 0 l.dropLast))
def decOf (l : List UInt8) : List UInt8 := if l.isEmpty || !decOk l then [] else jn 47 (cut 0 l.dropLast)
set_option maxRecDepth 100000 in
theorem dec_code {ks : List (List UInt8)} (h : okSegs ks = true) : decOk (codeOf ks) = true ∧ decOf (codeOf ks) = jn 47 ks := by
  by_cases h0 : ks = []
  · subst h0; exact ⟨rfl, rfl⟩
  · have hp := okSegs_parts h
    have e1 : (codeOf ks).getLast? = some 0 := by rw [codeOf_jn h0]; simp
    have e2 : (codeOf ks).dropLast = jn 0 ks := by rw [codeOf_jn h0]; simp
    have e3 : cut 0 (codeOf ks).dropLast = ks := by rw [e2]; exact cut_jn 0 h0 (fun k hk => seg_ne0 (hp.2 k hk))
    have e4 : (codeOf ks).isEmpty = false := by rw [codeOf_jn h0]; simp
    have e5 : decOk (codeOf ks) = true := by simp [decOk, e1, e3, h]
    exact ⟨e5, by simp [decOf, e4, e5, e3]⟩
set_option maxRecDepth 100000 in
/-- The document's way to read a code. -/
theorem dec_ref {m : List UInt8} : okSegs (cut 0 m) = true ↔ (jn 47 (cut 0 m) ≠ [] ∧ codeOf (segsOf (jn 47 (cut 0 m))) = m ++ [0]) := by
  constructor
  · intro h
    have hp := okSegs_parts h
    refine ⟨jn_ne 47 (cut_ne 0 m) (fun k hk => seg_ne (hp.2 k hk)), ?_⟩
    rw [(isP_jn h).2, codeOf_jn (cut_ne 0 m), jn_cut]
  · rintro ⟨_, h⟩
    generalize hq : segsOf (jn 47 (cut 0 m)) = qs at h
    have hqs : okSegs qs = true := hq ▸ segsOf_ok _
    have hne : qs ≠ [] := by rintro rfl; simp [codeOf] at h
    rw [codeOf_jn hne] at h
    have h2 : jn 0 qs = m := by simpa using h
    rw [← h2, cut_jn 0 hne (fun k hk => seg_ne0 ((okSegs_parts hqs).2 k hk))]
    exact hqs
end Go.Proofs.YtikmmheknfljkaaDoor
