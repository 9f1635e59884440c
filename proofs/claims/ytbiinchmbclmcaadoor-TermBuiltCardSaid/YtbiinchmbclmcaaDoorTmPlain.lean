/- Terms of secrets as plain trees: what they count, whether they are some, their texts; no statement is proved here. -/
import Derived.Lib.Strings
import Derived.Test.YtbiinchmbclmcaaDoorAnyG
namespace Go.Proofs.YtbiinchmbclmcaaDoor
open Go Go.RowKit
def noStr : ByteArray := ByteArray.empty
def bs (s : ByteArray) : List UInt8 := s.data.toList
def mkS (l : List UInt8) : ByteArray := ⟨l.toArray⟩
set_option maxRecDepth 100000 in
theorem bs_mkS (l : List UInt8) : bs (mkS l) = l := by simp [bs, mkS]
set_option maxRecDepth 100000 in
theorem mkS_bs (s : ByteArray) : mkS (bs s) = s := by cases s; simp [bs, mkS]
set_option maxRecDepth 100000 in
theorem bs_inj {a b : ByteArray} (h : bs a = bs b) : a = b := by rw [← mkS_bs a, ← mkS_bs b, h]
set_option maxRecDepth 100000 in
theorem mkS_inj {a b : List UInt8} (h : mkS a = mkS b) : a = b := by rw [← bs_mkS a, ← bs_mkS b, h]
set_option maxRecDepth 100000 in
theorem bs_length (s : ByteArray) : (bs s).length = s.size := by unfold bs; exact Array.length_toList
set_option maxRecDepth 100000 in
theorem mkS_size (l : List UInt8) : (mkS l).size = l.length := by rw [← bs_length, bs_mkS]
set_option maxRecDepth 100000 in
theorem bs_noStr : bs noStr = [] := rfl
set_option maxRecDepth 100000 in
theorem mkS_nil : mkS [] = noStr := rfl
set_option maxRecDepth 100000 in
theorem size_zero {s : ByteArray} (h : s.size = 0) : s = noStr := bs_inj (by rw [bs_noStr]; exact List.length_eq_zero_iff.1 (by rw [bs_length]; exact h))
/-- A tree: kind, number, kids. -/
structure Tm where
  k : Int
  n : Int
  m : Nat
  kid : Fin m → Tm
def Tm.l (t : Tm) : List Tm := List.ofFn t.kid
def mkT (k n : Int) (l : List Tm) : Tm := ⟨k, n, l.length, fun i => l[i.1]⟩
set_option maxRecDepth 100000 in
theorem mkT_l (k n : Int) (l : List Tm) : (mkT k n l).l = l := by
  apply List.ext_getElem
  · simp [Tm.l, mkT]
  · intro i h1 h2; simp [Tm.l, mkT]
set_option maxRecDepth 100000 in
theorem Tm.len (t : Tm) : t.l.length = t.m := by simp [Tm.l]
set_option maxRecDepth 100000 in
theorem Tm.eq_of {a b : Tm} (h1 : a.k = b.k) (h2 : a.n = b.n) (h : a.l = b.l) : a = b := by
  have h3 : a.m = b.m := by rw [← a.len, ← b.len, h]
  obtain ⟨k, n, m, f⟩ := a
  obtain ⟨k', n', m', g⟩ := b
  simp only at h1 h2 h3
  subst h1 h2 h3
  congr
  funext i
  have h4 := congrArg (·[i.1]?) h
  simpa [Tm.l] using h4
set_option maxRecDepth 100000 in
theorem Tm.eta (t : Tm) : mkT t.k t.n t.l = t := Tm.eq_of rfl rfl (mkT_l _ _ _)
set_option maxRecDepth 100000 in
theorem Tm.ind {P : Tm → Prop} (h : ∀ t : Tm, (∀ x ∈ t.l, P x) → P t) (t : Tm) : P t := by
  induction t with
  | mk k n m kid ih =>
    refine h _ fun x hx => ?_
    obtain ⟨i, rfl⟩ := List.mem_ofFn.1 hx
    exact ih i
def foldT {α : Type} (f : Tm → List α → α) : Tm → α
  | ⟨k, n, m, kid⟩ => f ⟨k, n, m, kid⟩ (List.ofFn fun i => foldT f (kid i))
set_option maxRecDepth 100000 in
theorem foldT_eq {α : Type} (f : Tm → List α → α) (t : Tm) : foldT f t = f t (t.l.map (foldT f)) := by
  obtain ⟨k, n, m, kid⟩ := t
  rw [foldT, Tm.l, List.map_ofFn]
  rfl
/-! How many. -/
def cnt : Tm → Nat := foldT (fun _ r => 1 + r.sum)
set_option maxRecDepth 100000 in
theorem cnt_eq (t : Tm) : cnt t = 1 + (t.l.map cnt).sum := foldT_eq _ t
set_option maxRecDepth 100000 in
theorem cnt_pos (t : Tm) : 0 < cnt t := by rw [cnt_eq]; omega
set_option maxRecDepth 100000 in
theorem sum_mem {l : List Tm} {x : Tm} (h : x ∈ l) : cnt x ≤ (l.map cnt).sum := by
  induction l with
  | nil => cases h
  | cons y l ih =>
    simp only [List.map_cons, List.sum_cons]
    rcases List.mem_cons.1 h with rfl | h
    · omega
    · have := ih h; omega
set_option maxRecDepth 100000 in
theorem cnt_lt {t x : Tm} (h : x ∈ t.l) : cnt x < cnt t := by
  have := sum_mem h
  rw [cnt_eq t]
  omega
/-! Whether it is one. -/
def kn (k : Int) : Nat := if k = 3 ∨ k = 4 then 2 else if k = 5 then 1 else 0
def nb (k : Int) : Bool := decide (k = 1 ∨ k = 2 ∨ k = 5)
def okF (k n : Int) (m : Nat) : Bool := decide (1 ≤ k ∧ k ≤ 5) && decide (m = kn k) && (if nb k then decide (0 ≤ n ∧ n ≤ 99) else decide (n = 0))
def okT : Tm → Bool := foldT (fun t r => okF t.k t.n t.m && r.all id)
set_option maxRecDepth 100000 in
theorem okT_eq (t : Tm) : okT t = (okF t.k t.n t.l.length && t.l.all okT) := by
  rw [okT, foldT_eq, Tm.len, List.all_map]; rfl
set_option maxRecDepth 100000 in
theorem okT_kid {t x : Tm} (h : okT t = true) (hx : x ∈ t.l) : okT x = true := by
  rw [okT_eq, Bool.and_eq_true] at h
  exact List.all_eq_true.1 h.2 x hx
set_option maxRecDepth 100000 in
theorem okT_okF {t : Tm} (h : okT t = true) : okF t.k t.n t.l.length = true := by
  rw [okT_eq, Bool.and_eq_true] at h; exact h.1
set_option maxRecDepth 100000 in
theorem okF_len {k n : Int} {m : Nat} (h : okF k n m = true) : m = kn k := by
  simp only [okF, Bool.and_eq_true, decide_eq_true_iff] at h; exact h.1.2
set_option maxRecDepth 100000 in
theorem okF_k {k n : Int} {m : Nat} (h : okF k n m = true) : 1 ≤ k ∧ k ≤ 5 := by
  simp only [okF, Bool.and_eq_true, decide_eq_true_iff] at h; exact h.1.1
set_option maxRecDepth 100000 in
theorem okF_n {k n : Int} {m : Nat} (h : okF k n m = true) : 0 ≤ n ∧ n ≤ 99 := by
  simp only [okF, Bool.and_eq_true, decide_eq_true_iff] at h
  have := h.2
  split at this
  · simpa using this
  · simp at this; omega
set_option maxRecDepth 100000 in
theorem okF_n0 {k n : Int} {m : Nat} (h : okF k n m = true) (hk : nb k = false) : n = 0 := by
  simp only [okF, Bool.and_eq_true, decide_eq_true_iff, hk] at h
  simpa using h.2
def isT (t : Tm) : Bool := decide (cnt t ≤ 60) && okT t
set_option maxRecDepth 100000 in
theorem isT_iff {t : Tm} : isT t = true ↔ cnt t ≤ 60 ∧ okT t = true := by simp [isT]
set_option maxRecDepth 100000 in
theorem isT_kid {t x : Tm} (h : isT t = true) (hx : x ∈ t.l) : isT x = true := by
  rw [isT_iff] at h ⊢
  have := cnt_lt hx
  exact ⟨by omega, okT_kid h.2 hx⟩
/-! Texts. -/
def dig (n : Int) : List UInt8 := if n < 10 then [UInt8.ofNat (48 + n.toNat)] else [UInt8.ofNat (48 + n.toNat / 10), UInt8.ofNat (48 + n.toNat % 10)]
def wd (k : Int) : List UInt8 := if k = 1 then [110] else if k = 2 then [107] else if k = 3 then [115, 101, 97, 108] else if k = 5 then [100] else []
def jnB : List (List UInt8) → List UInt8
  | [] => []
  | [x] => x
  | x :: y :: r => x ++ 44 :: jnB (y :: r)
def hdT (k n : Int) : List UInt8 := wd k ++ if nb k then dig n else []
def txt : Tm → List UInt8 := foldT (fun t r => hdT t.k t.n ++ if kn t.k = 0 then [] else 40 :: (jnB r ++ [41]))
set_option maxRecDepth 100000 in
theorem txt_eq (t : Tm) : txt t = hdT t.k t.n ++ if kn t.k = 0 then [] else 40 :: (jnB (t.l.map txt) ++ [41]) := foldT_eq _ t
set_option maxRecDepth 100000 in
theorem wd_len (k : Int) : (wd k).length ≤ 4 ∧ (nb k = true → (wd k).length ≤ 1) := by
  unfold wd nb
  repeat' split
  all_goals simp
  all_goals omega
set_option maxRecDepth 100000 in
theorem dig_len (n : Int) : 1 ≤ (dig n).length ∧ (dig n).length ≤ 2 := by
  unfold dig; split <;> simp
set_option maxRecDepth 100000 in
theorem hdT_len (k n : Int) : (hdT k n).length ≤ 4 := by
  have h1 := wd_len k
  have h2 := dig_len n
  unfold hdT
  rw [List.length_append]
  split
  · have := h1.2 (by assumption); omega
  · have := h1.1; simp; omega
set_option maxRecDepth 100000 in
theorem jnB_len (l : List (List UInt8)) : (jnB l).length ≤ (l.map List.length).sum + (l.length - 1) := by
  induction l with
  | nil => simp [jnB]
  | cons x l ih =>
    cases l with
    | nil => simp [jnB]
    | cons y r =>
      simp only [jnB, List.length_append, List.length_cons, List.map_cons, List.sum_cons] at ih ⊢
      omega
set_option maxRecDepth 100000 in
theorem txt_sum {l : List Tm} (h : ∀ x ∈ l, (txt x).length ≤ 8 * cnt x) : ((l.map txt).map List.length).sum ≤ 8 * (l.map cnt).sum := by
  induction l with
  | nil => simp
  | cons x l ih =>
    have h1 := h x (List.mem_cons_self ..)
    have h2 := ih (fun y hy => h y (List.mem_cons_of_mem _ hy))
    simp only [List.map_cons, List.sum_cons] at h2 ⊢
    omega
set_option maxRecDepth 100000 in
theorem txt_len (t : Tm) : okT t = true → (txt t).length ≤ 8 * cnt t := by
  induction t using Tm.ind with
  | h t ih =>
    intro ho
    have h1 := hdT_len t.k t.n
    have h2 := jnB_len (t.l.map txt)
    have h3 := txt_sum (fun x hx => ih x hx (okT_kid ho hx))
    have h4 := okF_len (okT_okF ho)
    have h5 : kn t.k ≤ 2 := by unfold kn; split <;> (try split) <;> omega
    rw [txt_eq, cnt_eq, List.length_append]
    split
    · simp; omega
    · simp only [List.length_cons, List.length_append, List.length_nil, List.length_map] at h2 ⊢
      omega
/-! The reader, as the program has it: what is left, how many terms there may still be. -/
def isDig (b : UInt8) : Bool := decide (48 ≤ b.toNat ∧ b.toNat ≤ 57)
def dv (b : UInt8) : Int := (b.toNat : Int) - 48
def ldg (s : List UInt8) : List UInt8 := s.takeWhile isDig
def numV (d : List UInt8) : Option Int :=
  match d with
  | [a] => some (dv a)
  | [a, b] => if a = 48 then none else some (10 * dv a + dv b)
  | _ => none
def kdOf (s : List UInt8) : Int := if Lib.hasPrefix s [110] then 1 else if Lib.hasPrefix s [107] then 2 else if Lib.hasPrefix s [115, 101, 97, 108] then 3 else if Lib.hasPrefix s [100] then 5 else 4
def rdNum (k : Int) (s : List UInt8) : Option (Int × List UInt8) := if nb k then (numV (ldg s)).map (fun n => (n, s.drop (ldg s).length)) else some (0, s)
def rdK (g : Nat → List UInt8 → Option (Tm × List UInt8 × Nat)) : Nat → UInt8 → List UInt8 → Nat → Option (List Tm × List UInt8 × Nat)
  | 0, _, s, r => some ([], s, r)
  | j + 1, mark, s, r => if Lib.hasPrefix s [mark] then
      match g r (s.drop 1) with
      | none => none
      | some (t, s2, r2) => match rdK g j 44 s2 r2 with
        | none => none
        | some (l, s3, r3) => some (t :: l, s3, r3)
    else none
def rdT : Nat → Nat → List UInt8 → Option (Tm × List UInt8 × Nat)
  | 0, _, _ => none
  | f + 1, room, s => if room = 0 then none else
    match rdNum (kdOf s) (s.drop (wd (kdOf s)).length) with
    | none => none
    | some (n, s2) => if kn (kdOf s) = 0 then some (mkT (kdOf s) n [], s2, room - 1) else
      match rdK (rdT f) (kn (kdOf s)) 40 s2 (room - 1) with
      | none => none
      | some (l, s3, r3) => if Lib.hasPrefix s3 [41] then some (mkT (kdOf s) n l, s3.drop 1, r3) else none
set_option maxRecDepth 100000 in
theorem hp_one {s : List UInt8} {c : UInt8} (h : Lib.hasPrefix s [c] = true) : s = c :: s.drop 1 := by
  cases s with
  | nil => simp [Lib.hasPrefix] at h
  | cons x s => simp [Lib.hasPrefix] at h; subst h; rfl
set_option maxRecDepth 100000 in
theorem hp_app {s p : List UInt8} (h : Lib.hasPrefix s p = true) : s = p ++ s.drop p.length := by
  obtain ⟨r, rfl⟩ := List.isPrefixOf_iff_prefix.1 h
  simp
set_option maxRecDepth 100000 in
theorem hp_of (p r : List UInt8) : Lib.hasPrefix (p ++ r) p = true := List.isPrefixOf_iff_prefix.2 ⟨r, rfl⟩
set_option maxRecDepth 100000 in
theorem kdOf_range (s : List UInt8) : 1 ≤ kdOf s ∧ kdOf s ≤ 5 := by
  unfold kdOf; repeat' split
  all_goals omega
set_option maxRecDepth 100000 in
theorem kdOf_word (s : List UInt8) : s = wd (kdOf s) ++ s.drop (wd (kdOf s)).length := by
  unfold kdOf
  repeat' split
  · exact hp_app (p := [110]) (by assumption)
  · exact hp_app (p := [107]) (by assumption)
  · exact hp_app (p := [115, 101, 97, 108]) (by assumption)
  · exact hp_app (p := [100]) (by assumption)
  · rfl
set_option maxRecDepth 100000 in
theorem dig_byte {a : UInt8} (h : isDig a = true) : UInt8.ofNat (48 + (a.toNat - 48)) = a ∧ 48 ≤ a.toNat ∧ a.toNat ≤ 57 := by
  simp only [isDig, decide_eq_true_iff] at h
  refine ⟨?_, h.1, h.2⟩
  rw [show 48 + (a.toNat - 48) = a.toNat by omega]
  exact UInt8.ofNat_toNat ..
set_option maxRecDepth 100000 in
theorem numV_dig {d : List UInt8} (h : ∀ b ∈ d, isDig b = true) {n : Int} (hn : numV d = some n) : dig n = d ∧ 0 ≤ n ∧ n ≤ 99 := by
  unfold numV at hn
  split at hn
  · rename_i a
    obtain ⟨h1, h2, h3⟩ := dig_byte (h a (by simp))
    simp only [Option.some.injEq] at hn
    subst hn
    unfold dv dig
    rw [if_pos (by omega), show ((a.toNat : Int) - 48).toNat = a.toNat - 48 by omega, h1]
    exact ⟨rfl, by omega, by omega⟩
  · rename_i a b
    obtain ⟨h1, h2, h3⟩ := dig_byte (h a (by simp))
    obtain ⟨h4, h5, h6⟩ := dig_byte (h b (by simp))
    split at hn
    · cases hn
    · rename_i ha
      have ha2 : a.toNat ≠ 48 := fun he => ha (UInt8.toNat.inj (by rw [he]; rfl))
      simp only [Option.some.injEq] at hn
      subst hn
      unfold dv dig
      rw [if_neg (by omega)]
      have e1 : (10 * ((a.toNat : Int) - 48) + ((b.toNat : Int) - 48)).toNat = 10 * (a.toNat - 48) + (b.toNat - 48) := by omega
      rw [e1, show (10 * (a.toNat - 48) + (b.toNat - 48)) / 10 = a.toNat - 48 by omega, show (10 * (a.toNat - 48) + (b.toNat - 48)) % 10 = b.toNat - 48 by omega, h1, h4]
      exact ⟨rfl, by omega, by omega⟩
  · cases hn
set_option maxRecDepth 100000 in
theorem dig_isDig {n : Int} (h0 : 0 ≤ n) (h1 : n ≤ 99) : ∀ b ∈ dig n, isDig b = true := by
  have key : ∀ x : Nat, x < 10 → isDig (UInt8.ofNat (48 + x)) = true := by
    intro x hx
    simp only [isDig, decide_eq_true_iff, UInt8.toNat_ofNat']
    omega
  intro b hb
  unfold dig at hb
  split at hb
  · rw [List.mem_singleton.1 hb]; exact key _ (by omega)
  · rcases List.mem_cons.1 hb with rfl | hb
    · exact key _ (by omega)
    · rw [List.mem_singleton.1 hb]; exact key _ (by omega)
set_option maxRecDepth 100000 in
theorem numV_of {n : Int} (h0 : 0 ≤ n) (h1 : n ≤ 99) : numV (dig n) = some n := by
  have key : ∀ x : Nat, x < 10 → (UInt8.ofNat (48 + x)).toNat = 48 + x := by
    intro x hx
    simp only [UInt8.toNat_ofNat']
    omega
  unfold dig
  split
  · show some (((UInt8.ofNat (48 + n.toNat)).toNat : Int) - 48) = some n
    rw [key _ (by omega)]
    congr 1; omega
  · have h2 : n.toNat / 10 < 10 := by omega
    have h3 : n.toNat % 10 < 10 := by omega
    show (if UInt8.ofNat (48 + n.toNat / 10) = 48 then none else some (10 * (((UInt8.ofNat (48 + n.toNat / 10)).toNat : Int) - 48) + (((UInt8.ofNat (48 + n.toNat % 10)).toNat : Int) - 48))) = some n
    rw [if_neg, key _ h2, key _ h3]
    · congr 1; omega
    · intro he
      have := congrArg UInt8.toNat he
      rw [key _ h2] at this
      have e : (48 : UInt8).toNat = 48 := rfl
      rw [e] at this
      omega
/-- No digit comes next. -/
def noD (s : List UInt8) : Prop := ∀ c r, s = c :: r → isDig c = false
set_option maxRecDepth 100000 in
theorem noD_nil : noD [] := by intro c r h; cases h
set_option maxRecDepth 100000 in
theorem noD_cons {c : UInt8} {r : List UInt8} (h : isDig c = false) : noD (c :: r) := by intro c' r' he; cases he; exact h
set_option maxRecDepth 100000 in
theorem ldg_app {d s : List UInt8} (h : ∀ b ∈ d, isDig b = true) (hs : noD s) : ldg (d ++ s) = d := by
  unfold ldg
  induction d with
  | nil =>
    cases s with
    | nil => rfl
    | cons c r => simp [hs c r rfl]
  | cons x d ih => rw [List.cons_append, List.takeWhile_cons, h x (List.mem_cons_self ..), if_pos rfl, ih (fun b hb => h b (List.mem_cons_of_mem _ hb))]
set_option maxRecDepth 100000 in
theorem ldg_all (s : List UInt8) : ∀ b ∈ ldg s, isDig b = true := by
  intro b hb
  unfold ldg at hb
  induction s with
  | nil => cases hb
  | cons x s ih =>
    rw [List.takeWhile_cons] at hb
    split at hb
    · rcases List.mem_cons.1 hb with rfl | hb
      · assumption
      · exact ih hb
    · cases hb
set_option maxRecDepth 100000 in
theorem ldg_split (s : List UInt8) : s = ldg s ++ s.drop (ldg s).length := by
  unfold ldg
  induction s with
  | nil => rfl
  | cons x s ih =>
    rw [List.takeWhile_cons]
    split
    · rw [List.length_cons, List.drop_succ_cons, List.cons_append, ← ih]
    · rfl
set_option maxRecDepth 100000 in
theorem rdNum_sound {k : Int} {s s2 : List UInt8} {n : Int} (h : rdNum k s = some (n, s2)) : s = (if nb k then dig n else []) ++ s2 ∧ (nb k = true → 0 ≤ n ∧ n ≤ 99) ∧ (nb k = false → n = 0) := by
  unfold rdNum at h
  cases hk : nb k with
  | true =>
    rw [hk] at h
    simp only [if_true, Option.map_eq_some_iff, Prod.mk.injEq] at h
    obtain ⟨m, hm, rfl, rfl⟩ := h
    obtain ⟨h1, h2, h3⟩ := numV_dig (ldg_all s) hm
    refine ⟨?_, fun _ => ⟨h2, h3⟩, fun h => by cases h⟩
    rw [if_pos rfl, h1]
    exact ldg_split s
  | false =>
    rw [hk] at h
    simp only [Bool.false_eq_true, if_false, Option.some.injEq, Prod.mk.injEq] at h
    obtain ⟨rfl, rfl⟩ := h
    exact ⟨rfl, (fun h => by cases h), fun _ => rfl⟩
set_option maxRecDepth 100000 in
theorem rdNum_full {k n : Int} {m : Nat} (h : okF k n m = true) {s : List UInt8} (hs : nb k = true → noD s) : rdNum k ((if nb k then dig n else []) ++ s) = some (n, s) := by
  unfold rdNum
  cases hk : nb k with
  | true =>
    obtain ⟨h0, h1⟩ := okF_n h
    simp only [if_true]
    rw [ldg_app (dig_isDig h0 h1) (hs hk), numV_of h0 h1]
    simp
  | false =>
    have := okF_n0 h hk
    subst this
    rfl
/-! What it reads is a term's text. -/
def txtK (mark : UInt8) : List Tm → List UInt8
  | [] => []
  | t :: l => mark :: (txt t ++ txtK 44 l)
set_option maxRecDepth 100000 in
theorem txtK_jn (l : List Tm) (h : l ≠ []) : txtK 40 l = 40 :: jnB (l.map txt) := by
  cases l with
  | nil => exact absurd rfl h
  | cons t l =>
    rw [txtK]
    congr 1
    induction l generalizing t with
    | nil => simp [txtK, jnB]
    | cons u l ih => rw [txtK, ih u (by simp)]; rfl
set_option maxRecDepth 100000 in
theorem txt_k {k n : Int} {l : List Tm} (h : kn k ≠ 0) (hl : l.length = kn k) : txt (mkT k n l) = hdT k n ++ txtK 40 l ++ [41] := by
  have hne : l ≠ [] := by intro he; subst he; exact h hl.symm
  rw [txt_eq, mkT_l, txtK_jn l hne]
  show hdT k n ++ (if kn k = 0 then _ else _) = _
  rw [if_neg h]
  simp
set_option maxRecDepth 100000 in
theorem txt_0 {k n : Int} (h : kn k = 0) : txt (mkT k n []) = hdT k n := by
  rw [txt_eq]
  show hdT k n ++ (if kn k = 0 then _ else _) = _
  rw [if_pos h, List.append_nil]
set_option maxRecDepth 100000 in
theorem cnt_mk (k n : Int) (l : List Tm) : cnt (mkT k n l) = 1 + (l.map cnt).sum := by rw [cnt_eq, mkT_l]
set_option maxRecDepth 100000 in
theorem ok_mk (k n : Int) (l : List Tm) : okT (mkT k n l) = (okF k n l.length && l.all okT) := by rw [okT_eq, mkT_l]; rfl
def Sound (g : Nat → List UInt8 → Option (Tm × List UInt8 × Nat)) : Prop := ∀ r s t s2 r2, g r s = some (t, s2, r2) → s = txt t ++ s2 ∧ okT t = true ∧ r = r2 + cnt t
set_option maxRecDepth 100000 in
theorem rdK_sound {g : Nat → List UInt8 → Option (Tm × List UInt8 × Nat)} (hg : Sound g) : ∀ (j : Nat) (mark : UInt8) (s : List UInt8) (r : Nat) (l : List Tm) (s2 : List UInt8) (r2 : Nat), rdK g j mark s r = some (l, s2, r2) → s = txtK mark l ++ s2 ∧ l.length = j ∧ l.all okT = true ∧ r = r2 + (l.map cnt).sum := by
  intro j
  induction j with
  | zero =>
    intro mark s r l s2 r2 h
    simp only [rdK, Option.some.injEq, Prod.mk.injEq] at h
    obtain ⟨rfl, rfl, rfl⟩ := h
    exact ⟨rfl, rfl, rfl, rfl⟩
  | succ j ih =>
    intro mark s r l s2 r2 h
    rw [rdK] at h
    split at h
    · rename_i hp
      split at h
      · cases h
      · rename_i t s3 r3 h3
        split at h
        · cases h
        · rename_i l4 s4 r4 h4
          simp only [Option.some.injEq, Prod.mk.injEq] at h
          obtain ⟨rfl, rfl, rfl⟩ := h
          obtain ⟨a1, a2, a3⟩ := hg _ _ _ _ _ h3
          obtain ⟨b1, b2, b3, b4⟩ := ih _ _ _ _ _ _ h4
          refine ⟨?_, by simp [b2], by simp [a2, b3], by simp; omega⟩
          rw [hp_one hp, a1, b1, txtK]
          simp
    · cases h
set_option maxRecDepth 100000 in
theorem rdT_sound : ∀ f, Sound (rdT f) := by
  intro f
  induction f with
  | zero => intro r s t s2 r2 h; cases h
  | succ f ih =>
    intro r s t s2 r2 h
    rw [rdT] at h
    split at h
    · cases h
    · rename_i hr
      split at h
      · cases h
      · rename_i n s3 h3
        obtain ⟨c1, c2, c3⟩ := rdNum_sound h3
        have hw : s = hdT (kdOf s) n ++ s3 := by
          rw [hdT, List.append_assoc, ← c1]
          exact kdOf_word s
        have hok : ∀ m, m = kn (kdOf s) → okF (kdOf s) n m = true := by
          intro m hm
          have hr := kdOf_range s
          simp only [okF, Bool.and_eq_true, decide_eq_true_iff]
          refine ⟨⟨hr, hm⟩, ?_⟩
          cases hk : nb (kdOf s) with
          | true => simpa using c2 hk
          | false => simpa using c3 hk
        split at h
        · rename_i hk0
          simp only [Option.some.injEq, Prod.mk.injEq] at h
          obtain ⟨rfl, rfl, rfl⟩ := h
          refine ⟨by rw [txt_0 hk0]; exact hw, ?_, by rw [cnt_mk]; simp; omega⟩
          rw [ok_mk, hok _ (by rw [hk0]; rfl)]; rfl
        · rename_i hk0
          split at h
          · cases h
          · rename_i l s4 r4 h4
            obtain ⟨b1, b2, b3, b4⟩ := rdK_sound ih _ _ _ _ _ _ _ h4
            split at h
            · rename_i hp
              simp only [Option.some.injEq, Prod.mk.injEq] at h
              obtain ⟨rfl, rfl, rfl⟩ := h
              refine ⟨?_, ?_, by rw [cnt_mk]; omega⟩
              · rw [txt_k hk0 b2]
                refine hw.trans ?_
                rw [b1, hp_one hp]
                simp
              · rw [ok_mk, hok _ b2, b3]; rfl
            · cases h
/-! And it reads each of them. -/
set_option maxRecDepth 100000 in
theorem hp_mark (c : UInt8) (r : List UInt8) : Lib.hasPrefix (c :: r) [c] = true := hp_of [c] r
set_option maxRecDepth 100000 in
theorem txtK_head {l : List Tm} (s : List UInt8) : noD (txtK 44 l ++ 41 :: s) := by
  cases l with
  | nil => exact noD_cons rfl
  | cons t l => exact noD_cons rfl
def Full (b : Nat) (g : Nat → List UInt8 → Option (Tm × List UInt8 × Nat)) : Prop := ∀ t, okT t = true → ∀ r s, cnt t ≤ r → cnt t ≤ b → noD s → g r (txt t ++ s) = some (t, s, r - cnt t)
set_option maxRecDepth 100000 in
theorem rdK_full {b : Nat} {g : Nat → List UInt8 → Option (Tm × List UInt8 × Nat)} (hg : Full b g) : ∀ (l : List Tm) (mark : UInt8) (s : List UInt8) (r : Nat), l.all okT = true → (l.map cnt).sum ≤ r → (l.map cnt).sum ≤ b → rdK g l.length mark (txtK mark l ++ 41 :: s) r = some (l, 41 :: s, r - (l.map cnt).sum) := by
  intro l
  induction l with
  | nil => intro mark s r _ _ _; rfl
  | cons t l ih =>
    intro mark s r ho hr hb
    simp only [List.all_cons, Bool.and_eq_true] at ho
    simp only [List.map_cons, List.sum_cons] at hr hb
    rw [List.length_cons, rdK, txtK, List.cons_append, hp_mark, if_pos rfl, List.drop_succ_cons, List.drop_zero, List.append_assoc, hg t ho.1 r _ (by omega) (by omega) (txtK_head s)]
    simp only
    rw [ih 44 s (r - cnt t) ho.2 (by omega) (by omega)]
    simp
    omega
set_option maxRecDepth 100000 in
theorem kdOf_hd {k n : Int} {m : Nat} (h : okF k n m = true) (s : List UInt8) (hs : k = 4 → ∃ r, s = 40 :: r) : kdOf (hdT k n ++ s) = k := by
  have hr := okF_k h
  have : k = 1 ∨ k = 2 ∨ k = 3 ∨ k = 4 ∨ k = 5 := by omega
  rcases this with rfl | rfl | rfl | rfl | rfl
  · rfl
  · rfl
  · rfl
  · obtain ⟨r, rfl⟩ := hs rfl; rfl
  · rfl
set_option maxRecDepth 100000 in
theorem rdT_full : ∀ f, Full f (rdT f) := by
  intro f
  induction f with
  | zero => intro t _ r s h1 h2; have := cnt_pos t; omega
  | succ f ih =>
    intro t ho r s hr hb hs
    obtain ⟨k, n, l, rfl⟩ : ∃ k n l, t = mkT k n l := ⟨t.k, t.n, t.l, t.eta.symm⟩
    rw [ok_mk, Bool.and_eq_true] at ho
    rw [cnt_mk] at hr hb ⊢
    have hl := okF_len ho.1
    by_cases hk0 : kn k = 0
    · have hl0 : l = [] := List.eq_nil_of_length_eq_zero (by omega)
      subst hl0
      rw [txt_0 hk0, rdT, if_neg (by omega)]
      have hkd : kdOf (hdT k n ++ s) = k := kdOf_hd ho.1 s (fun h => by subst h; exact absurd hk0 (by decide))
      rw [hkd, hdT, List.append_assoc, List.drop_append_of_le_length (Nat.le_refl _), List.drop_length, List.nil_append, rdNum_full ho.1 (fun _ => hs)]
      simp only [hk0, if_true]
      simp
    · rw [txt_k hk0 hl, rdT, if_neg (by omega)]
      have hne : l ≠ [] := by intro he; subst he; exact hk0 hl.symm
      have hx : ∃ x, txtK 40 l ++ [41] ++ s = 40 :: x := by
        cases l with
        | nil => exact absurd rfl hne
        | cons t l => exact ⟨_, rfl⟩
      have e1 : hdT k n ++ txtK 40 l ++ [41] ++ s = hdT k n ++ (txtK 40 l ++ [41] ++ s) := by simp
      have e2 : txtK 40 l ++ [41] ++ s = txtK 40 l ++ 41 :: s := by simp
      rw [e1]
      have hkd : kdOf (hdT k n ++ (txtK 40 l ++ [41] ++ s)) = k := kdOf_hd ho.1 _ (fun _ => hx)
      have hnd : noD (txtK 40 l ++ [41] ++ s) := by obtain ⟨x, hx⟩ := hx; rw [hx]; exact noD_cons rfl
      rw [hkd, hdT, List.append_assoc, List.drop_append_of_le_length (Nat.le_refl _), List.drop_length, List.nil_append, rdNum_full ho.1 (fun _ => hnd)]
      simp only [hk0, if_false]
      rw [e2, ← hl, rdK_full ih l 40 s (r - 1) ho.2 (by omega) (by omega)]
      simp only [hp_mark, if_true, List.drop_succ_cons, List.drop_zero]
      congr 3
      omega
def parseT (s : List UInt8) : Option Tm :=
  match rdT 60 60 s with
  | some (t, [], _) => some t
  | _ => none
set_option maxRecDepth 100000 in
theorem parseT_some {s : List UInt8} {t : Tm} : parseT s = some t ↔ isT t = true ∧ txt t = s := by
  rw [isT_iff]
  constructor
  · intro h
    unfold parseT at h
    split at h
    · rename_i t' r hq
      simp only [Option.some.injEq] at h
      subst h
      obtain ⟨h1, h2, h3⟩ := rdT_sound _ _ _ _ _ _ hq
      rw [List.append_nil] at h1
      exact ⟨⟨by omega, h2⟩, h1.symm⟩
    · cases h
  · rintro ⟨⟨h1, h2⟩, rfl⟩
    have := rdT_full 60 t h2 60 [] h1 h1 noD_nil
    rw [List.append_nil] at this
    unfold parseT
    rw [this]
set_option maxRecDepth 100000 in
theorem txt_inj {a b : Tm} (ha : okT a = true) (hb : okT b = true) (h : txt a = txt b) : a = b := by
  have h1 := rdT_full (cnt a + cnt b) a ha (cnt a + cnt b) [] (by omega) (by omega) noD_nil
  have h2 := rdT_full (cnt a + cnt b) b hb (cnt a + cnt b) [] (by omega) (by omega) noD_nil
  rw [h, h2] at h1
  simp only [Option.some.injEq, Prod.mk.injEq] at h1
  exact h1.1.symm
end Go.Proofs.YtbiinchmbclmcaaDoor
