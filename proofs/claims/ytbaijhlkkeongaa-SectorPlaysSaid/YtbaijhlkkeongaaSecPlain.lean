/- The plain disk of sectors: what is kept, what is pending, the steps, the power; and what each call makes of it. -/
import Derived.Test.YtbaijhlkkeongaaAnyG
import Derived.Maps.OwnSet
import Derived.Maps.RangeWalk
import Derived.Lib.SlKeysI
namespace Go.Proofs.Ytbaijhlkkeongaa
open Go Go.RowKit Go.Maps

def upf {α : Type} (f : Nat → α) (i : Nat) (x : α) : Nat → α := fun j => if j = i then x else f j
set_option maxRecDepth 100000 in
theorem upf_same {α : Type} (f : Nat → α) (i : Nat) (x : α) : upf f i x i = x := by simp [upf]
set_option maxRecDepth 100000 in
theorem upf_other {α : Type} (f : Nat → α) {i j : Nat} (x : α) (h : j ≠ i) : upf f i x j = f j := by simp [upf, h]
def flatK (ds : Nat → List Int) : Nat → List Int
  | 0 => []
  | n + 1 => flatK ds n ++ ds n
set_option maxRecDepth 100000 in
theorem flatK_length (ds : Nat → List Int) : ∀ n, (∀ i, i < n → (ds i).length = 64) → (flatK ds n).length = n * 64
  | 0, _ => rfl
  | n + 1, h => by
    rw [flatK, List.length_append, flatK_length ds n (fun i hi => h i (by omega)), h n (by omega)]
    omega
set_option maxRecDepth 100000 in
theorem flatK_congr (ds es : Nat → List Int) : ∀ n, (∀ i, i < n → ds i = es i) → flatK ds n = flatK es n
  | 0, _ => rfl
  | n + 1, h => by rw [flatK, flatK, flatK_congr ds es n (fun i hi => h i (by omega)), h n (by omega)]
set_option maxRecDepth 100000 in
theorem flatK_at (ds : Nat → List Int) (n i : Nat) (h : ∀ i, i < n → (ds i).length = 64) (hi : i < n) : ((flatK ds n).drop (i * 64)).take 64 = ds i := by
  induction n with
  | zero => omega
  | succ n ih =>
    have hl := flatK_length ds n (fun i hi => h i (by omega))
    rw [flatK]
    by_cases he : i = n
    · subst he
      rw [List.drop_append, List.drop_of_length_le (by omega), hl, Nat.sub_self, List.drop_zero, List.nil_append, List.take_of_length_le (by rw [h i (by omega)]; exact Nat.le_refl _)]
    · rw [List.drop_append_of_le_length (by omega), List.take_append_of_le_length (by rw [List.length_drop]; omega)]
      exact ih (fun i hi => h i (by omega)) (by omega)
set_option maxRecDepth 100000 in
theorem flatK_upf (ds : Nat → List Int) (i : Nat) (x : List Int) : ∀ n, n ≤ i → flatK (upf ds i x) n = flatK ds n := fun n hn =>
  flatK_congr _ _ n (fun j hj => upf_other ds x (by omega))
set_option maxRecDepth 100000 in
theorem flatK_set (ds : Nat → List Int) (n i : Nat) (x : List Int) (h : ∀ i, i < n → (ds i).length = 64) (hx : x.length = 64) (hi : i < n) : splice (flatK ds n) (i * 64) x = flatK (upf ds i x) n := by
  induction n with
  | zero => omega
  | succ n ih =>
    have hl := flatK_length ds n (fun i hi => h i (by omega))
    have hn := h n (by omega)
    rw [flatK, flatK]
    by_cases he : i = n
    · subst he
      rw [flatK_upf ds i x i (Nat.le_refl _), upf_same]
      unfold splice
      rw [List.take_append_of_le_length (by omega), List.take_of_length_le (by omega), List.drop_of_length_le (by rw [List.length_append, hl, hn, hx]; omega), List.append_nil]
    · rw [upf_other ds x (fun e => he e.symm), ← ih (fun i hi => h i (by omega)) (by omega)]
      unfold splice
      rw [List.take_append_of_le_length (by omega), List.drop_append_of_le_length (by omega)]
      simp
set_option maxRecDepth 100000 in
theorem Bytes.flatK (ds : Nat → List Int) : ∀ n, (∀ i, i < n → Bytes (ds i)) → Bytes (flatK ds n)
  | 0, _ => by intro x hx; cases hx
  | n + 1, h => (Bytes.flatK ds n (fun i hi => h i (by omega))).append (h n (by omega))

/-- A disk. -/
structure Dk where
  n : Nat
  kept : Nat → List Int
  pend : Nat → Option (List Int)
  steps : Int
  left : Int
  off : Bool
structure Dk.Ok (d : Dk) : Prop where
  n : d.n ≤ 4000
  kept : ∀ i, i < d.n → (d.kept i).length = 64
  keptB : ∀ i, i < d.n → Bytes (d.kept i)
  pend : ∀ i l, d.pend i = some l → i < d.n ∧ l.length = 64 ∧ Bytes l
def Dk.now (d : Dk) (i : Nat) : List Int := (d.pend i).getD (d.kept i)
set_option maxRecDepth 100000 in
theorem Dk.Ok.now {d : Dk} (h : d.Ok) {i : Nat} (hi : i < d.n) : (d.now i).length = 64 := by
  unfold Dk.now
  cases hp : d.pend i with
  | none => exact h.kept i hi
  | some l => exact (h.pend i l hp).2.1
set_option maxRecDepth 100000 in
theorem Dk.Ok.nowB {d : Dk} (h : d.Ok) {i : Nat} (hi : i < d.n) : Bytes (d.now i) := by
  unfold Dk.now
  cases hp : d.pend i with
  | none => exact h.keptB i hi
  | some l => exact (h.pend i l hp).2.2
def zeroK : List Int := List.replicate 64 0
set_option maxRecDepth 100000 in
theorem zeroK_length : zeroK.length = 64 := by simp [zeroK]
set_option maxRecDepth 100000 in
theorem zeroK_bytes : Bytes zeroK := Bytes.zeros 64
def Dk.new (n : Nat) : Dk := ⟨n, fun _ => zeroK, fun _ => none, 0, 0, false⟩
set_option maxRecDepth 100000 in
theorem Dk.new_ok (n : Nat) (h : n ≤ 4000) : (Dk.new n).Ok := ⟨h, fun _ _ => zeroK_length, fun _ _ => zeroK_bytes, fun _ _ h => by cases h⟩
/-- A step is counted. -/
def Dk.step (d : Dk) : Dk := { d with steps := d.steps + 1, left := if 0 < d.left then d.left - 1 else d.left, off := if 0 < d.left then decide (d.left - 1 = 0) else d.off }
set_option maxRecDepth 100000 in
theorem Dk.step_ok {d : Dk} (h : d.Ok) : d.step.Ok := ⟨h.n, h.kept, h.keptB, h.pend⟩
set_option maxRecDepth 100000 in
theorem Dk.step_now (d : Dk) (i : Nat) : d.step.now i = d.now i := rfl
def Dk.put (d : Dk) (i : Nat) (l : List Int) : Dk := { d with pend := upf d.pend i (some l) }
set_option maxRecDepth 100000 in
theorem Dk.put_ok {d : Dk} (h : d.Ok) {i : Nat} {l : List Int} (hi : i < d.n) (hl : l.length = 64) (hb : Bytes l) : (d.put i l).Ok := by
  refine ⟨h.n, h.kept, h.keptB, fun j x hx => ?_⟩
  by_cases he : j = i
  · subst he
    simp only [Dk.put, upf_same, Option.some.injEq] at hx
    subst hx
    exact ⟨hi, hl, hb⟩
  · simp only [Dk.put, upf_other d.pend _ he] at hx
    exact h.pend j x hx
/-- What a sector is behind a write of bytes that go in. -/
def over (old bs : List Int) : List Int := bs ++ old.drop bs.length
set_option maxRecDepth 100000 in
theorem over_length {old bs : List Int} (h : old.length = 64) (hb : bs.length ≤ 64) : (over old bs).length = 64 := by simp [over]; omega
set_option maxRecDepth 100000 in
theorem over_bytes {old bs : List Int} (h : Bytes old) (hb : Bytes bs) : Bytes (over old bs) := hb.append (h.drop _)
set_option maxRecDepth 100000 in
theorem splice_over (old bs : List Int) : splice old 0 bs = over old bs := by simp [splice, over]
def Dk.fits (d : Dk) (i : Int) (bs : List Int) : Bool := decide (0 ≤ i ∧ i < d.n) && decide (bs.length ≤ 64)
def Dk.write (d : Dk) (i : Int) (bs : List Int) : Dk :=
  if d.step.off = false ∧ d.fits i bs = true then d.step.put i.toNat (over (d.now i.toNat) bs) else d.step
def Dk.wcode (d : Dk) (i : Int) (bs : List Int) : Int := if d.step.off = true then 61 else if d.fits i bs = true then 0 else 60
def Dk.has (d : Dk) (i : Int) : Bool := decide (0 ≤ i ∧ i < d.n)
def Dk.rcode (d : Dk) (i : Int) : Int := if d.off = true then 61 else if d.has i = true then 0 else 60
def Dk.read (d : Dk) (i : Int) : List Int := if d.off = true then [] else if d.has i = true then d.now i.toNat else []
def Dk.flushed (d : Dk) : Dk := { d with kept := d.now, pend := fun _ => none }
set_option maxRecDepth 100000 in
theorem Dk.flushed_ok {d : Dk} (h : d.Ok) : d.flushed.Ok := ⟨h.n, fun _ hi => h.now hi, fun _ hi => h.nowB hi, fun _ _ hh => by cases hh⟩
def Dk.flush (d : Dk) : Dk := if d.step.off = true then d.step else d.step.flushed
def Dk.fcode (d : Dk) : Int := if d.step.off = true then 61 else 0
def Dk.power (d : Dk) (a : Int) : Dk := if d.off = true then d else { d with left := max a 0 }
set_option maxRecDepth 100000 in
theorem Dk.power_ok {d : Dk} (h : d.Ok) (a : Int) : (d.power a).Ok := by
  unfold Dk.power
  split
  · exact h
  · exact ⟨h.n, h.kept, h.keptB, h.pend⟩
set_option maxRecDepth 100000 in
theorem Dk.write_ok {d : Dk} (h : d.Ok) {i : Int} {bs : List Int} (hb : Bytes bs) : (d.write i bs).Ok := by
  unfold Dk.write
  split
  · rename_i hh
    simp only [Dk.fits, Bool.and_eq_true, decide_eq_true_eq] at hh
    have hi : i.toNat < d.n := by omega
    exact Dk.put_ok (Dk.step_ok h) hi (over_length (h.now hi) hh.2.2) (over_bytes (h.nowB hi) hb)
  · exact Dk.step_ok h
/-- How much of what was written a choice spares; what a crash leaves of a sector. -/
def spared (c : Int) : Nat := if c = 255 then 64 else (c % 64).toNat
def tornOf (k l : List Int) (c : Int) : List Int := l.take (spared c) ++ k.drop (spared c)
set_option maxRecDepth 100000 in
theorem spared_le (c : Int) : spared c ≤ 64 := by unfold spared; split <;> omega
set_option maxRecDepth 100000 in
theorem tornOf_length {k l : List Int} (hk : k.length = 64) (hl : l.length = 64) (c : Int) : (tornOf k l c).length = 64 := by
  have := spared_le c
  simp [tornOf, hk, hl]; omega
set_option maxRecDepth 100000 in
theorem tornOf_bytes {k l : List Int} (hk : Bytes k) (hl : Bytes l) (c : Int) : Bytes (tornOf k l c) := (hl.take _).append (hk.drop _)
/-- The pending sectors below i. -/
def Dk.pens (d : Dk) (i : Nat) : List Nat := (List.range i).filter fun j => (d.pend j).isSome
def Dk.rank (d : Dk) (i : Nat) : Nat := (d.pens i).length
/-- What is kept when the first k pending sectors have been crashed. -/
def Dk.keptAt (d : Dk) (cs : List Int) (k : Nat) (i : Nat) : List Int :=
  match d.pend i with
  | none => d.kept i
  | some l => if d.rank i < k then tornOf (d.kept i) l (cs.getD (d.rank i) 0) else d.kept i
def Dk.crash (d : Dk) (cs : List Int) : Dk := { d with left := 0, off := false, kept := d.keptAt cs (d.rank d.n), pend := fun _ => none }
set_option maxRecDepth 100000 in
theorem Dk.keptAt_ok {d : Dk} (h : d.Ok) (cs : List Int) (k i : Nat) (hi : i < d.n) : (d.keptAt cs k i).length = 64 ∧ Bytes (d.keptAt cs k i) := by
  unfold Dk.keptAt
  cases hp : d.pend i with
  | none => exact ⟨h.kept i hi, h.keptB i hi⟩
  | some l =>
    obtain ⟨_, h1, h2⟩ := h.pend i l hp
    simp only
    split
    · exact ⟨tornOf_length (h.kept i hi) h1 _, tornOf_bytes (h.keptB i hi) h2 _⟩
    · exact ⟨h.kept i hi, h.keptB i hi⟩
set_option maxRecDepth 100000 in
theorem Dk.crash_ok {d : Dk} (h : d.Ok) (cs : List Int) : (d.crash cs).Ok :=
  ⟨h.n, fun i hi => (Dk.keptAt_ok h cs _ i hi).1, fun i hi => (Dk.keptAt_ok h cs _ i hi).2, fun _ _ hh => by cases hh⟩
set_option maxRecDepth 100000 in
theorem Dk.pens_at (d : Dk) (n i : Nat) (hi : i < n) (hp : (d.pend i).isSome = true) : (d.pens n)[d.rank i]? = some i := by
  have e : List.range n = List.range i ++ (i :: (List.range (n - i - 1)).map (· + (i + 1))) := by
    apply List.ext_getElem?
    intro j
    simp only [List.getElem?_append, List.length_range]
    by_cases h1 : j < i
    · simp [h1, show j < n by omega]
    · rw [if_neg h1]
      by_cases h2 : j = i
      · subst h2; simp [hi]
      · obtain ⟨m, hm⟩ : ∃ m, j = i + 1 + m := ⟨j - i - 1, by omega⟩
        subst hm
        have : i + 1 + m - i = m + 1 := by omega
        rw [this, List.getElem?_cons_succ]
        by_cases h3 : m < n - i - 1
        · simp [h3, show i + 1 + m < n by omega]; omega
        · rw [List.getElem?_eq_none (by simp; omega), List.getElem?_eq_none (by simp; omega)]
  unfold Dk.pens Dk.rank Dk.pens
  rw [e, List.filter_append, List.filter_cons_of_pos (p := fun j => (d.pend j).isSome) hp, List.getElem?_append_right (Nat.le_refl _), Nat.sub_self]
  rfl
set_option maxRecDepth 100000 in
theorem Dk.pens_nodup (d : Dk) (n : Nat) : (d.pens n).Nodup := List.Nodup.sublist List.filter_sublist List.nodup_range
set_option maxRecDepth 100000 in
theorem Dk.pens_mem (d : Dk) (n i : Nat) : i ∈ d.pens n ↔ (i < n ∧ (d.pend i).isSome = true) := by simp [Dk.pens]
set_option maxRecDepth 100000 in
theorem Dk.pens_rank (d : Dk) (n k i : Nat) (h : (d.pens n)[k]? = some i) : d.rank i = k := by
  have hm := (d.pens_mem n i).1 (List.mem_of_getElem? h)
  have h2 := d.pens_at n i hm.1 hm.2
  have h3 : d.rank i < (d.pens n).length := by
    rcases Nat.lt_or_ge (d.rank i) (d.pens n).length with h' | h'
    · exact h'
    · rw [List.getElem?_eq_none h'] at h2; cases h2
  have h4 : k < (d.pens n).length := by
    rcases Nat.lt_or_ge k (d.pens n).length with h' | h'
    · exact h'
    · rw [List.getElem?_eq_none h'] at h; cases h
  exact (List.getElem?_inj h3 (d.pens_nodup n)).1 (h2.trans h.symm)
set_option maxRecDepth 100000 in
theorem Dk.rank_lt (d : Dk) (n i : Nat) (hi : i < n) (hp : (d.pend i).isSome = true) : d.rank i < d.rank n := by
  have h2 := d.pens_at n i hi hp
  rcases Nat.lt_or_ge (d.rank i) (d.pens n).length with h' | h'
  · exact h'
  · rw [List.getElem?_eq_none h'] at h2; cases h2
set_option maxRecDepth 100000 in
theorem Dk.rank_le (d : Dk) (n : Nat) : d.rank n ≤ n := by
  unfold Dk.rank Dk.pens
  exact Nat.le_trans (List.length_filter_le _ _) (by simp)
set_option maxRecDepth 100000 in
theorem Dk.keptAt_zero (d : Dk) (cs : List Int) (i : Nat) : d.keptAt cs 0 i = d.kept i := by
  unfold Dk.keptAt
  cases d.pend i <;> simp
set_option maxRecDepth 100000 in
theorem Dk.keptAt_step (d : Dk) (cs : List Int) (n k i : Nat) (l : List Int) (h : (d.pens n)[k]? = some i) (hp : d.pend i = some l) :
    d.keptAt cs (k + 1) = upf (d.keptAt cs k) i (tornOf (d.keptAt cs k i) l (cs.getD k 0)) := by
  have hr := d.pens_rank n k i h
  funext j
  by_cases he : j = i
  · subst he
    rw [upf_same]
    simp [Dk.keptAt, hp, hr]
  · rw [upf_other _ _ he]
    unfold Dk.keptAt
    cases hj : d.pend j with
    | none => rfl
    | some x =>
      simp only
      have hne : d.rank j ≠ k := by
        intro e
        apply he
        by_cases hjn : j < n
        · have h2 := d.pens_at n j hjn (by rw [hj]; rfl)
          rw [e, h] at h2
          exact (Option.some.inj h2).symm
        · have hm := (d.pens_mem n i).1 (List.mem_of_getElem? h)
          have h2 := d.rank_lt j i (by omega) hm.2
          omega
      by_cases h5 : d.rank j < k
      · rw [if_pos h5, if_pos (by omega)]
      · rw [if_neg h5, if_neg (by omega)]
set_option maxRecDepth 100000 in
theorem getD_out (cs : List Int) (k : Nat) (h : ¬ k < cs.length) : cs.getD k 0 = 0 := by
  rw [List.getD_eq_getElem?_getD, List.getElem?_eq_none (by omega)]; rfl
end Go.Proofs.Ytbaijhlkkeongaa
