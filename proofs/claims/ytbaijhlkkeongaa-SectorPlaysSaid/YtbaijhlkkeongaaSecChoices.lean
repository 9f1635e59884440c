/- Choices, plain. -/
import Derived.Test.YtbaijhlkkeongaaSecOwn
namespace Go.Proofs.Ytbaijhlkkeongaa
open Go Go.RowKit Go.Maps

def bls (l : List Bool) : List Value := l.map Value.bool
set_option maxRecDepth 100000 in
theorem bls_get (l : List Bool) (i : Nat) (h : i < l.length) : (bls l)[i]? = some (.bool (l.getD i false)) := by simp [bls, h]
def oneK : List Int := over zeroK [1]
set_option maxRecDepth 100000 in
theorem oneK_length : oneK.length = 64 := by decide
def wantAt (f : Nat → Int) (i : Nat) : List Int := (List.range 6).map (fun j => if j < i then f j else 0)
set_option maxRecDepth 100000 in
theorem wantAt_length (f : Nat → Int) (i : Nat) : (wantAt f i).length = 6 := by simp [wantAt]
set_option maxRecDepth 100000 in
theorem wantAt_zero (f : Nat → Int) : wantAt f 0 = List.replicate 6 0 := by simp [wantAt]; decide
set_option maxRecDepth 100000 in
theorem wantAt_set (f : Nat → Int) (i : Nat) (hi : i < 6) : (wantAt f i).set i (f i) = wantAt f (i + 1) := by
  apply List.ext_getElem?
  intro j
  rw [List.getElem?_set]
  unfold wantAt
  by_cases hj : i = j
  · subst hj
    simp [hi]
  · rw [if_neg hj]
    simp only [List.getElem?_map]
    cases hq : (List.range 6)[j]? with
    | none => rfl
    | some k =>
      have hk : k = j := by
        rcases Nat.lt_or_ge j 6 with h | h
        · rw [List.getElem?_range h] at hq; exact (Option.some.inj hq).symm
        · rw [List.getElem?_eq_none (by simpa using h)] at hq; cases hq
      subst hk
      simp only [Option.map_some]
      by_cases h1 : k < i
      · rw [if_pos h1, if_pos (by omega)]
      · rw [if_neg h1, if_neg (by omega)]
set_option maxRecDepth 100000 in
theorem wantAt_same (f : Nat → Int) (i : Nat) (h0 : f i = 0) : wantAt f i = wantAt f (i + 1) := by
  unfold wantAt
  apply List.map_congr_left
  intro j _
  by_cases h1 : j < i
  · rw [if_pos h1, if_pos (by omega)]
  · rw [if_neg h1]
    by_cases h2 : j < i + 1
    · have : j = i := by omega
      subst this
      rw [if_pos h2, h0]
    · rw [if_neg h2]
set_option maxRecDepth 100000 in
theorem wantAt_get (f : Nat → Int) (j : Nat) (hj : j < 6) : (wantAt f 6).getD j 0 = f j := by
  unfold wantAt
  simp [hj]
def fin6 (F W C : Nat → Bool) (j : Nat) : Int := if W j = true ∧ C j = true then 2 else if F j = true then 1 else 0
def pick6 (C : Nat → Bool) (j : Nat) : Int := if C j = true then 255 else 0
def chs (W C : Nat → Bool) (i : Nat) : List Int := ((List.range i).filter W).map (pick6 C)
set_option maxRecDepth 100000 in
theorem chs_pos (W C : Nat → Bool) (i : Nat) (h : W i = true) : chs W C (i + 1) = chs W C i ++ [pick6 C i] := by simp [chs, List.range_succ, List.filter_append, h]
set_option maxRecDepth 100000 in
theorem chs_neg (W C : Nat → Bool) (i : Nat) (h : W i = false) : chs W C (i + 1) = chs W C i := by simp [chs, List.range_succ, List.filter_append, h]
set_option maxRecDepth 100000 in
theorem chs_bytes (W C : Nat → Bool) (i : Nat) : Bytes (chs W C i) := by
  intro x hx
  obtain ⟨j, _, rfl⟩ := List.mem_map.1 hx
  unfold pick6
  split <;> omega
set_option maxRecDepth 100000 in
theorem chs_length (W C : Nat → Bool) (i : Nat) : (chs W C i).length ≤ i := by
  unfold chs
  rw [List.length_map]
  exact Nat.le_trans (List.length_filter_le _ _) (by simp)
def keptF (F : Nat → Bool) (j : Nat) : List Int := if F j = true then oneK else zeroK
structure Dk.C1 (d : Dk) (F : Nat → Bool) (i : Nat) : Prop where
  calm : d.Calm
  n : d.n = 6
  steps : d.steps ≤ (i : Int)
  now : ∀ j, j < 6 → d.now j = if j < i ∧ F j = true then oneK else zeroK
set_option maxRecDepth 100000 in
theorem Dk.C1.num {d : Dk} {F : Nat → Bool} {i : Nat} (h : d.C1 F i) (hi : i ≤ 100) : d.Num := h.calm.num (by have := h.steps; omega)
set_option maxRecDepth 100000 in
theorem c1_new (F : Nat → Bool) : (Dk.new 6).C1 F 0 := ⟨Dk.calm_new 6, rfl, by simp [Dk.new], fun j _ => by simp [Dk.new, Dk.now]⟩
set_option maxRecDepth 100000 in
theorem Dk.C1.skip {d : Dk} {F : Nat → Bool} {i : Nat} (h : d.C1 F i) (hF : F i = false) : d.C1 F (i + 1) := by
  refine ⟨h.calm, h.n, by have := h.steps; omega, fun j hj => ?_⟩
  rw [h.now j hj]
  by_cases he : j = i
  · subst he; simp [hF]
  · have : (j < i + 1) ↔ (j < i) := by omega
    simp [this]
set_option maxRecDepth 100000 in
theorem Dk.C1.write {d : Dk} {F : Nat → Bool} {i : Nat} (h : d.C1 F i) (hF : F i = true) (hi : i < 6) : (d.step.put i (over (d.now i) [1])).C1 F (i + 1) := by
  refine ⟨h.calm.step.put _ _, h.n, by show d.steps + 1 ≤ _; have := h.steps; omega, fun j hj => ?_⟩
  by_cases he : j = i
  · subst he
    rw [Dk.put_nowA, h.now j hj, if_neg (by omega), if_pos ⟨by omega, hF⟩]
    rfl
  · rw [Dk.put_now_other _ he, Dk.step_now, h.now j hj]
    have : (j < i + 1) ↔ (j < i) := by omega
    simp [this]
structure Dk.C2 (d : Dk) (F W : Nat → Bool) (i : Nat) : Prop where
  calm : d.Calm
  n : d.n = 6
  steps : d.steps ≤ 7 + (i : Int)
  kept : ∀ j, j < 6 → d.kept j = keptF F j
  pend : ∀ j, j < 6 → d.pend j = if j < i ∧ W j = true then some (over (keptF F j) [2]) else none
set_option maxRecDepth 100000 in
theorem Dk.C2.num {d : Dk} {F W : Nat → Bool} {i : Nat} (h : d.C2 F W i) (hi : i ≤ 100) : d.Num := h.calm.num (by have := h.steps; omega)
set_option maxRecDepth 100000 in
theorem Dk.C1.flush {d : Dk} {F : Nat → Bool} (h : d.C1 F 6) (W : Nat → Bool) : d.step.flushed.C2 F W 0 := by
  refine ⟨h.calm.step.flushed, h.n, by show d.steps + 1 ≤ _; have := h.steps; omega, fun j hj => ?_, fun j hj => by simp [Dk.flushed]⟩
  show d.step.now j = _
  rw [Dk.step_now, h.now j hj]
  unfold keptF
  simp [hj]
set_option maxRecDepth 100000 in
theorem Dk.C2.skip {d : Dk} {F W : Nat → Bool} {i : Nat} (h : d.C2 F W i) (hW : W i = false) : d.C2 F W (i + 1) := by
  refine ⟨h.calm, h.n, by have := h.steps; omega, h.kept, fun j hj => ?_⟩
  rw [h.pend j hj]
  by_cases he : j = i
  · subst he; simp [hW]
  · have : (j < i + 1) ↔ (j < i) := by omega
    simp [this]
set_option maxRecDepth 100000 in
theorem Dk.C2.write {d : Dk} {F W : Nat → Bool} {i : Nat} (h : d.C2 F W i) (hW : W i = true) (hi : i < 6) : (d.step.put i (over (d.now i) [2])).C2 F W (i + 1) := by
  have hn : d.now i = keptF F i := by unfold Dk.now; rw [h.pend i hi, h.kept i hi]; simp
  refine ⟨h.calm.step.put _ _, h.n, by show d.steps + 1 ≤ _; have := h.steps; omega, h.kept, fun j hj => ?_⟩
  show upf d.pend i (some (over (d.now i) [2])) j = _
  by_cases he : j = i
  · subst he
    rw [upf_same, if_pos ⟨by omega, hW⟩, hn]
  · rw [upf_other _ _ he, h.pend j hj]
    have : (j < i + 1) ↔ (j < i) := by omega
    simp [this]
set_option maxRecDepth 100000 in
theorem filter_congr6 (p q : Nat → Bool) (n : Nat) (h : ∀ j, j < n → p j = q j) : (List.range n).filter p = (List.range n).filter q := by
  apply List.filter_congr
  intro j hj
  exact h j (by simpa using hj)
set_option maxRecDepth 100000 in
theorem Dk.C2.last {d : Dk} {F W : Nat → Bool} (h : d.C2 F W 6) (C : Nat → Bool) : (d.crash (chs W C 6)).Calm ∧ (d.crash (chs W C 6)).n = 6 ∧ ∀ j, j < 6 → ((d.crash (chs W C 6)).now j).getD 0 0 = fin6 F W C j := by
  refine ⟨Dk.crash_calm _ h.calm.s0, h.n, fun j hj => ?_⟩
  rw [Dk.crash_now]
  unfold Dk.keptAt
  have hk0 : (keptF F j).getD 0 0 = if F j = true then 1 else 0 := by
    unfold keptF
    split <;> rfl
  cases hW : W j with
  | false =>
    have hp : d.pend j = none := by rw [h.pend j hj]; simp [hW]
    rw [hp]
    simp only
    rw [h.kept j hj, hk0]
    simp [fin6, hW]
  | true =>
    have hp : d.pend j = some (over (keptF F j) [2]) := by rw [h.pend j hj]; simp [hW, hj]
    have hlt := d.rank_lt d.n j (by rw [h.n]; exact hj) (by rw [hp]; rfl)
    have hpens : d.pens 6 = (List.range 6).filter W := filter_congr6 _ _ 6 (fun k hk => by rw [h.pend k hk]; cases W k <;> simp [hk])
    have hat := d.pens_at 6 j hj (by rw [hp]; rfl)
    have hg : (chs W C 6).getD (d.rank j) 0 = pick6 C j := by
      unfold chs
      rw [← hpens, List.getD_eq_getElem?_getD, List.getElem?_map, hat]
      rfl
    rw [hp]
    simp only
    rw [if_pos hlt, hg, h.kept j hj]
    cases hC : C j with
    | true =>
      have : tornOf (keptF F j) (over (keptF F j) [2]) (pick6 C j) = (over (keptF F j) [2]).take 64 ++ (keptF F j).drop 64 := by
        simp [tornOf, spared, pick6, hC]
      rw [this]
      simp [fin6, hW, hC, over]
    | false =>
      have : tornOf (keptF F j) (over (keptF F j) [2]) (pick6 C j) = keptF F j := by
        simp [tornOf, spared, pick6, hC]
      rw [this, hk0]
      simp [fin6, hC]
end Go.Proofs.Ytbaijhlkkeongaa
