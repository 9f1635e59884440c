/- Trees in memory of which no two lists of kids lie in one block, and each in a plain one: the blocks in a list. -/
import Derived.Test.YtbiinchmbclmcaaDoorTmJoin
namespace Go.Proofs.YtbiinchmbclmcaaDoor
open Go Go.RowKit
def xcF : List Tm → List (Value → List Nat → Prop) → List Value → List Nat → Prop
  | t :: l, p :: r, cs, ys => ∃ s cs' y1 y2, cs = .int .i64 t.k :: .int .i64 t.n :: s :: cs' ∧ ys = y1 ++ y2 ∧ p s y1 ∧ xcF l r cs' y2
  | _, _, cs, ys => cs = [] ∧ ys = []
def KX (w : World) : Tm → Value → List Nat → Prop :=
  foldT fun t r v xs => ∃ cap, r.length ≤ cap ∧ ((r.length = 0 ∧ xs = [] ∧ ∃ p, v = .slice p 0 cap) ∨
    (0 < r.length ∧ ∃ b ys cs ca, v = .slice (some ⟨b, 0, none⟩) r.length cap ∧ xs = b :: ys ∧ w.heap[b]? = some (.cells ca 24 (0, 0)) ∧ (∀ (j : Nat) (u : Value), cs[j]? = some u → ca[j]? = some u) ∧ xcF t.l r cs ys))
def XC (w : World) : List Tm → List Value → List Nat → Prop
  | [], cs, ys => cs = [] ∧ ys = []
  | t :: l, cs, ys => ∃ s cs' y1 y2, cs = .int .i64 t.k :: .int .i64 t.n :: s :: cs' ∧ ys = y1 ++ y2 ∧ KX w t s y1 ∧ XC w l cs' y2
def SlX (w : World) (v : Value) (l : List Tm) (xs : List Nat) : Prop :=
  ∃ cap, l.length ≤ cap ∧ ((l.length = 0 ∧ xs = [] ∧ ∃ p, v = .slice p 0 cap) ∨
    (0 < l.length ∧ ∃ b ys cs ca, v = .slice (some ⟨b, 0, none⟩) l.length cap ∧ xs = b :: ys ∧ w.heap[b]? = some (.cells ca 24 (0, 0)) ∧ (∀ (j : Nat) (u : Value), cs[j]? = some u → ca[j]? = some u) ∧ XC w l cs ys))
section
variable {w w' : World}
set_option maxRecDepth 100000 in
theorem xcF_iff (l : List Tm) (cs : List Value) (ys : List Nat) : xcF l (l.map (KX w)) cs ys ↔ XC w l cs ys := by
  induction l generalizing cs ys with
  | nil => exact Iff.rfl
  | cons t l ih =>
    simp only [List.map_cons, xcF, XC]
    constructor
    · rintro ⟨s, cs', y1, y2, h1, h2, h3, h4⟩; exact ⟨s, cs', y1, y2, h1, h2, h3, (ih cs' y2).1 h4⟩
    · rintro ⟨s, cs', y1, y2, h1, h2, h3, h4⟩; exact ⟨s, cs', y1, y2, h1, h2, h3, (ih cs' y2).2 h4⟩
set_option maxRecDepth 100000 in
theorem KX_iff (t : Tm) (v : Value) (xs : List Nat) : KX w t v xs ↔ SlX w v t.l xs := by
  unfold KX
  rw [foldT_eq]
  show (∃ cap, (t.l.map (KX w)).length ≤ cap ∧ (((t.l.map (KX w)).length = 0 ∧ xs = [] ∧ ∃ p, v = .slice p 0 cap) ∨
    (0 < (t.l.map (KX w)).length ∧ ∃ b ys cs ca, v = .slice (some ⟨b, 0, none⟩) (t.l.map (KX w)).length cap ∧ xs = b :: ys ∧ w.heap[b]? = some (.cells ca 24 (0, 0)) ∧ (∀ (j : Nat) (u : Value), cs[j]? = some u → ca[j]? = some u) ∧ xcF t.l (t.l.map (KX w)) cs ys))) ↔ _
  simp only [List.length_map, xcF_iff]
  exact Iff.rfl
set_option maxRecDepth 100000 in
theorem XC.snoc {l : List Tm} {cs : List Value} {ys : List Nat} (h : XC w l cs ys) {t : Tm} {s : Value} {y : List Nat} (hs : KX w t s y) : XC w (l ++ [t]) (cs ++ tcs t s) (ys ++ y) := by
  induction l generalizing cs ys with
  | nil =>
    obtain ⟨rfl, rfl⟩ := h
    exact ⟨s, [], y, [], rfl, by simp, hs, rfl, rfl⟩
  | cons u l ih =>
    obtain ⟨s', cs', y1, y2, rfl, rfl, h3, h4⟩ := h
    exact ⟨s', _, y1, _, rfl, by simp, h3, ih h4⟩
set_option maxRecDepth 100000 in
theorem SlX.nil : SlX w (.slice none 0 0) [] [] := ⟨0, Nat.le_refl _, Or.inl ⟨rfl, rfl, none, rfl⟩⟩
set_option maxRecDepth 100000 in
/-- What leaves the blocks as they are leaves the tree. -/
theorem XC.keep {l : List Tm} (H : ∀ t ∈ l, ∀ v xs, (∀ b ∈ xs, w'.heap[b]? = w.heap[b]?) → KX w t v xs → KX w' t v xs) {cs : List Value} {ys : List Nat} (hk : ∀ b ∈ ys, w'.heap[b]? = w.heap[b]?) (h : XC w l cs ys) : XC w' l cs ys := by
  induction l generalizing cs ys with
  | nil => exact h
  | cons u l ih =>
    obtain ⟨s, cs', y1, y2, rfl, rfl, h3, h4⟩ := h
    exact ⟨s, cs', y1, y2, rfl, rfl, H u (List.mem_cons_self ..) s y1 (fun b hb => hk b (List.mem_append.2 (Or.inl hb))) h3, ih (fun t ht => H t (List.mem_cons_of_mem _ ht)) (fun b hb => hk b (List.mem_append.2 (Or.inr hb))) h4⟩
set_option maxRecDepth 100000 in
theorem SlX.keep1 {l : List Tm} (H : ∀ t ∈ l, ∀ v xs, (∀ b ∈ xs, w'.heap[b]? = w.heap[b]?) → KX w t v xs → KX w' t v xs) {v : Value} {xs : List Nat} (hk : ∀ b ∈ xs, w'.heap[b]? = w.heap[b]?) (h : SlX w v l xs) : SlX w' v l xs := by
  obtain ⟨cap, hc, h | ⟨h0, b, ys, cs, ca, hv, rfl, hb, hj, hx⟩⟩ := h
  · exact ⟨cap, hc, Or.inl h⟩
  · exact ⟨cap, hc, Or.inr ⟨h0, b, ys, cs, ca, hv, rfl, by rw [hk b (List.mem_cons_self ..)]; exact hb, hj, hx.keep H (fun q hq => hk q (List.mem_cons_of_mem _ hq))⟩⟩
set_option maxRecDepth 100000 in
theorem KX.keep (t : Tm) : ∀ v xs, (∀ b ∈ xs, w'.heap[b]? = w.heap[b]?) → KX w t v xs → KX w' t v xs := by
  induction t using Tm.ind with
  | h t ih =>
    intro v xs hk h
    rw [KX_iff] at h ⊢
    exact h.keep1 ih hk
set_option maxRecDepth 100000 in
theorem SlX.keep {v : Value} {l : List Tm} {xs : List Nat} (hk : ∀ b ∈ xs, w'.heap[b]? = w.heap[b]?) (h : SlX w v l xs) : SlX w' v l xs := h.keep1 (fun t _ => KX.keep t) hk
set_option maxRecDepth 100000 in
/-- Each block is plain, and there. -/
theorem XC.plain {l : List Tm} (H : ∀ t ∈ l, ∀ v xs, KX w t v xs → ∀ b ∈ xs, ∃ ca, w.heap[b]? = some (.cells ca 24 (0, 0)) ∧ 0 < ca.size) {cs : List Value} {ys : List Nat} (h : XC w l cs ys) : ∀ b ∈ ys, ∃ ca, w.heap[b]? = some (.cells ca 24 (0, 0)) ∧ 0 < ca.size := by
  induction l generalizing cs ys with
  | nil => obtain ⟨_, rfl⟩ := h; intro b hb; cases hb
  | cons u l ih =>
    obtain ⟨s, cs', y1, y2, rfl, rfl, h3, h4⟩ := h
    intro b hb
    rcases List.mem_append.1 hb with hb | hb
    · exact H u (List.mem_cons_self ..) s y1 h3 b hb
    · exact ih (fun t ht => H t (List.mem_cons_of_mem _ ht)) h4 b hb
set_option maxRecDepth 100000 in
theorem XC.first {l : List Tm} {cs : List Value} {ys : List Nat} (h : XC w l cs ys) (h0 : 0 < l.length) : ∃ u, cs[0]? = some u := by
  cases l with
  | nil => simp at h0
  | cons t l => obtain ⟨s, cs', y1, y2, rfl, _⟩ := h; exact ⟨_, rfl⟩
set_option maxRecDepth 100000 in
theorem SlX.plain1 {l : List Tm} (H : ∀ t ∈ l, ∀ v xs, KX w t v xs → ∀ b ∈ xs, ∃ ca, w.heap[b]? = some (.cells ca 24 (0, 0)) ∧ 0 < ca.size) {v : Value} {xs : List Nat} (h : SlX w v l xs) : ∀ b ∈ xs, ∃ ca, w.heap[b]? = some (.cells ca 24 (0, 0)) ∧ 0 < ca.size := by
  obtain ⟨cap, hc, ⟨_, rfl, _⟩ | ⟨h0, b, ys, cs, ca, hv, rfl, hb, hj, hx⟩⟩ := h
  · intro b hb; cases hb
  · intro q hq
    rcases List.mem_cons.1 hq with rfl | hq
    · obtain ⟨u, hu⟩ := hx.first h0
      refine ⟨ca, hb, ?_⟩
      have := (Array.getElem?_eq_some_iff.1 (hj 0 u hu)).1
      exact this
    · exact hx.plain H q hq
set_option maxRecDepth 100000 in
theorem KX.plain (t : Tm) : ∀ v xs, KX w t v xs → ∀ b ∈ xs, ∃ ca, w.heap[b]? = some (.cells ca 24 (0, 0)) ∧ 0 < ca.size := by
  induction t using Tm.ind with
  | h t ih =>
    intro v xs h
    rw [KX_iff] at h
    exact h.plain1 ih
set_option maxRecDepth 100000 in
theorem SlX.plain {v : Value} {l : List Tm} {xs : List Nat} (h : SlX w v l xs) : ∀ b ∈ xs, ∃ ca, w.heap[b]? = some (.cells ca 24 (0, 0)) ∧ 0 < ca.size := h.plain1 (fun t _ => KX.plain t)
set_option maxRecDepth 100000 in
/-- It is a tree in memory. -/
theorem XC.tc {F : Nat → Prop} {l : List Tm} (H : ∀ t ∈ l, ∀ v xs, (∀ b ∈ xs, F b) → KX w t v xs → KS F w t v) {cs : List Value} {ys : List Nat} (hF : ∀ b ∈ ys, F b) (h : XC w l cs ys) : TC F w l cs := by
  induction l generalizing cs ys with
  | nil => exact h.1
  | cons u l ih =>
    obtain ⟨s, cs', y1, y2, rfl, rfl, h3, h4⟩ := h
    exact ⟨s, cs', rfl, H u (List.mem_cons_self ..) s y1 (fun b hb => hF b (List.mem_append.2 (Or.inl hb))) h3, ih (fun t ht => H t (List.mem_cons_of_mem _ ht)) (fun b hb => hF b (List.mem_append.2 (Or.inr hb))) h4⟩
set_option maxRecDepth 100000 in
theorem SlX.slt1 {F : Nat → Prop} {l : List Tm} (H : ∀ t ∈ l, ∀ v xs, (∀ b ∈ xs, F b) → KX w t v xs → KS F w t v) {v : Value} {xs : List Nat} (hF : ∀ b ∈ xs, F b) (h : SlX w v l xs) : SlT F w v l := by
  obtain ⟨cap, hc, ⟨h0, rfl, p, rfl⟩ | ⟨h0, b, ys, cs, ca, rfl, rfl, hb, hj, hx⟩⟩ := h
  · have : l = [] := List.eq_nil_of_length_eq_zero h0
    subst this
    exact ⟨p, cap, [], rfl, Nat.zero_le _, rfl, fun h => absurd h (by simp)⟩
  · refine ⟨_, cap, cs, rfl, hc, hx.tc H (fun q hq => hF q (List.mem_cons_of_mem _ hq)), fun _ => ⟨b, 0, rfl, hF b (List.mem_cons_self ..), fun j u hu => ?_⟩⟩
    have h1 := hj j u hu
    unfold World.cell?
    simp only [hb, Nat.zero_add]
    exact h1
set_option maxRecDepth 100000 in
theorem KX.ks {F : Nat → Prop} (t : Tm) : ∀ v xs, (∀ b ∈ xs, F b) → KX w t v xs → KS F w t v := by
  induction t using Tm.ind with
  | h t ih =>
    intro v xs hF h
    rw [KX_iff] at h
    rw [KS_iff]
    exact h.slt1 ih hF
set_option maxRecDepth 100000 in
theorem SlX.slt {F : Nat → Prop} {v : Value} {l : List Tm} {xs : List Nat} (h : SlX w v l xs) (hF : ∀ b ∈ xs, F b) : SlT F w v l := h.slt1 (fun t _ => KX.ks t) hF
set_option maxRecDepth 100000 in
/-- One element, what lies before it, what lies behind it. -/
theorem XC.split {l : List Tm} {cs : List Value} {ys : List Nat} (h : XC w l cs ys) {i : Nat} {t : Tm} (ht : l[i]? = some t) :
    ∃ (s : Value) (y1 y y2 : List Nat), ys = y1 ++ (y ++ y2) ∧ cs[i * 3]? = some (.int .i64 t.k) ∧ cs[i * 3 + 1]? = some (.int .i64 t.n) ∧ cs[i * 3 + 2]? = some s ∧ KX w t s y ∧ XC w (l.take i) (cs.take (i * 3)) y1 ∧ XC w (l.drop (i + 1)) (cs.drop ((i + 1) * 3)) y2 := by
  induction l generalizing cs ys i with
  | nil => simp at ht
  | cons u l ih =>
    obtain ⟨s, cs', a, b, rfl, rfl, h3, h4⟩ := h
    cases i with
    | zero =>
      simp at ht; subst ht
      exact ⟨s, [], a, b, rfl, rfl, rfl, rfl, h3, ⟨rfl, rfl⟩, by simpa using h4⟩
    | succ i =>
      obtain ⟨s', y1, y, y2, rfl, e1, e2, e3, e4, e5, e6⟩ := ih h4 (by simpa using ht)
      refine ⟨s', a ++ y1, y, y2, by simp, ?_, ?_, ?_, e4, ?_, ?_⟩
      · rw [show (i + 1) * 3 = i * 3 + 3 by omega]; simpa using e1
      · rw [show (i + 1) * 3 + 1 = i * 3 + 1 + 3 by omega]; simpa using e2
      · rw [show (i + 1) * 3 + 2 = i * 3 + 2 + 3 by omega]; simpa using e3
      · rw [show (i + 1) * 3 = i * 3 + 3 by omega]
        exact ⟨s, cs'.take (i * 3), a, y1, by simp, rfl, h3, by simpa using e5⟩
      · rw [show (i + 1 + 1) * 3 = (i + 1) * 3 + 3 by omega]
        simpa using e6
set_option maxRecDepth 100000 in
theorem SlX.len {v : Value} {l : List Tm} {xs : List Nat} (h : SlX w v l xs) : ∃ p cap, v = .slice p l.length cap ∧ l.length ≤ cap := by
  obtain ⟨cap, hc, ⟨h0, _, p, rfl⟩ | ⟨_, b, ys, cs, ca, rfl, _⟩⟩ := h
  · exact ⟨p, cap, by rw [h0], hc⟩
  · exact ⟨_, cap, rfl, hc⟩
set_option maxRecDepth 100000 in
/-- The cells of an element, and the blocks of what lies below it. -/
theorem SlX.cells {v : Value} {l : List Tm} {xs : List Nat} (h : SlX w v l xs) {i : Nat} {t : Tm} (ht : l[i]? = some t) :
    ∃ (b cap : Nat) (y1 y y2 : List Nat) (s : Value), v = .slice (some ⟨b, 0, none⟩) l.length cap ∧ xs = b :: (y1 ++ (y ++ y2)) ∧ w.cell? ⟨b, i * 3, none⟩ = some (.int .i64 t.k) ∧ w.cell? ⟨b, i * 3 + 1, none⟩ = some (.int .i64 t.n) ∧ w.cell? ⟨b, i * 3 + 2, none⟩ = some s ∧ SlX w s t.l y := by
  obtain ⟨cap, hc, ⟨h0, _⟩ | ⟨h0, b, ys, cs, ca, hv, rfl, hb, hj, hx⟩⟩ := h
  · have := (List.getElem?_eq_some_iff.1 ht).1; omega
  · obtain ⟨s, y1, y, y2, rfl, e1, e2, e3, e4, _, _⟩ := hx.split ht
    have hcell : ∀ (j : Nat) (u : Value), cs[j]? = some u → w.cell? ⟨b, j, none⟩ = some u := fun j u hu => by
      unfold World.cell?
      simp only [hb]
      exact hj j u hu
    exact ⟨b, cap, y1, y, y2, s, hv, rfl, hcell _ _ e1, hcell _ _ e2, hcell _ _ e3, (KX_iff t s y).1 e4⟩
set_option maxRecDepth 100000 in
/-- From an own slice that starts at its block's first cell. -/
theorem SlX.of_block {b cap : Nat} {l : List Tm} {cs : List Value} {ca : Array Value} {ys : List Nat} (h0 : 0 < l.length) (hc : l.length ≤ cap) (hb : w.heap[b]? = some (.cells ca 24 (0, 0))) (hj : ∀ (j : Nat) (u : Value), cs[j]? = some u → ca[j]? = some u) (hx : XC w l cs ys) : SlX w (.slice (some ⟨b, 0, none⟩) l.length cap) l (b :: ys) :=
  ⟨cap, hc, Or.inr ⟨h0, b, ys, cs, ca, rfl, rfl, hb, hj, hx⟩⟩
set_option maxRecDepth 100000 in
theorem slx_one {g : Nat} {t : Tm} {s : Value} {y : List Nat} (hr : Row w g (tcs t s) 24) (hs : SlX w s t.l y) : SlX w (.slice (some ⟨g, 0, none⟩) 1 1) [t] (g :: y) := by
  refine SlX.of_block (cs := tcs t s) (by simp) (Nat.le_refl _) hr (fun j u hu => by simpa using hu) ?_
  exact ⟨s, [], y, [], rfl, by simp, (KX_iff t s y).2 hs, rfl, rfl⟩
end
end Go.Proofs.YtbiinchmbclmcaaDoor
