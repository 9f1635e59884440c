/- Package term: pairs of lists that are still to be held against one another. -/
import Derived.Test.YtbiinchmbclmcaaDoorTmPartsX
namespace Go.Proofs.YtbiinchmbclmcaaDoor
open Go Go.RowKit
/-! Plain. -/
def alike (x y : Tm) : Prop := x.k = y.k ∧ x.n = y.n ∧ x.l.length = y.l.length
set_option maxRecDepth 100000 in
theorem tm_eq_iff (x y : Tm) : x = y ↔ alike x y ∧ x.l = y.l := by
  constructor
  · rintro rfl; exact ⟨⟨rfl, rfl, rfl⟩, rfl⟩
  · rintro ⟨⟨h1, h2, _⟩, h3⟩; exact Tm.eq_of h1 h2 h3
set_option maxRecDepth 100000 in
theorem drop_step {l m : List Tm} {i : Nat} {x y : Tm} (hx : l[i]? = some x) (hy : m[i]? = some y) : l.drop i = m.drop i ↔ x = y ∧ l.drop (i + 1) = m.drop (i + 1) := by
  obtain ⟨h1, e1⟩ := List.getElem?_eq_some_iff.1 hx
  obtain ⟨h2, e2⟩ := List.getElem?_eq_some_iff.1 hy
  rw [List.drop_eq_getElem_cons h1, List.drop_eq_getElem_cons h2, e1, e2]
  simp
/-- Two lists of kids, and the blocks of the first. -/
abbrev Pd2 := List Tm × List Tm × List Nat
def PEq (P : List Pd2) : Prop := ∀ p ∈ P, p.1 = p.2.1
set_option maxRecDepth 100000 in
theorem PEq.snoc {P : List Pd2} {p : Pd2} : PEq (P ++ [p]) ↔ PEq P ∧ p.1 = p.2.1 := by
  unfold PEq
  constructor
  · intro h; exact ⟨fun q hq => h q (List.mem_append.2 (Or.inl hq)), h p (by simp)⟩
  · rintro ⟨h1, h2⟩ q hq
    rcases List.mem_append.1 hq with hq | hq
    · exact h1 q hq
    · rw [List.mem_singleton.1 hq]; exact h2
def wt (l : List Tm) : Nat := (l.map cnt).sum
def wtP (P : List Pd2) : Nat := (P.map fun p => wt p.1).sum
set_option maxRecDepth 100000 in
theorem wtP_snoc (P : List Pd2) (p : Pd2) : wtP (P ++ [p]) = wtP P + wt p.1 := by simp [wtP]
set_option maxRecDepth 100000 in
theorem wt_drop {l : List Tm} {i : Nat} {x : Tm} (hx : l[i]? = some x) : wt (l.drop i) = cnt x + wt (l.drop (i + 1)) := by
  obtain ⟨h1, e1⟩ := List.getElem?_eq_some_iff.1 hx
  rw [List.drop_eq_getElem_cons h1, e1]
  simp [wt]
set_option maxRecDepth 100000 in
theorem wt_kids (x : Tm) : cnt x = 1 + wt x.l := cnt_eq x
/-- All blocks that are still ahead. -/
def ahead (P : List Pd2) : List Nat := P.flatMap fun p => p.2.2
set_option maxRecDepth 100000 in
theorem ahead_snoc (P : List Pd2) (p : Pd2) : ahead (P ++ [p]) = ahead P ++ p.2.2 := by simp [ahead]
/-! In memory. -/
def StkX (F : Nat → Prop) (w : World) : List Pd2 → List Value → Prop
  | [], cs => cs = []
  | p :: P, cs => ∃ vx vy cs', cs = vx :: vy :: cs' ∧ SlX w vx p.1 p.2.2 ∧ SlT F w vy p.2.1 ∧ p.1.length = p.2.1.length ∧ StkX F w P cs'
section
variable {F : Nat → Prop} {w w' : World}
set_option maxRecDepth 100000 in
theorem StkX.len {P : List Pd2} {cs : List Value} (h : StkX F w P cs) : cs.length = P.length * 2 := by
  induction P generalizing cs with
  | nil => rw [show cs = [] from h]; rfl
  | cons p P ih =>
    obtain ⟨vx, vy, cs', rfl, _, _, _, h4⟩ := h
    simp only [List.length_cons, ih h4]; omega
set_option maxRecDepth 100000 in
theorem StkX.snoc {P : List Pd2} {cs : List Value} (h : StkX F w P cs) {p : Pd2} {vx vy : Value} (h1 : SlX w vx p.1 p.2.2) (h2 : SlT F w vy p.2.1) (h3 : p.1.length = p.2.1.length) : StkX F w (P ++ [p]) (cs ++ [vx, vy]) := by
  induction P generalizing cs with
  | nil => rw [show cs = [] from h]; exact ⟨vx, vy, [], rfl, h1, h2, h3, rfl⟩
  | cons q P ih =>
    obtain ⟨a, b, cs', rfl, h4, h5, h6, h7⟩ := h
    exact ⟨a, b, _, rfl, h4, h5, h6, ih h7⟩
set_option maxRecDepth 100000 in
theorem StkX.last {P : List Pd2} {p : Pd2} {cs : List Value} (h : StkX F w (P ++ [p]) cs) : ∃ cs0 vx vy, cs = cs0 ++ [vx, vy] ∧ StkX F w P cs0 ∧ SlX w vx p.1 p.2.2 ∧ SlT F w vy p.2.1 ∧ p.1.length = p.2.1.length := by
  induction P generalizing cs with
  | nil =>
    obtain ⟨a, b, cs', rfl, h4, h5, h6, h7⟩ := h
    rw [show cs' = [] from h7]
    exact ⟨[], a, b, rfl, rfl, h4, h5, h6⟩
  | cons q P ih =>
    obtain ⟨a, b, cs', rfl, h4, h5, h6, h7⟩ := h
    obtain ⟨cs0, vx, vy, rfl, e1, e2, e3, e4⟩ := ih h7
    exact ⟨a :: b :: cs0, vx, vy, rfl, ⟨a, b, cs0, rfl, h4, h5, h6, e1⟩, e2, e3, e4⟩
set_option maxRecDepth 100000 in
theorem StkX.keep {P : List Pd2} {cs : List Value} (h : StkX F w P cs) (hk : ∀ b ∈ ahead P, w'.heap[b]? = w.heap[b]?) (hF : Keeps F F w w') : StkX F w' P cs := by
  induction P generalizing cs with
  | nil => exact h
  | cons q P ih =>
    obtain ⟨a, b, cs', rfl, h4, h5, h6, h7⟩ := h
    exact ⟨a, b, cs', rfl, h4.keep (fun c hc => hk c (by simp [ahead, hc])), h5.keep hF, h6, ih h7 (fun c hc => hk c (by
      simp only [ahead, List.flatMap_cons, List.mem_append]
      exact Or.inr hc))⟩
end
end Go.Proofs.YtbiinchmbclmcaaDoor
