/- A region that draws its order: what is read may be taken first as long as one certain operation (say a call, behind which the region writes) has not come up; behind it another condition holds. -/
import Derived.Test.YtbiinchmbclmcaaDoorAny3
namespace Go.Proofs.YtbiinchmbclmcaaDoor
open Go Go.RowKit
section
variable {P : Program} {ops : Array Oper} {Q : Exit → Act → World → Prop} {md : Region.Mode} {c : Nat} {S S2 : World → Prop}

/-- Whatever order is picked: till operation c has come up S holds behind each that is carried out, behind it S2. -/
def wpAnyC (P : Program) (md : Region.Mode) (ops : Array Oper) (Q : Exit → Act → World → Prop) (c : Nat) (S S2 : World → Prop) : Nat → Array Bool → Act → World → Prop
  | 0, listed, a, w => Region.ready md ops listed = [] ∧ Q .normal a w
  | fuel + 1, listed, a, w =>
    (Region.ready md ops listed = [] → Q .normal a w) ∧
    ∀ i ∈ Region.ready md ops listed, wpOp P ops Q i (fun a' w' => if i = c then S2 w' ∧ wpAnyH P md ops Q S2 fuel (listed.setIfInBounds i true) a' w' else S w' ∧ wpAnyC P md ops Q c S S2 fuel (listed.setIfInBounds i true) a' w') a w
theorem wpAny_of_C : ∀ (fuel : Nat) (listed : Array Bool) (a : Act) (w : World), wpAnyC P md ops Q c S S2 fuel listed a w → wpAny P md ops Q fuel listed a w
  | 0, _, _, _, h => h
  | fuel + 1, _, _, _, h => ⟨h.1, fun i hi => wpOp_mono (fun a' w' h' => by
      by_cases hic : i = c
      · rw [if_pos hic] at h'
        exact wpAny_of_held fuel _ a' w' h'.2
      · rw [if_neg hic] at h'
        exact wpAny_of_C fuel _ a' w' h'.2) (h.2 i hi)⟩
/-- An operation that c waits for, and that yields its value in every world that meets S, may be taken first. -/
theorem wpAnyC_first {i : Nat} {oi oc : Oper} {v : Value} (hi : ops[i]? = some oi) (hsel : ∀ (j : Nat) (o : Oper) cs b, ops[j]? = some o → o.op ≠ .select cs b)
    (hQ : ∀ c a w, Q (.panic c) (a.put oi.dst v) w → Q (.panic c) a w) (hoc : ops[c]? = some oc) (hwait : ∃ e ∈ oc.after, Region.binds md e = true ∧ e.on = i) :
    ∀ (fuel : Nat) (listed : Array Bool) (a : Act) (w : World),
      (∀ j oj, ops[j]? = some oj → j ≠ i → listed.getD j true = false → (∀ e ∈ oj.after, Region.binds md e = true → e.on ≠ i) → oi.apart ops oj = true) →
      i ∈ Region.ready md ops listed → YieldsIf P ops S oi v a → S w → i ≠ c →
      wpAnyC P md ops Q c S S2 fuel (listed.setIfInBounds i true) (a.put oi.dst v) w → wpAnyC P md ops Q c S S2 (fuel + 1) listed a w := by
  intro fuel
  induction fuel with
  | zero =>
    intro listed a w _ hr hy hS hic H
    refine ⟨fun h => (by rw [h] at hr; cases hr), fun j hj => ?_⟩
    by_cases hji : j = i
    · subst hji; exact hy.wpOp hi hS (by rw [if_neg hic]; exact ⟨hS, H⟩)
    · have := ready_mono hj hji
      rw [H.1] at this
      cases this
  | succ fuel ih =>
    intro listed a w hfree hr hy hS hic H
    refine ⟨fun h => (by rw [h] at hr; cases hr), fun j hj => ?_⟩
    by_cases hji : j = i
    · subst hji; exact hy.wpOp hi hS (by rw [if_neg hic]; exact ⟨hS, H⟩)
    · have h1 := H.2 j (ready_mono hj hji)
      obtain ⟨hjun, oj, hoj, hall⟩ := mem_ready.1 hj
      have hnot : ∀ e ∈ oj.after, Region.binds md e = true → e.on ≠ i := fun e he hb heq => by
        have h1 := hall e he hb
        have h0 := (mem_ready.1 hr).1
        rw [heq] at h1
        rcases Nat.lt_or_ge i listed.size with h' | h'
        · simp [h'] at h0 h1; rw [h0] at h1; cases h1
        · simp [Array.getElem?_eq_none h'] at h1
      have hjc : j ≠ c := by
        rintro rfl
        obtain ⟨e, he, hb, hon⟩ := hwait
        have : oj = oc := Option.some.inj (hoj.symm.trans hoc)
        subst this
        exact hnot e he hb hon
      simp only [if_neg hjc] at h1 ⊢
      have h2 := wpOp_putIf hoj (hfree j oj hoj hji hjun hnot) (fun cs b => hsel i oi cs b hi) (fun cs b => hsel j oj cs b hoj) hQ hy h1
      have hfree' : ∀ k ok, ops[k]? = some ok → k ≠ i → (listed.setIfInBounds j true).getD k true = false →
          (∀ e ∈ ok.after, Region.binds md e = true → e.on ≠ i) → oi.apart ops ok = true := fun k ok hk hki hun hno => by
        refine hfree k ok hk hki ?_ hno
        by_cases hjk : j = k
        · subst hjk; exact hjun
        · rw [getD_set_ne true hjk] at hun; exact hun
      refine wpOp_mono (fun a' w' h3 => ⟨h3.2.1, ih (listed.setIfInBounds j true) a' w' hfree' (ready_mono hr (Ne.symm hji)) h3.1 h3.2.1 hic ?_⟩) h2
      rw [Array.setIfInBounds_comm _ _ hji]
      exact h3.2.2
/-- An operation that yields its value in whatever world may be taken first. -/
theorem wpAnyC_pure {i : Nat} {oi : Oper} {v : Value} (hi : ops[i]? = some oi) (hsel : ∀ (j : Nat) (o : Oper) cs b, ops[j]? = some o → o.op ≠ .select cs b)
    (hQ : ∀ c a w, Q (.panic c) (a.put oi.dst v) w → Q (.panic c) a w) :
    ∀ (fuel : Nat) (listed : Array Bool) (a : Act) (w : World),
      (∀ j oj, ops[j]? = some oj → j ≠ i → listed.getD j true = false → (∀ e ∈ oj.after, Region.binds md e = true → e.on ≠ i) → oi.apart ops oj = true) →
      i ∈ Region.ready md ops listed → YieldsIf P ops (fun _ => True) oi v a → S w → i ≠ c →
      wpAnyC P md ops Q c S S2 fuel (listed.setIfInBounds i true) (a.put oi.dst v) w → wpAnyC P md ops Q c S S2 (fuel + 1) listed a w := by
  intro fuel
  induction fuel with
  | zero =>
    intro listed a w _ hr hy hS hic H
    refine ⟨fun h => (by rw [h] at hr; cases hr), fun j hj => ?_⟩
    by_cases hji : j = i
    · subst hji; exact hy.wpOp hi trivial (by rw [if_neg hic]; exact ⟨hS, H⟩)
    · have := ready_mono hj hji
      rw [H.1] at this
      cases this
  | succ fuel ih =>
    intro listed a w hfree hr hy hS hic H
    refine ⟨fun h => (by rw [h] at hr; cases hr), fun j hj => ?_⟩
    by_cases hji : j = i
    · subst hji; exact hy.wpOp hi trivial (by rw [if_neg hic]; exact ⟨hS, H⟩)
    · have h1 := H.2 j (ready_mono hj hji)
      obtain ⟨hjun, oj, hoj, hall⟩ := mem_ready.1 hj
      have hnot : ∀ e ∈ oj.after, Region.binds md e = true → e.on ≠ i := fun e he hb heq => by
        have h1 := hall e he hb
        have h0 := (mem_ready.1 hr).1
        rw [heq] at h1
        rcases Nat.lt_or_ge i listed.size with h' | h'
        · simp [h'] at h0 h1; rw [h0] at h1; cases h1
        · simp [Array.getElem?_eq_none h'] at h1
      have h2 := wpOp_putIf hoj (hfree j oj hoj hji hjun hnot) (fun cs b => hsel i oi cs b hi) (fun cs b => hsel j oj cs b hoj) hQ hy h1
      have hfree' : ∀ k ok, ops[k]? = some ok → k ≠ i → (listed.setIfInBounds j true).getD k true = false →
          (∀ e ∈ ok.after, Region.binds md e = true → e.on ≠ i) → oi.apart ops ok = true := fun k ok hk hki hun hno => by
        refine hfree k ok hk hki ?_ hno
        by_cases hjk : j = k
        · subst hjk; exact hjun
        · rw [getD_set_ne true hjk] at hun; exact hun
      refine wpOp_mono (fun a' w' h3 => ?_) h2
      obtain ⟨hy', h3⟩ := h3
      by_cases hjc : j = c
      · rw [if_pos hjc] at h3 ⊢
        refine ⟨h3.1, wpAnyH_first hi hsel hQ fuel (listed.setIfInBounds j true) a' w' hfree' (ready_mono hr (Ne.symm hji)) (hy'.imp (fun ⟨hw, hv⟩ => ⟨hw, fun w _ => hv w trivial⟩) id) h3.1 ?_⟩
        rw [Array.setIfInBounds_comm _ _ hji]
        exact h3.2
      · rw [if_neg hjc] at h3 ⊢
        refine ⟨h3.1, ih (listed.setIfInBounds j true) a' w' hfree' (ready_mono hr (Ne.symm hji)) hy' h3.1 hic ?_⟩
        rw [Array.setIfInBounds_comm _ _ hji]
        exact h3.2
end
section
variable {P : Program} {md : Region.Mode} {ops : Array Oper} {R : Act → World → Prop} {T T2 : World → Prop} {c fuel : Nat} {listed : Array Bool} {a : Act} {w w0 : World} {S : List Nat} {rows : List (Nat × List Value × TypeId)}
theorem anyC_start {id : Nat} {l : List Oper} (c : Nat) (hmix : P.follows .mixedOrders = true) (hm : Mem w0 S w rows)
    (h : ∀ w', Mem w0 S w' rows → wpAnyC P .any l.toArray (endsIn R) c T T2 l.toArray.size (Array.replicate l.toArray.size false) a w') : (Code.region id l.toArray true).wp P (endsIn R) a w :=
  wp_region_any hmix (wpAny_of_C _ _ _ _ (h _ hm.drew))
/-- Taken first: a load that c waits for. -/
theorem anyC_load (i : Nat) {o oc : Oper} {v : Value} (hi : ops[i]? = some o) (hs : Region.noSelect ops = true) (hf : Region.free md ops listed i = true) (hr : (Region.ready md ops listed).contains i = true) (hg : o.guard = none) (hoc : ops[c]? = some oc) (hwait : (oc.after.any fun e => Region.binds md e && e.on == i) = true) (hic : decide (i = c) = false)
    (hy : ∀ w, T w → (execOp a.eval o).run P w = .ok (.value v) w) (hT : T w) (h : wpAnyC P md ops (endsIn R) c T T2 fuel (listed.setIfInBounds i true) (a.put o.dst v) w) : wpAnyC P md ops (endsIn R) c T T2 (fuel + 1) listed a w :=
  wpAnyC_first hi (Region.noSelect_spec hs) (fun _ _ _ h => h) hoc (by
    obtain ⟨e, he, hb⟩ := Array.any_eq_true'.1 hwait
    simp only [Bool.and_eq_true, beq_iff_eq] at hb
    exact ⟨e, he, hb.1, hb.2⟩) fuel listed a w (Region.free_spec hi hf) (by simpa using hr) (Or.inl ⟨by simp [Region.wanted, hg], hy⟩) hT (of_decide_eq_false hic) h
/-- Taken first: what hangs on no memory. -/
theorem anyC_pure (i : Nat) {o : Oper} {v : Value} (hi : ops[i]? = some o) (hs : Region.noSelect ops = true) (hf : Region.free md ops listed i = true) (hr : (Region.ready md ops listed).contains i = true) (hg : o.guard = none) (hic : decide (i = c) = false)
    (hy : ∀ w, True → (execOp a.eval o).run P w = .ok (.value v) w) (hT : T w) (h : wpAnyC P md ops (endsIn R) c T T2 fuel (listed.setIfInBounds i true) (a.put o.dst v) w) : wpAnyC P md ops (endsIn R) c T T2 (fuel + 1) listed a w :=
  wpAnyC_pure hi (Region.noSelect_spec hs) (fun _ _ _ h => h) fuel listed a w (Region.free_spec hi hf) (by simpa using hr) (Or.inl ⟨by simp [Region.wanted, hg], hy⟩) hT (of_decide_eq_false hic) h
/-- Nothing but c may come up: it does. -/
theorem anyC_turn {o : Oper} (hr : Region.ready md ops listed = [c]) (hi : ops[c]? = some o) (hg : o.guard = none)
    (h : ∀ K : Act → World → Prop, (∀ a' w', T2 w' → wpAnyH P md ops (endsIn R) T2 fuel (listed.setIfInBounds c true) a' w' → K a' w') → wpList P ops (endsIn K) [o] a w) : wpAnyC P md ops (endsIn R) c T T2 (fuel + 1) listed a w := by
  refine ⟨fun h0 => absurd (hr ▸ h0) (by simp), fun i hi' => ?_⟩
  rw [hr] at hi'
  obtain rfl : i = c := by simpa using hi'
  simp only [if_true]
  exact anyH_op i hi hg h
end
end Go.Proofs.YtbiinchmbclmcaaDoor
