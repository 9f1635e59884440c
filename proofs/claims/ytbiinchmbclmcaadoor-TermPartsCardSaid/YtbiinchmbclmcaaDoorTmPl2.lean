/- Package term: what Parts tells, in plain words; parts lie apart from one another. -/
import Derived.Test.YtbiinchmbclmcaaDoorTmSame
namespace Go.Proofs.YtbiinchmbclmcaaDoor
open Go Go.RowKit
set_option maxRecDepth 100000 in
theorem addP_pre (t : Tm) : ∀ acc, ∃ s, addP t acc = acc ++ s := by
  induction t using Tm.ind with
  | h t ih =>
    have key : ∀ (l : List Tm), (∀ x ∈ l, ∀ acc, ∃ s, addP x acc = acc ++ s) → ∀ acc, ∃ s, addK l acc = acc ++ s := by
      intro l
      induction l with
      | nil => intro _ acc; exact ⟨[], (List.append_nil acc).symm⟩
      | cons x l ih2 =>
        intro h acc
        rw [addK_cons]
        obtain ⟨s1, h1⟩ := h x (List.mem_cons_self ..) acc
        obtain ⟨s2, h2⟩ := ih2 (fun y hy => h y (List.mem_cons_of_mem _ hy)) (addP x acc)
        exact ⟨s1 ++ s2, by rw [h2, h1, List.append_assoc]⟩
    intro acc
    rw [addP_eq]
    split
    · exact ⟨[], (List.append_nil acc).symm⟩
    · obtain ⟨s, h⟩ := key t.l ih (acc ++ [t])
      exact ⟨t :: s, by rw [h]; simp⟩
set_option maxRecDepth 100000 in
theorem addK_pre (l : List Tm) : ∀ acc, ∃ s, addK l acc = acc ++ s := by
  induction l with
  | nil => intro acc; exact ⟨[], (List.append_nil acc).symm⟩
  | cons x l ih =>
    intro acc
    rw [addK_cons]
    obtain ⟨s1, h1⟩ := addP_pre x acc
    obtain ⟨s2, h2⟩ := ih (addP x acc)
    exact ⟨s1 ++ s2, by rw [h2, h1, List.append_assoc]⟩
set_option maxRecDepth 100000 in
theorem partsT_head (t : Tm) : (partsT t)[0]? = some t := by
  rw [partsT, addP_eq, if_neg (by simp [inL])]
  obtain ⟨s, h⟩ := addK_pre t.l ([] ++ [t])
  rw [h]; rfl
set_option maxRecDepth 100000 in
theorem addP_nd (t : Tm) : ∀ acc, acc.Nodup → (addP t acc).Nodup := by
  induction t using Tm.ind with
  | h t ih =>
    have key : ∀ (l : List Tm), (∀ x ∈ l, ∀ acc, acc.Nodup → (addP x acc).Nodup) → ∀ acc, acc.Nodup → (addK l acc).Nodup := by
      intro l
      induction l with
      | nil => intro _ acc h; exact h
      | cons x l ih2 =>
        intro h acc hn
        rw [addK_cons]
        exact ih2 (fun y hy => h y (List.mem_cons_of_mem _ hy)) _ (h x (List.mem_cons_self ..) acc hn)
    intro acc hn
    rw [addP_eq]
    split
    · exact hn
    · next hin =>
      refine key t.l ih _ (List.nodup_append.2 ⟨hn, by simp, fun a ha b hb he => hin ?_⟩)
      rw [List.mem_singleton] at hb
      subst he hb
      exact List.any_eq_true.2 ⟨_, ha, decide_eq_true rfl⟩
set_option maxRecDepth 100000 in
theorem partsT_nd (t : Tm) : (partsT t).Nodup := addP_nd t [] List.nodup_nil
set_option maxRecDepth 100000 in
theorem addP_cnt (t : Tm) : ∀ acc, ∀ x ∈ addP t acc, x ∈ acc ∨ cnt x ≤ cnt t := by
  induction t using Tm.ind with
  | h t ih =>
    have key : ∀ (l : List Tm), (∀ x ∈ l, x ∈ t.l) → ∀ acc, ∀ x ∈ addK l acc, x ∈ acc ∨ cnt x ≤ cnt t := by
      intro l
      induction l with
      | nil => intro _ acc x hx; exact Or.inl hx
      | cons y l ih2 =>
        intro h acc x hx
        rw [addK_cons] at hx
        rcases ih2 (fun z hz => h z (List.mem_cons_of_mem _ hz)) _ x hx with h1 | h1
        · have hy := h y (List.mem_cons_self ..)
          rcases ih y hy acc x h1 with h2 | h2
          · exact Or.inl h2
          · have := cnt_lt hy
            exact Or.inr (by omega)
        · exact Or.inr h1
    intro acc x hx
    rw [addP_eq] at hx
    split at hx
    · exact Or.inl hx
    · rcases key t.l (fun _ h => h) _ x hx with h1 | h1
      · rcases List.mem_append.1 h1 with h2 | h2
        · exact Or.inl h2
        · rw [List.mem_singleton.1 h2]; exact Or.inr (Nat.le_refl _)
      · exact Or.inr h1
set_option maxRecDepth 100000 in
theorem partsT_cnt (t : Tm) : ∀ x ∈ partsT t, cnt x ≤ cnt t := fun x hx => (addP_cnt t [] x hx).resolve_left (by simp)
set_option maxRecDepth 100000 in
theorem addP_kids (t : Tm) : okT t = true → ∀ acc, (∀ x ∈ acc, okT x = true) → t ∈ addP t acc ∧ ∀ x ∈ addP t acc, x ∈ acc ∨ ∀ y ∈ x.l, y ∈ addP t acc := by
  induction t using Tm.ind with
  | h t ih =>
    intro ho
    have key : ∀ (l : List Tm), (∀ x ∈ l, x ∈ t.l) → ∀ acc, (∀ x ∈ acc, okT x = true) → (∀ y ∈ l, y ∈ addK l acc) ∧ ∀ x ∈ addK l acc, x ∈ acc ∨ ∀ y ∈ x.l, y ∈ addK l acc := by
      intro l
      induction l with
      | nil => intro _ acc _; exact ⟨fun y hy => (by cases hy), fun x hx => Or.inl hx⟩
      | cons z l ih2 =>
        intro h acc hacc
        rw [addK_cons]
        have hz := h z (List.mem_cons_self ..)
        have hzo := okT_kid ho hz
        obtain ⟨a1, a2⟩ := ih z hz hzo acc hacc
        obtain ⟨b1, b2⟩ := ih2 (fun y hy => h y (List.mem_cons_of_mem _ hy)) (addP z acc) (addP_ok z hzo acc hacc)
        obtain ⟨s, hs⟩ := addK_pre l (addP z acc)
        have sub : ∀ y, y ∈ addP z acc → y ∈ addK l (addP z acc) := fun y hy => by rw [hs]; exact List.mem_append.2 (Or.inl hy)
        refine ⟨fun y hy => ?_, fun x hx => ?_⟩
        · rcases List.mem_cons.1 hy with rfl | hy
          · exact sub _ a1
          · exact b1 y hy
        · rcases b2 x hx with h1 | h1
          · rcases a2 x h1 with h2 | h2
            · exact Or.inl h2
            · exact Or.inr (fun y hy => sub y (h2 y hy))
          · exact Or.inr h1
    intro acc hacc
    rw [addP_eq]
    split
    · next hin =>
      obtain ⟨x, hx, he⟩ := List.any_eq_true.1 hin
      have := txt_inj (hacc x hx) ho (of_decide_eq_true he)
      subst this
      exact ⟨hx, fun y hy => Or.inl hy⟩
    · obtain ⟨a1, a2⟩ := key t.l (fun _ h => h) (acc ++ [t]) (fun x hx => by
        rcases List.mem_append.1 hx with hx | hx
        · exact hacc x hx
        · rw [List.mem_singleton.1 hx]; exact ho)
      obtain ⟨s, hs⟩ := addK_pre t.l (acc ++ [t])
      refine ⟨by rw [hs]; simp, fun x hx => ?_⟩
      rcases a2 x hx with h1 | h1
      · rcases List.mem_append.1 h1 with h2 | h2
        · exact Or.inl h2
        · rw [List.mem_singleton.1 h2]; exact Or.inr a1
      · exact Or.inr h1
set_option maxRecDepth 100000 in
theorem partsT_kids {t : Tm} (ho : okT t = true) : ∀ x ∈ partsT t, ∀ y ∈ x.l, y ∈ partsT t := fun x hx => ((addP_kids t ho [] (fun x hx => by cases hx)).2 x hx).resolve_left (by simp)
set_option maxRecDepth 100000 in
theorem partsT_len (t : Tm) : (partsT t).length ≤ cnt t := by
  have := addP_len t []
  simpa [partsT] using this
section
variable {w w' : World}
set_option maxRecDepth 100000 in
theorem UX.elem {lo hi : Nat} {v : Value} {l : List Tm} (h : UX lo hi w v l) {i : Nat} {x : Tm} (hx : l[i]? = some x) : ∃ b cap s zx, v = .slice (some ⟨b, 0, none⟩) l.length cap ∧ (w.cell? ⟨b, i * 3, none⟩ = some (.int .i64 x.k) ∧ w.cell? ⟨b, i * 3 + 1, none⟩ = some (.int .i64 x.n) ∧ w.cell? ⟨b, i * 3 + 2, none⟩ = some s) ∧ SlX w s x.l zx ∧ zx.Nodup ∧ ∀ q ∈ zx, lo ≤ q ∧ q < w.heap.size := by
  obtain ⟨xs, hs, hn, hb⟩ := h
  obtain ⟨b, cap, y1, y, y2, s, hv, rfl, c0, c1, c2, hx2⟩ := hs.cells hx
  refine ⟨b, cap, s, y, hv, ⟨c0, c1, c2⟩, hx2, ?_, fun q hq => ⟨(hb q (List.mem_cons_of_mem _ (List.mem_append.2 (Or.inr (List.mem_append.2 (Or.inl hq)))))).1, ?_⟩⟩
  · have h1 := (List.nodup_cons.1 hn).2
    have h2 := (List.nodup_append.1 h1).2.1
    exact (List.nodup_append.1 h2).1
  · obtain ⟨ca, e, _⟩ := hx2.plain q hq
    exact (Array.getElem?_eq_some_iff.1 e).1
set_option maxRecDepth 100000 in
theorem UX.two {lo hi : Nat} {v : Value} {l : List Tm} (h : UX lo hi w v l) {i k : Nat} {x y : Tm} (hki : k < i) (hx : l[i]? = some x) (hy : l[k]? = some y) : ∃ b cap sx sy zx zy, v = .slice (some ⟨b, 0, none⟩) l.length cap ∧ (w.cell? ⟨b, i * 3, none⟩ = some (.int .i64 x.k) ∧ w.cell? ⟨b, i * 3 + 1, none⟩ = some (.int .i64 x.n) ∧ w.cell? ⟨b, i * 3 + 2, none⟩ = some sx) ∧
    (w.cell? ⟨b, k * 3, none⟩ = some (.int .i64 y.k) ∧ w.cell? ⟨b, k * 3 + 1, none⟩ = some (.int .i64 y.n) ∧ w.cell? ⟨b, k * 3 + 2, none⟩ = some sy) ∧ SlX w sx x.l zx ∧ SlX w sy y.l zy ∧ zx.Nodup ∧ (∀ q ∈ zx, q < w.heap.size) ∧ ∀ q ∈ zy, q < w.heap.size ∧ q ∉ zx := by
  obtain ⟨xs, ⟨cap, hc, ⟨h0, _⟩ | ⟨h0, b, ys, cs, ca, hv, rfl, hb, hj, hxc⟩⟩, hn, _⟩ := h
  · have := (List.getElem?_eq_some_iff.1 hx).1; omega
  · obtain ⟨s, y1, yx, y2, rfl, e1, e2, e3, e4, e5, _⟩ := hxc.split hx
    obtain ⟨s', z1, yy, z2, rfl, f1, f2, f3, f4, _, _⟩ := e5.split (i := k) (t := y) (by rw [List.getElem?_take_of_lt hki]; exact hy)
    have hcell : ∀ (j : Nat) (u : Value), cs[j]? = some u → w.cell? ⟨b, j, none⟩ = some u := fun j u hu => by
      unfold World.cell?
      simp only [hb]
      exact hj j u hu
    have tk : ∀ (j : Nat) (u : Value), (cs.take (i * 3))[j]? = some u → cs[j]? = some u := fun j u hu => by
      have := (List.getElem?_eq_some_iff.1 hu).1
      rw [List.length_take] at this
      rwa [List.getElem?_take_of_lt (by omega)] at hu
    have hX := (KX_iff x s yx).1 e4
    have hY := (KX_iff y s' yy).1 f4
    have h1 := (List.nodup_cons.1 hn).2
    obtain ⟨h2, h3, h4⟩ := List.nodup_append.1 h1
    refine ⟨b, cap, s, s', yx, yy, hv, ⟨hcell _ _ e1, hcell _ _ e2, hcell _ _ e3⟩, ⟨hcell _ _ (tk _ _ f1), hcell _ _ (tk _ _ f2), hcell _ _ (tk _ _ f3)⟩, hX, hY, (List.nodup_append.1 h3).1, fun q hq => ?_, fun q hq => ⟨?_, fun hc' => ?_⟩⟩
    · obtain ⟨ca, e, _⟩ := hX.plain q hq
      exact (Array.getElem?_eq_some_iff.1 e).1
    · obtain ⟨ca, e, _⟩ := hY.plain q hq
      exact (Array.getElem?_eq_some_iff.1 e).1
    · exact h4 q (List.mem_append.2 (Or.inr (List.mem_append.2 (Or.inl hq)))) q (List.mem_append.2 (Or.inl hc')) rfl
end
end Go.Proofs.YtbiinchmbclmcaaDoor
