/- Terms as they come in: every one is a tree in memory. -/
import Derived.ProofKit
import Derived.ChangeArms
import Derived.Deep.Slices
import Derived.Test.YtbiinchmbclmcaaDoorTmParts
namespace Go.Proofs.YtbiinchmbclmcaaDoor
open Go Go.RowKit
set_option maxRecDepth 100000 in
theorem cells_term : Tryd.prog.cellsOf 24 = 3 := by kernel_rfl
set_option maxRecDepth 100000 in
theorem cells_intT : Tryd.prog.cellsOf 3 = 1 := by kernel_rfl
set_option maxRecDepth 100000 in
theorem cells_terms : Tryd.prog.cellsOf 22 = 1 := by kernel_rfl
set_option maxRecDepth 100000 in
/-- As many elements as are read, one after another. -/
theorem open_run {W : World} {b o len : Nat} (h : ∀ i, i < len → ∃ (t : Tm) (s : Value), (∀ j u, (tcs t s)[j]? = some u → W.cell? ⟨b, o + i * 3 + j, none⟩ = some u) ∧ SlT (fun _ => True) W s t.l) : ∀ m, m ≤ len → ∃ (l : List Tm) (cs : List Value), l.length = m ∧ TC (fun _ => True) W l cs ∧ ∀ j u, cs[j]? = some u → W.cell? ⟨b, o + j, none⟩ = some u := by
  intro m
  induction m with
  | zero => intro _; exact ⟨[], [], rfl, rfl, fun j u hu => by simp at hu⟩
  | succ m ih =>
    intro hm
    obtain ⟨l, cs, hl, htc, hc⟩ := ih (by omega)
    obtain ⟨t, s, h1, h2⟩ := h m (by omega)
    refine ⟨l ++ [t], cs ++ tcs t s, by simp [hl], htc.snoc ((KS_iff t s).2 h2), fun j u hu => ?_⟩
    have hlen := htc.len
    by_cases hj : j < cs.length
    · rw [List.getElem?_append_left hj] at hu
      exact hc j u hu
    · rw [List.getElem?_append_right (by omega)] at hu
      have h3 := h1 (j - cs.length) u hu
      rw [show o + m * 3 + (j - cs.length) = o + j by rw [hlen, hl]; rw [hlen, hl] at hj; omega] at h3
      exact h3
set_option maxRecDepth 100000 in
theorem addT (b o i : Nat) : (⟨b, o, none⟩ : Addr).add i = ⟨b, o + i, none⟩ := by
  unfold Addr.add
  by_cases h : i = 0
  · subst h; rfl
  · simp [h]
set_option maxRecDepth 100000 in
theorem open_termC {H : Type} {enc : TypeId × Value → H} {W : World} : ∀ (fuel : Nat) (cs : List Value) (x : DataW H × List MemPlace), DataW.trod enc Tryd.prog W 0 (fun _ => true) true fuel 24 cs = some x → ∃ (t : Tm) (s : Value), cs = tcs t s ∧ SlT (fun _ => True) W s t.l := by
  intro fuel
  induction fuel using Nat.strongRecOn with
  | ind fuel ih =>
  intro cs x hf
  have hu : Tryd.prog.underlying 24 = some (.struct (Tryd.prog.fieldsOf 24)) := by kernel_rfl
  have h0 : ((Tryd.prog.fieldsOf 24)[0]?).map (fun f => (f.type, f.offset)) = some (3, 0) := by kernel_rfl
  have h1 : ((Tryd.prog.fieldsOf 24)[1]?).map (fun f => (f.type, f.offset)) = some (3, 1) := by kernel_rfl
  have h2 : ((Tryd.prog.fieldsOf 24)[2]?).map (fun f => (f.type, f.offset)) = some (22, 2) := by kernel_rfl
  have hsz : (Tryd.prog.fieldsOf 24).size = 3 := by kernel_rfl
  generalize Tryd.prog.fieldsOf 24 = fs at hu h0 h1 h2 hsz
  obtain ⟨xs, m, rfl, hxe, hl, hxl, hget⟩ := DataW.trod_struct hu hf
  rw [cells_term] at hl
  have key : ∀ (i : Nat) (T : TypeId), (fs[i]?).map (fun f => (f.type, f.offset)) = some (T, i) → Tryd.prog.cellsOf T = 1 → i < 3 → ∃ y c, cs[i]? = some c ∧ DataW.trod enc Tryd.prog W 0 (fun _ => true) true m T [c] = some y := by
    intro i T hi hc hi5
    obtain ⟨f, hf1, hf2⟩ := Option.map_eq_some_iff.1 hi
    simp only [Prod.mk.injEq] at hf2
    obtain ⟨rfl, hfo⟩ := hf2
    have hg := hget i f hf1
    rw [hc, hfo] at hg
    have hx : xs[i]? = some (xs[i]'(by omega)) := by simp [show i < xs.length by omega]
    rw [hx] at hg
    have hc1 : cs[i]? = some (cs[i]'(by omega)) := by simp [show i < cs.length by omega]
    have hd : (cs.drop i).take 1 = [cs[i]'(by omega)] := by
      rw [List.drop_eq_getElem_cons (show i < cs.length by omega)]
      rfl
    rw [hd] at hg
    exact ⟨_, _, hc1, hg⟩
  obtain ⟨y0, c0, e0, t0⟩ := key 0 _ h0 cells_intT (by omega)
  obtain ⟨y1, c1, e1, t1⟩ := key 1 _ h1 cells_intT (by omega)
  obtain ⟨y2, c2, e2, t2⟩ := key 2 _ h2 cells_terms (by omega)
  obtain ⟨k, g0, _, _⟩ := DataW.trod_int un_int t0
  obtain ⟨n, g1, _, _⟩ := DataW.trod_int un_int t1
  simp only [List.cons.injEq, and_true] at g0 g1
  subst g0 g1
  have hcs : cs = [.int .i64 k, .int .i64 n, c2] := by
    match cs, hl, e0, e1, e2 with
    | [a, b, c], _, e0, e1, e2 =>
      simp only [List.getElem?_cons_zero, List.getElem?_cons_succ, Option.some.injEq] at e0 e1 e2
      rw [e0, e1, e2]
  suffices hs : ∃ l : List Tm, SlT (fun _ => True) W c2 l by
    obtain ⟨l, hs⟩ := hs
    exact ⟨mkT k n l, c2, hcs, by rw [mkT_l]; exact hs⟩
  rcases DataW.trod_slice un_terms t2 with ⟨hc, _⟩ | ⟨a, len, cap, elems, rest, m2, rfl, hc, _, _, hlc, _, hel, hall, _, _⟩
  · simp only [List.cons.injEq, and_true] at hc
    subst hc
    exact ⟨[], SlT.nil⟩
  · simp only [List.cons.injEq, and_true] at hc
    subst hc
    rw [cells_term] at hall
    by_cases h0 : 0 < len
    · obtain ⟨b, o, spot⟩ := a
      have step : ∀ i, i < len → ∃ cs', W.cells? 0 ((⟨b, o, spot⟩ : Addr).add (i * 3)) 3 = some cs' ∧ ∃ y, DataW.trod enc Tryd.prog W 0 (fun _ => true) true m2 24 cs' = some y := by
        intro i hi
        have hk := hall i hi
        rw [List.getElem?_eq_getElem (by omega)] at hk
        obtain ⟨cs', h3, h4⟩ := Option.bind_eq_some_iff.1 hk
        exact ⟨cs', h3, _, h4⟩
      have hspot : spot = none := by
        obtain ⟨cs', h3, _⟩ := step 0 h0
        obtain ⟨_, h4, h5⟩ := World.cells?_some h3
        have h6 := h5 0 (by omega)
        rw [List.getElem?_eq_getElem (by omega)] at h6
        simpa [Addr.add] using World.cell?_spot h6
      subst hspot
      obtain ⟨l, cs9, hl9, htc, hc9⟩ := open_run (W := W) (b := b) (o := o) (len := len) (fun i hi => by
        obtain ⟨cs', h3, y, h4⟩ := step i hi
        obtain ⟨t, s, he, hst⟩ := ih m2 (by omega) cs' y h4
        subst he
        obtain ⟨_, _, h5⟩ := World.cells?_some h3
        refine ⟨t, s, fun j u hu => ?_, hst⟩
        have hj : j < 3 := (List.getElem?_eq_some_iff.1 hu).1
        have h6 := h5 j hj
        rw [hu] at h6
        rw [addT, addT] at h6
        exact h6) len (Nat.le_refl _)
      subst hl9
      exact ⟨l, _, cap, cs9, rfl, hlc, htc, fun _ => ⟨b, o, rfl, trivial, hc9⟩⟩
    · obtain rfl : len = 0 := by omega
      exact ⟨[], some a, cap, [], rfl, Nat.zero_le _, rfl, fun h => absurd h (by simp)⟩
set_option maxRecDepth 100000 in
/-- An argument of that type. -/
theorem open_term {H : Type} {enc : TypeId × Value → H} {W : World} {v : Value} {d : DataW H} {ps : List MemPlace} (hok : Value.okWide Tryd.prog W .any 0 24 v) (h : DataW.Trod enc Tryd.prog W 0 (fun _ => true) true 24 v d ps) : ∃ (t : Tm) (s : Value), v = .agg (tcs t s).toArray ∧ SlT (fun _ => True) W s t.l := by
  obtain ⟨fuel, hf⟩ := h
  obtain ⟨t, s, hc, hs⟩ := open_termC fuel _ _ hf
  obtain ⟨a, rfl, _⟩ := Go.WideShapes.okWide_struct Tryd.underlying24 hok
  refine ⟨t, s, ?_, hs⟩
  have h2 : a.toList = tcs t s := hc
  rw [← h2]
end Go.Proofs.YtbiinchmbclmcaaDoor
