/- Arguments as they are read. -/
import Derived.Test.YtnahflppggoplaaNdFrame
namespace Go.Proofs.Ytnahflppggoplaa
open Go Go.ChangeShapes Go.WideShapes Go.ChangeAt Go.RowKit
set_option maxRecDepth 100000 in
theorem map_range_get {α : Type} (f : Nat → α) (n i : Nat) (h : i < n) : ((List.range n).map f)[i]? = some (f i) := by
  simp [h]
set_option maxRecDepth 100000 in
theorem list_one {W : World} {p : Option Addr} {len cap b o : Nat} {α : Type} (B : Nat → α) (g : α → Value) (hc : len ≤ cap) (hp : 0 < len → p = some ⟨b, o, none⟩) (h : ∀ i, i < len → W.cell? ⟨b, o + i, none⟩ = some (g (B i))) :
    SlV 1 W (.slice p len cap) len (((List.range len).map B).map g) := by
  refine ⟨p, cap, rfl, hc, by simp, fun h0 => ⟨b, o, hp h0, fun j u hu => ?_⟩⟩
  have hj : j < len := by
    have := (List.getElem?_eq_some_iff.1 hu).1
    simpa using this
  rw [List.map_map, map_range_get _ _ _ hj] at hu
  rw [h j hj]
  exact hu
set_option maxRecDepth 100000 in
theorem open_strL {H : Type} {enc : TypeId × Value → H} {W : World} {base : Nat} {v : Value} {d : DataW H} {ps : List MemPlace} (hok : Value.okWide Try.prog W .any base 30 v) (h : DataW.Trod enc Try.prog W 0 (fun _ => true) true 30 v d ps) :
    ∃ l : List ByteArray, SlS W v l := by
  obtain ⟨a, len, cap, rfl⟩ := okWide_slice un_strs hok
  obtain ⟨fuel, hf⟩ := h
  rcases Go.Deep.open_slice1 un_strs cells_strT hf with ⟨hcs, _⟩ | ⟨x, l, c, m, n, V, D, Pl, hcs, _, hl, _, hm, _, hel⟩
  · simp [Value.cells] at hcs
    obtain ⟨rfl, rfl, rfl⟩ := hcs
    exact ⟨[], SlV.nil 1 W⟩
  · simp [Value.cells] at hcs
    obtain ⟨rfl, rfl, rfl⟩ := hcs
    have hm' : m = cap := by simpa using hm
    by_cases h0 : 0 < len
    · obtain ⟨b, o, spot⟩ := x
      have hspot : spot = none := by simpa [Addr.add] using World.cell?_spot (hel 0 (by omega)).1
      subst hspot
      obtain ⟨f, hf⟩ := Go.Deep.choose_lt (α := ByteArray) (n := len) (p := fun i t => V i = .string t)
        (fun i hi => by obtain ⟨q, h1, _⟩ := DataW.trod_string Try.underlying9 (hel i (by omega)).2; simp only [List.cons.injEq, and_true] at h1; exact ⟨q, h1⟩)
      refine ⟨(List.range len).map f, ?_⟩
      · have h9 := list_one (W := W) (p := some ⟨b, o, none⟩) (cap := cap) f Value.string (by omega) (fun _ => rfl) (fun i hi => by rw [← Go.WideShapes.add_plain, (hel i (by omega)).1, hf i hi])
        show SlV 1 W _ _ _
        rw [List.length_map, List.length_range]
        exact h9
    · have hz : len = 0 := by omega
      subst hz
      exact ⟨[], ⟨some x, cap, rfl, by omega, by simp [strs], fun h => absurd h (by simp)⟩⟩
set_option maxRecDepth 100000 in
theorem open_u32L {H : Type} {enc : TypeId × Value → H} {W : World} {base : Nat} {v : Value} {d : DataW H} {ps : List MemPlace} (hok : Value.okWide Try.prog W .any base 31 v) (h : DataW.Trod enc Try.prog W 0 (fun _ => true) true 31 v d ps) :
    ∃ l : List Int, SlU W v l ∧ ∀ x ∈ l, 0 ≤ x ∧ x < 4294967296 := by
  obtain ⟨a, len, cap, rfl⟩ := okWide_slice un_u32s hok
  obtain ⟨fuel, hf⟩ := h
  rcases Go.Deep.open_slice1 un_u32s cells_u32 hf with ⟨hcs, _⟩ | ⟨x, l, c, m, n, V, D, Pl, hcs, _, hl, _, hm, _, hel⟩
  · simp [Value.cells] at hcs
    obtain ⟨rfl, rfl, rfl⟩ := hcs
    exact ⟨[], SlV.nil 1 W, by intro x hx; cases hx⟩
  · simp [Value.cells] at hcs
    obtain ⟨rfl, rfl, rfl⟩ := hcs
    have hm' : m = cap := by simpa using hm
    by_cases h0 : 0 < len
    · obtain ⟨b, o, spot⟩ := x
      have hspot : spot = none := by simpa [Addr.add] using World.cell?_spot (hel 0 (by omega)).1
      subst hspot
      obtain ⟨f, hf⟩ := Go.Deep.choose_lt (α := Int) (n := len) (p := fun i t => V i = .int .u32 t ∧ 0 ≤ t ∧ t < 4294967296)
        (fun i hi => by
          obtain ⟨z, h1, _, hwf⟩ := DataW.trod_int un_u32 (hel i (by omega)).2
          simp only [List.cons.injEq, and_true] at h1
          refine ⟨z, h1, ?_⟩
          have := bounds_u32 hwf
          omega)
      refine ⟨(List.range len).map f, ?_, ?_⟩
      · have h9 := list_one (W := W) (p := some ⟨b, o, none⟩) (cap := cap) f (Value.int .u32) (by omega) (fun _ => rfl) (fun i hi => by rw [← Go.WideShapes.add_plain, (hel i (by omega)).1, (hf i hi).1])
        show SlV 1 W _ _ _
        rw [List.length_map, List.length_range]
        exact h9
      · intro x hx
        obtain ⟨i, hi, rfl⟩ := List.mem_map.1 hx
        exact (hf i (List.mem_range.1 hi)).2
    · have hz : len = 0 := by omega
      subst hz
      exact ⟨[], ⟨some x, cap, rfl, by omega, by simp [u32s], fun h => absurd h (by simp)⟩, by intro x hx; cases hx⟩
set_option maxRecDepth 100000 in
theorem weights_mem {H : Type} (P : Program) (e : TypeId) (l : List (DataW H)) (d : DataW H) (hd : d ∈ l) (n : Nat) (hn : n ∈ d.weights P e) : n ∈ DataW.weightsAll P e l := by
  induction l with
  | nil => cases hd
  | cons x l ih =>
    rw [DataW.weightsAll, List.mem_append]
    rcases List.mem_cons.1 hd with rfl | h
    · exact Or.inl hn
    · exact Or.inr (ih h)
set_option maxRecDepth 100000 in
theorem open_pr {H : Type} {enc : TypeId × Value → H} {W : World} {cs : List Value} {n : Nat} {x : DataW H × List MemPlace} (hf : DataW.trod enc Try.prog W 0 (fun _ => true) true n 45 cs = some x) (hwt : ∀ n ∈ x.1.weights Try.prog 45, n ≤ reachBytes) : ∃ p : ByteArray × ByteArray, cs = [.string p.1, .string p.2] ∧ p.1.size ≤ 1152921504606846976 ∧ p.2.size ≤ 1152921504606846976 := by
  have hu : Try.prog.underlying 45 = some (.struct (Try.prog.fieldsOf 45)) := by kernel_rfl
  have h0 : ((Try.prog.fieldsOf 45)[0]?).map (fun f => (f.type, f.offset)) = some (9, 0) := by kernel_rfl
  have h1 : ((Try.prog.fieldsOf 45)[1]?).map (fun f => (f.type, f.offset)) = some (9, 1) := by kernel_rfl
  have hsz : (Try.prog.fieldsOf 45).size = 2 := by kernel_rfl
  have hty : (Try.prog.fieldsOf 45).toList.map (·.type) = [9, 9] := by kernel_rfl
  generalize Try.prog.fieldsOf 45 = fs at hu h0 h1 hsz hty
  obtain ⟨xs, m, rfl, hxe, hl, hxl, hget⟩ := DataW.trod_struct hu hf
  rw [cells_pair] at hl
  have key : ∀ (i : Nat) (T : TypeId), (fs[i]?).map (fun f => (f.type, f.offset)) = some (T, i) → Try.prog.cellsOf T = 1 → i < 2 → ∃ y c, cs[i]? = some c ∧ xs[i]? = some y ∧ DataW.trod enc Try.prog W 0 (fun _ => true) true m T [c] = some y := by
    intro i T hi hc hi5
    obtain ⟨f, hf1, hf2⟩ := Option.map_eq_some_iff.1 hi
    simp only [Prod.mk.injEq] at hf2
    obtain ⟨rfl, hfo⟩ := hf2
    have hg := hget i f hf1
    rw [hc, hfo] at hg
    have hx : xs[i]? = some (xs[i]'(by omega)) := by simp [show i < xs.length by omega]
    rw [hx] at hg
    have hc1 : cs[i]? = some (cs[i]'(by omega)) := by simp [show i < cs.length by omega]
    have hd : (cs.drop i).take 1 = [cs[i]'(by omega)] := by
      rw [List.drop_eq_getElem_cons (show i < cs.length by omega)]
      rfl
    rw [hd] at hg
    exact ⟨_, _, hc1, hx, hg⟩
  obtain ⟨y0, c0, e0, x0, t0⟩ := key 0 _ h0 cells_strT (by omega)
  obtain ⟨y1, c1, e1, x1, t1⟩ := key 1 _ h1 cells_strT (by omega)
  obtain ⟨s0, g0, r0, _⟩ := DataW.trod_string un_strT t0
  obtain ⟨s1, g1, r1, _⟩ := DataW.trod_string un_strT t1
  simp only [List.cons.injEq, and_true] at g0 g1
  subst g0 g1
  have hxs : xs.map (·.1) = [.lit (.string s0.data.toList), .lit (.string s1.data.toList)] := by
    match xs, hxl.trans hsz, x0, x1 with
    | [a, b], _, x0, x1 =>
      simp only [List.getElem?_cons_zero, List.getElem?_cons_succ, Option.some.injEq] at x0 x1
      rw [x0, x1, r0, r1]; rfl
  have hwe : DataW.weights Try.prog 45 (.agg (xs.map (·.1)) : DataW H) = [s0.data.toList.length, s1.data.toList.length] := by
    rw [DataW.weights, hu, hxs]
    show DataW.weightsEach Try.prog (fs.toList.map (·.type)) _ = _
    rw [hty]
    simp [DataW.weightsEach, DataW.weights]
  have w0 := hwt s0.data.toList.length (by rw [hxe]; show _ ∈ DataW.weights _ _ (DataW.agg (xs.map (·.1))); rw [hwe]; simp)
  have w1 := hwt s1.data.toList.length (by rw [hxe]; show _ ∈ DataW.weights _ _ (DataW.agg (xs.map (·.1))); rw [hwe]; simp)
  have z0 : s0.data.toList.length = s0.size := by rw [Array.length_toList]; rfl
  have z1 : s1.data.toList.length = s1.size := by rw [Array.length_toList]; rfl
  unfold reachBytes at w0 w1
  refine ⟨(s0, s1), ?_, by show s0.size ≤ _; omega, by show s1.size ≤ _; omega⟩
  match cs, hl, e0, e1 with
  | [a, b], _, e0, e1 =>
    simp only [List.getElem?_cons_zero, List.getElem?_cons_succ, Option.some.injEq] at e0 e1
    subst e0 e1
    rfl
set_option maxRecDepth 100000 in
theorem open_pairL {H : Type} {enc : TypeId × Value → H} {W : World} {base : Nat} {v : Value} {d : DataW H} {ps : List MemPlace} (hok : Value.okWide Try.prog W .any base 24 v) (h : DataW.Trod enc Try.prog W 0 (fun _ => true) true 24 v d ps) (hwt : ∀ n ∈ d.weights Try.prog 24, n ≤ reachBytes) :
    ∃ l : List (ByteArray × ByteArray), SlP W v l ∧ ∀ p ∈ l, p.1.size ≤ 1152921504606846976 ∧ p.2.size ≤ 1152921504606846976 := by
  obtain ⟨a, len, cap, rfl⟩ := okWide_slice un_pairs hok
  obtain ⟨fuel, hf⟩ := h
  rcases Go.Deep.open_slice un_pairs hf with ⟨hcs, _⟩ | ⟨x, l, c, m, n, D, Pl, hcs, _, hl, _, hm, hx2, hel⟩
  · simp [Value.cells] at hcs
    obtain ⟨rfl, rfl, rfl⟩ := hcs
    exact ⟨[], SlV.nil 2 W, by intro x hx; cases hx⟩
  · simp [Value.cells] at hcs
    obtain ⟨rfl, rfl, rfl⟩ := hcs
    have hm' : m = cap := by simpa using hm
    have hd9 := (Prod.mk.inj hx2).1
    rw [cells_pair] at hel
    by_cases h0 : 0 < len
    · obtain ⟨b, o, spot⟩ := x
      have hspot : spot = none := by
        obtain ⟨cs', h1, _⟩ := hel 0 (by omega)
        obtain ⟨_, h2, h3⟩ := World.cells?_some h1
        have h4 := h3 0 (by omega)
        rw [List.getElem?_eq_getElem (by omega)] at h4
        simpa [Addr.add] using World.cell?_spot h4
      subst hspot
      obtain ⟨f, hf⟩ := Go.Deep.choose_lt (α := ByteArray × ByteArray) (n := len) (p := fun i t => (∀ j u, ([.string t.1, .string t.2] : List Value)[j]? = some u → W.cell? ⟨b, o + i * 2 + j, none⟩ = some u) ∧ t.1.size ≤ 1152921504606846976 ∧ t.2.size ≤ 1152921504606846976)
        (fun i hi => by
          obtain ⟨cs', h1, h2⟩ := hel i (by omega)
          obtain ⟨s, hs, hg⟩ := open_pr h2 (fun n hn => hwt n (by rw [hd9]; exact weights_mem _ _ _ _ (List.mem_map.2 ⟨i, List.mem_range.2 hi, rfl⟩) n hn |> fun h => by rw [DataW.weights, un_pairs]; exact List.mem_cons_of_mem _ (List.mem_append.2 (Or.inl h))))
          obtain ⟨_, h3, h4⟩ := World.cells?_some h1
          refine ⟨s, fun j u hu => ?_, hg⟩
          rw [← hs] at hu
          have hj : j < 2 := by have := (List.getElem?_eq_some_iff.1 hu).1; omega
          have h5 := h4 j hj
          rw [add_at, add_at] at h5
          rw [h5]
          exact hu)
      have hll : ((List.range len).map f).length = len := by simp
      refine ⟨(List.range len).map f, ?_, ?_⟩
      · show SlV 2 W _ _ _
        rw [hll]
        refine ⟨_, cap, rfl, by omega, by rw [prs_length, hll], fun _ => ⟨b, o, rfl, fun j u hu => ?_⟩⟩
        have hj : j < len * 2 := by
          have := (List.getElem?_eq_some_iff.1 hu).1
          rw [prs_length, hll] at this
          exact this
        obtain ⟨e1, e2⟩ := prs_at ((List.range len).map f) (j / 2) (by rw [hll]; omega)
        have hg : ((List.range len).map f).getD (j / 2) (noStr, noStr) = f (j / 2) := by
          simp [show j / 2 < len by omega]
        rw [hg] at e1 e2
        rcases Nat.mod_two_eq_zero_or_one j with h2 | h2
        · have h3 : j / 2 * 2 = j := by omega
          rw [h3, hu] at e1
          have := (hf (j / 2) (by omega)).1 0 u (by rw [e1]; rfl)
          rw [Nat.add_zero, h3] at this
          exact this
        · have h3 : j / 2 * 2 + 1 = j := by omega
          rw [h3, hu] at e2
          have := (hf (j / 2) (by omega)).1 1 u (by rw [e2]; rfl)
          rw [Nat.add_assoc, h3] at this
          exact this
      · intro x hx
        obtain ⟨i, hi, rfl⟩ := List.mem_map.1 hx
        exact (hf i (List.mem_range.1 hi)).2
    · have hz : len = 0 := by omega
      subst hz
      exact ⟨[], ⟨some x, cap, rfl, by omega, by simp [prs], fun h => absurd h (by simp)⟩, by intro x hx; cases hx⟩
set_option maxRecDepth 100000 in
theorem we_cons {H : Type} {P : Program} {t : TypeId} {ts : List TypeId} {d : DataW H} {r : List (DataW H)} (h : (DataW.weightsEach P (t :: ts) (d :: r)).all (· ≤ reachBytes) = true) : (∀ n ∈ d.weights P t, n ≤ reachBytes) ∧ (DataW.weightsEach P ts r).all (· ≤ reachBytes) = true := by
  rw [DataW.weightsEach, List.all_append, Bool.and_eq_true] at h
  refine ⟨fun n hn => ?_, h.2⟩
  have := List.all_eq_true.1 h.1 n hn
  simpa using this
set_option maxRecDepth 100000 in
theorem open_bs {H : Type} {enc : TypeId × Value → H} {W : World} {base : Nat} {v : Value} {d : DataW H} {ps : List MemPlace} (hok : Value.okWide Try.prog W .any base 22 v) (h : DataW.Trod enc Try.prog W 0 (fun _ => true) true 22 v d ps) :
    ∃ cs : List Int, SlOld W v cs ∧ Bytes cs := by
  obtain ⟨a, len, cap, rfl⟩ := okWide_slice un_bs hok
  obtain ⟨fuel, hf⟩ := h
  rcases open_ints un_bs un_u8 cells_u8 hf with ⟨hcs, _⟩ | ⟨x, l, c, zs, hcs, _, hl, _, hz, _, hcell, hwz⟩
  · simp [Value.cells] at hcs
    obtain ⟨rfl, rfl, rfl⟩ := hcs
    exact ⟨[], ⟨none, 0, rfl, Nat.le_refl _, fun h => absurd h (by simp)⟩, by intro y hy; cases hy⟩
  · simp [Value.cells] at hcs
    obtain ⟨rfl, rfl, rfl⟩ := hcs
    have hzl : zs.length = cap := by simpa using hz
    have htl : (zs.take len).length = len := by simp; omega
    refine ⟨zs.take len, ⟨some x, cap, by rw [htl], by rw [htl]; exact hl, fun h0 => ?_⟩, ?_⟩
    · obtain ⟨b, off, rfl, hc⟩ := ints_at hcell (by omega)
      exact ⟨b, off, rfl, Seg.take (fun j hj => hc j hj) len⟩
    · intro y hy
      have := bounds_u8 (hwz y (List.mem_of_mem_take hy))
      omega
end Go.Proofs.Ytnahflppggoplaa
