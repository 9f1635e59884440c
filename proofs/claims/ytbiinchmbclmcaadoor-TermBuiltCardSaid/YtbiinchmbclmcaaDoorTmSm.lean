/- Package term: what Same holds to on its way. -/
import Derived.Test.YtbiinchmbclmcaaDoorTmStk
namespace Go.Proofs.YtbiinchmbclmcaaDoor
open Go Go.RowKit
def under (P : List Pd2) : List Nat := P.flatMap fun p => p.2.2.tail
set_option maxRecDepth 100000 in
theorem under_snoc (P : List Pd2) (p : Pd2) : under (P ++ [p]) = under P ++ p.2.2.tail := by simp [under]
set_option maxRecDepth 100000 in
theorem under_ahead {P : List Pd2} {b : Nat} (h : b ∈ under P) : b ∈ ahead P := by
  simp only [under, ahead, List.mem_flatMap] at h ⊢
  obtain ⟨p, hp, hb⟩ := h
  exact ⟨p, hp, List.mem_of_mem_tail hb⟩
structure Sm (F : Nat → Prop) (w0 w : World) (m : Nat) (ks : List Ky) (v : Value) (cs : List Value) (A : List Nat) (P : List Pd2) : Prop where
  bel : Below w0.heap.size w0 w
  mnew : w0.heap.size ≤ m
  own : w.ownsRow w0.heap.size 44 2 v P.length cs
  stk : StkX F w P cs
  pos : ∀ p ∈ P, 0 < p.1.length
  nd : (A ++ ahead P).Nodup
  al : ∀ b ∈ A ++ ahead P, ¬ F b ∧ b < w.heap.size ∧ some b ≠ v.ownBlock ∧ b ≠ m
  fl : ∀ b, F b → b < w.heap.size ∧ some b ≠ v.ownBlock ∧ b ≠ m
  keys : KeysAt w m ks
  plain : PlainKeys w ks
  kn : ∀ q ∈ ks, q.1 ∉ A ++ under P ∧ ¬ F q.1 ∧ some q.1 ≠ v.ownBlock
set_option maxRecDepth 100000 in
theorem KeysAt.lt {w : World} {m : Nat} {ks : List Ky} (h : KeysAt w m ks) : m < w.heap.size := by
  obtain ⟨es, c, h1, _⟩ := h
  exact (Array.getElem?_eq_some_iff.1 h1).1
set_option maxRecDepth 100000 in
theorem KeysAt.keep {w w' : World} {m : Nat} {ks : List Ky} (h : KeysAt w m ks) (hk : w'.heap[m]? = w.heap[m]?) : KeysAt w' m ks := by
  obtain ⟨es, c, h1, h2⟩ := h
  exact ⟨es, c, by rw [hk]; exact h1, h2⟩
set_option maxRecDepth 100000 in
theorem PlainKeys.keep {w w' : World} {ks : List Ky} (h : PlainKeys w ks) (hk : ∀ q ∈ ks, w'.heap[q.1]? = w.heap[q.1]?) : PlainKeys w' ks := by
  intro q hq
  obtain ⟨c, t, h1⟩ := h q hq
  exact ⟨c, t, by rw [hk q hq]; exact h1⟩
set_option maxRecDepth 100000 in
theorem KeysAt.ne {w : World} {m : Nat} {ks : List Ky} (h : KeysAt w m ks) {b : Nat} {c : Array Value} {t : TypeId} {fr : Nat × Nat} (hb : w.heap[b]? = some (.cells c t fr)) : b ≠ m := by
  rintro rfl
  obtain ⟨es, c', h1, _⟩ := h
  rw [h1] at hb; cases hb
set_option maxRecDepth 100000 in
theorem KeysAt.own {w : World} {m : Nat} {ks : List Ky} (h : KeysAt w m ks) {base : Nat} {e : TypeId} {K : Nat} {v : Value} {n : Nat} {cs : List Value} (ho : w.ownsRow base e K v n cs) : some m ≠ v.ownBlock := by
  obtain ⟨es, c', h1, _⟩ := h
  exact own_ne_map ho h1
set_option maxRecDepth 100000 in
theorem keeps_of {F : Nat → Prop} {w w' : World} (h : ∀ b, F b → w'.heap[b]? = w.heap[b]?) : Keeps F F w w' := fun b hF => ⟨hF, fun o u hu => by
  rw [World.cell?_of_block (w := w) (h b hF)]; exact hu⟩
section
variable {F : Nat → Prop} {w0 w w' : World} {m : Nat} {ks : List Ky} {v : Value} {cs : List Value} {A : List Nat} {P : List Pd2}
set_option maxRecDepth 100000 in
theorem Sm.below (h : Sm F w0 w m ks v cs A P) (hb : Below w.heap.size w w') : Sm F w0 w' m ks v cs A P :=
  ⟨h.bel.trans (hb.mono h.bel.size), h.mnew, own_below h.own hb, h.stk.keep (fun b hb' => hb.block b (h.al b (List.mem_append.2 (Or.inr hb'))).2.1) (Keeps.below hb), h.pos, h.nd,
   fun b hb' => ⟨(h.al b hb').1, Nat.lt_of_lt_of_le (h.al b hb').2.1 hb.size, (h.al b hb').2.2⟩, fun b hF => ⟨Nat.lt_of_lt_of_le (h.fl b hF).1 hb.size, (h.fl b hF).2⟩, h.keys.below hb, h.plain.below hb, h.kn⟩
/-- The elements from the i-th on of the list in hand. -/
def Cu (F : Nat → Prop) (w : World) (b0 : Nat) (vy : Value) (l u : List Tm) (i : Nat) (A : List Nat) : Prop :=
  (∃ cs ca, w.heap[b0]? = some (.cells ca 24 (0, 0)) ∧ (∀ (j : Nat) (x : Value), cs[j]? = some x → ca[i * 3 + j]? = some x) ∧ XC w (l.drop i) cs A) ∧ SlT F w vy u
set_option maxRecDepth 100000 in
theorem Cu.keep {b0 : Nat} {vy : Value} {l u : List Tm} {i : Nat} (h : Cu F w b0 vy l u i A) (h0 : w'.heap[b0]? = w.heap[b0]?) (hA : ∀ b ∈ A, w'.heap[b]? = w.heap[b]?) (hF : ∀ b, F b → w'.heap[b]? = w.heap[b]?) : Cu F w' b0 vy l u i A := by
  obtain ⟨⟨cs, ca, h1, h2, h3⟩, h4⟩ := h
  exact ⟨⟨cs, ca, by rw [h0]; exact h1, h2, h3.keep (fun t _ => KX.keep t) hA⟩, h4.keep (keeps_of hF)⟩
structure Si (F : Nat → Prop) (w0 w : World) (m : Nat) (ks : List Ky) (v : Value) (cs : List Value) (g7 b0 : Nat) (vx vy : Value) (l u : List Tm) (i : Nat) (A : List Nat) (P : List Pd2) : Prop where
  sm : Sm F w0 w m ks v cs A P
  cu : Cu F w b0 vy l u i A
  b0f : b0 < w.heap.size ∧ some b0 ≠ v.ownBlock ∧ b0 ≠ m
  row : Row w g7 [vx, vy] 44
  g7v : some g7 ≠ v.ownBlock
variable {g7 b0 : Nat} {vx vy : Value} {l u : List Tm} {i : Nat}
set_option maxRecDepth 100000 in
theorem Si.below (h : Si F w0 w m ks v cs g7 b0 vx vy l u i A P) (hb : Below w.heap.size w w') : Si F w0 w' m ks v cs g7 b0 vx vy l u i A P :=
  ⟨h.sm.below hb, h.cu.keep (hb.block b0 h.b0f.1) (fun b hb' => hb.block b (h.sm.al b (List.mem_append.2 (Or.inl hb'))).2.1) (fun b hF => hb.block b (h.sm.fl b hF).1), ⟨Nat.lt_of_lt_of_le h.b0f.1 hb.size, h.b0f.2⟩, h.row.below' hb, h.g7v⟩
set_option maxRecDepth 100000 in
theorem xc_cons {x : Tm} {r : List Tm} {cs : List Value} {ys : List Nat} (h : XC w (x :: r) cs ys) : ∃ s cs' y1 y2, cs = .int .i64 x.k :: .int .i64 x.n :: s :: cs' ∧ ys = y1 ++ y2 ∧ SlX w s x.l y1 ∧ XC w r cs' y2 := by
  obtain ⟨s, cs', y1, y2, h1, h2, h3, h4⟩ := h
  exact ⟨s, cs', y1, y2, h1, h2, (KX_iff x s y1).1 h3, h4⟩
set_option maxRecDepth 100000 in
/-- The i-th element: its cells, its kids, what is left behind it. -/
theorem Si.elem (h : Si F w0 w m ks v cs g7 b0 vx vy l u i A P) {x : Tm} (hx : l[i]? = some x) : ∃ sx y1 y2, A = y1 ++ y2 ∧ w.cell? ⟨b0, i * 3, none⟩ = some (.int .i64 x.k) ∧ w.cell? ⟨b0, i * 3 + 1, none⟩ = some (.int .i64 x.n) ∧ w.cell? ⟨b0, i * 3 + 2, none⟩ = some sx ∧ SlX w sx x.l y1 ∧ Cu F w b0 vy l u (i + 1) y2 := by
  obtain ⟨⟨cs1, ca, h1, h2, h3⟩, h4⟩ := h.cu
  obtain ⟨hi, hxe⟩ := List.getElem?_eq_some_iff.1 hx
  rw [List.drop_eq_getElem_cons hi, hxe] at h3
  obtain ⟨s, cs', y1, y2, rfl, rfl, e3, e4⟩ := xc_cons h3
  have hcell : ∀ (j : Nat) (z : Value), (Value.int .i64 x.k :: .int .i64 x.n :: s :: cs')[j]? = some z → w.cell? ⟨b0, i * 3 + j, none⟩ = some z := fun j z hz => by
    unfold World.cell?
    simp only [h1]
    exact h2 j z hz
  refine ⟨s, y1, y2, rfl, hcell 0 _ rfl, hcell 1 _ rfl, hcell 2 _ rfl, e3, ⟨cs', ca, h1, fun j z hz => ?_, e4⟩, h4⟩
  have := h2 (j + 3) z (by simpa using hz)
  rw [show (i + 1) * 3 + j = i * 3 + (j + 3) by omega]
  exact this
set_option maxRecDepth 100000 in
theorem Sm.less {y1 y2 : List Nat} (h : Sm F w0 w m ks v cs (y1 ++ y2) P) : Sm F w0 w m ks v cs y2 P :=
  ⟨h.bel, h.mnew, h.own, h.stk, h.pos, (by
    have := h.nd
    rw [List.append_assoc] at this
    exact (List.nodup_append.1 this).2.1), fun b hb => h.al b (by
      rcases List.mem_append.1 hb with hb | hb
      · exact List.mem_append.2 (Or.inl (List.mem_append.2 (Or.inr hb)))
      · exact List.mem_append.2 (Or.inr hb)), h.fl, h.keys, h.plain, fun q hq => ⟨fun hc => (h.kn q hq).1 (by
      rcases List.mem_append.1 hc with hb | hb
      · exact List.mem_append.2 (Or.inl (List.mem_append.2 (Or.inr hb)))
      · exact List.mem_append.2 (Or.inr hb)), (h.kn q hq).2⟩⟩
set_option maxRecDepth 100000 in
theorem Si.next {y1 y2 : List Nat} (h : Si F w0 w m ks v cs g7 b0 vx vy l u i (y1 ++ y2) P) (hc : Cu F w b0 vy l u (i + 1) y2) : Si F w0 w m ks v cs g7 b0 vx vy l u (i + 1) y2 P :=
  ⟨h.sm.less, hc, h.b0f, h.row, h.g7v⟩
set_option maxRecDepth 100000 in
/-- A pair of kids is pushed: their key is in the map, the pair in the row. -/
theorem Si.push {y2 ys : List Nat} {b1 c1 : Nat} {wB wC wD : World} {x y : Tm} {sy v' : Value} (h : Si F w0 w m ks v cs g7 b0 vx vy l u i ((b1 :: ys) ++ y2) P) (hc : Cu F w b0 vy l u (i + 1) y2)
    (hsx : SlX w (.slice (some ⟨b1, 0, none⟩) x.l.length c1) x.l (b1 :: ys)) (hsy : SlT F w sy y.l) (hlen : x.l.length = y.l.length) (hpos : 0 < x.l.length)
    (hk : KeysAt wB m (ks ++ [(b1, 0, x.l.length)])) (hu : Upd m w wB) (hb : Below wB.heap.size wB wC)
    (ho : wD.ownsRow w0.heap.size 44 2 v' (P.length + 1) (cs ++ [.slice (some ⟨b1, 0, none⟩) x.l.length c1, sy])) (hg : wC.grownBy wD v.ownBlock) (hl : v'.ownBlock = v.ownBlock ∨ v'.ownBlock = some wC.heap.size) :
    Si F w0 wD m (ks ++ [(b1, 0, x.l.length)]) v' (cs ++ [.slice (some ⟨b1, 0, none⟩) x.l.length c1, sy]) g7 b0 vx vy l u (i + 1) y2 (P ++ [(x.l, y.l, b1 :: ys)]) := by
  have s1 := hu.size
  have s2 := hb.size
  have s3 := hg.size
  have kp : ∀ b, b < w.heap.size → b ≠ m → some b ≠ v.ownBlock → wD.heap[b]? = w.heap[b]? := fun b h1 h2 h3 => by
    rw [hg.block b (by omega) h3, hb.block b (by omega), hu.block b h1 h2]
  have ne' : ∀ b, b < w.heap.size → some b ≠ v.ownBlock → some b ≠ v'.ownBlock := fun b h1 h3 => by
    rcases hl with h4 | h4
    · rw [h4]; exact h3
    · rw [h4]; intro he; have := Option.some.inj he; omega
  have kA : ∀ b ∈ ((b1 :: ys) ++ y2) ++ ahead P, wD.heap[b]? = w.heap[b]? := fun b hb' => kp b (h.sm.al b hb').2.1 (h.sm.al b hb').2.2.2 (h.sm.al b hb').2.2.1
  have kF : ∀ b, F b → wD.heap[b]? = w.heap[b]? := fun b hF => kp b (h.sm.fl b hF).1 (h.sm.fl b hF).2.2 (h.sm.fl b hF).2.1
  have hperm : (((b1 :: ys) ++ y2) ++ ahead P).Perm (y2 ++ ahead (P ++ [(x.l, y.l, b1 :: ys)])) := by
    rw [ahead_snoc, List.append_assoc, ← List.append_assoc y2]
    exact List.perm_append_comm
  have hin : ∀ b, b ∈ y2 ++ ahead (P ++ [(x.l, y.l, b1 :: ys)]) → b ∈ ((b1 :: ys) ++ y2) ++ ahead P := fun b hb' => hperm.symm.subset hb'
  have hmlt : m < w.heap.size := h.sm.keys.lt
  have hmo : some m ≠ v.ownBlock := h.sm.keys.own h.sm.own
  have hkq : ∀ q ∈ ks, wD.heap[q.1]? = w.heap[q.1]? := fun q hq => by
    obtain ⟨c, t, e⟩ := h.sm.plain q hq
    exact kp q.1 (Array.getElem?_eq_some_iff.1 e).1 (h.sm.keys.ne e) (h.sm.kn q hq).2.2
  have hb1 : b1 ∈ ((b1 :: ys) ++ y2) ++ ahead P := by simp
  have hnd := h.sm.nd
  refine ⟨⟨?_, h.sm.mnew, ?_, ?_, ?_, hperm.nodup_iff.1 h.sm.nd, ?_, ?_, ?_, ?_, ?_⟩, ?_, ⟨by have := h.b0f.1; omega, ne' b0 h.b0f.1 h.b0f.2.1, h.b0f.2.2⟩, ?_, ne' g7 h.row.lt h.g7v⟩
  · have e1 := below_upd h.sm.bel hu h.sm.mnew h.sm.bel.size
    have e2 := e1.trans (hb.mono e1.size)
    exact e2.trans ⟨hg.os, hg.tape, hg.output, hg.size, fun k hk' => hg.block k (by have := e2.size; omega) (fun he => by have := (own_block h.sm.own he.symm).1; omega)⟩
  · rw [List.length_append]; exact ho
  · refine (h.sm.stk.keep (fun b hb' => kA b (List.mem_append.2 (Or.inr hb'))) (keeps_of kF)).snoc (p := (x.l, y.l, b1 :: ys)) (hsx.keep (fun b hb' => kA b (List.mem_append.2 (Or.inl (List.mem_append.2 (Or.inl hb')))))) (hsy.keep (keeps_of kF)) hlen
  · intro p hp
    rcases List.mem_append.1 hp with hp | hp
    · exact h.sm.pos p hp
    · rw [List.mem_singleton.1 hp]; exact hpos
  · intro b hb'
    obtain ⟨a1, a2, a3, a4⟩ := h.sm.al b (hin b hb')
    exact ⟨a1, by omega, ne' b a2 a3, a4⟩
  · intro b hF
    obtain ⟨a1, a2, a3⟩ := h.sm.fl b hF
    exact ⟨by omega, ne' b a1 a2, a3⟩
  · exact hk.keep (by rw [hg.block m (by omega) hmo, hb.block m (by omega)])
  · intro q hq
    rcases List.mem_append.1 hq with hq | hq
    · exact h.sm.plain.keep hkq q hq
    · rw [List.mem_singleton.1 hq]
      obtain ⟨ca, e, _⟩ := hsx.plain b1 (by simp)
      exact ⟨ca, _, by rw [kA b1 hb1]; exact e⟩
  · intro q hq
    rw [under_snoc]
    rcases List.mem_append.1 hq with hq | hq
    · obtain ⟨a1, a2, a3⟩ := h.sm.kn q hq
      obtain ⟨c, t, e⟩ := h.sm.plain q hq
      refine ⟨fun hc => a1 ?_, a2, ne' q.1 (Array.getElem?_eq_some_iff.1 e).1 a3⟩
      rcases List.mem_append.1 hc with hc | hc
      · exact List.mem_append.2 (Or.inl (List.mem_append.2 (Or.inr hc)))
      · rcases List.mem_append.1 hc with hc | hc
        · exact List.mem_append.2 (Or.inr hc)
        · exact List.mem_append.2 (Or.inl (List.mem_append.2 (Or.inl (List.mem_cons_of_mem _ hc))))
    · rw [List.mem_singleton.1 hq]
      obtain ⟨a1, a2, a3, a4⟩ := h.sm.al b1 hb1
      refine ⟨fun hc => ?_, a1, ne' b1 a2 a3⟩
      rw [List.cons_append, List.cons_append, List.nodup_cons] at hnd
      refine hnd.1 ?_
      rcases List.mem_append.1 hc with hc | hc
      · exact List.mem_append.2 (Or.inl (List.mem_append.2 (Or.inr hc)))
      · rcases List.mem_append.1 hc with hc | hc
        · exact List.mem_append.2 (Or.inr (under_ahead hc))
        · exact List.mem_append.2 (Or.inl (List.mem_append.2 (Or.inl hc)))
  · exact hc.keep (kp b0 h.b0f.1 h.b0f.2.2 h.b0f.2.1) (fun b hb' => kA b (List.mem_append.2 (Or.inl (List.mem_append.2 (Or.inr hb'))))) kF
  · unfold Row
    rw [kp g7 h.row.lt (h.sm.keys.ne h.row) h.g7v]
    exact h.row
set_option maxRecDepth 100000 in
/-- The last pair is taken off. -/
theorem Sm.pop {P0 : List Pd2} {l u : List Tm} {xs : List Nat} {bv n cap : Nat} (h : Sm F w0 w m ks (.slice (some ⟨bv, 0, none⟩) (n + 1) cap) cs [] (P0 ++ [(l, u, xs)])) (hn : P0.length = n) :
    ∃ cs0 b0 c0 A vy, cs = cs0 ++ [.slice (some ⟨b0, 0, none⟩) l.length c0, vy] ∧ cs0.length = n * 2 ∧ w.cell? ⟨bv, n * 2, none⟩ = some (.slice (some ⟨b0, 0, none⟩) l.length c0) ∧ w.cell? ⟨bv, n * 2 + 1, none⟩ = some vy ∧ l.length = u.length ∧ 0 < l.length ∧ SlT F w vy u ∧
      ∀ w' g7, Below w.heap.size w w' → w.heap.size ≤ g7 → Row w' g7 [.slice (some ⟨b0, 0, none⟩) l.length c0, vy] 44 → Si F w0 w' m ks (.slice (some ⟨bv, 0, none⟩) n cap) cs0 g7 b0 (.slice (some ⟨b0, 0, none⟩) l.length c0) vy l u 0 A P0 := by
  obtain ⟨cs0, vx, vy, rfl, hst, hx, hy, hl⟩ := h.stk.last
  have hpos : 0 < l.length := h.pos (l, u, xs) (by simp)
  obtain ⟨c0, hc0, ⟨h0, _⟩ | ⟨h0, b0, A, csx, ca, hv, hxs, hb, hj, hxc⟩⟩ := hx
  · exact absurd h0 (by simp only at hpos ⊢; omega)
  simp only at hv hxs hl hpos hj hb hxc hc0
  subst hv hxs
  have hcl : cs0.length = n * 2 := by rw [hst.len, hn]
  have ho := h.own
  rw [List.length_append, hn, List.length_singleton] at ho
  have hcells : ∀ j z, (cs0 ++ [Value.slice (some ⟨b0, 0, none⟩) l.length c0, vy])[j]? = some z → w.cell? ⟨bv, j, none⟩ = some z := fun j z hz => by
    obtain ⟨_, h2⟩ := ho
    rcases h2 with ⟨h3, _⟩ | ⟨g', cap', cur, hv, hb', hh, hn', hmx, hs, htk⟩
    · cases h3
    · simp only [Value.slice.injEq, Option.some.injEq, Addr.mk.injEq] at hv
      obtain ⟨⟨rfl, _, _⟩, _, rfl⟩ := hv
      rw [← htk] at hz
      have hlt := (List.getElem?_eq_some_iff.1 hz).1
      rw [List.length_take] at hlt
      rw [List.getElem?_take_of_lt (by omega)] at hz
      unfold World.cell?
      simp only [hh]
      simpa using hz
  refine ⟨cs0, b0, c0, A, vy, rfl, hcl, hcells (n * 2) _ (by rw [List.getElem?_append_right (by omega), hcl, Nat.sub_self]; rfl), hcells (n * 2 + 1) _ (by rw [List.getElem?_append_right (by omega), hcl]; simp), hl, hpos, hy, fun w' g7 hb' hg hr => ?_⟩
  have ha : ahead (P0 ++ [(l, u, b0 :: A)]) = ahead P0 ++ b0 :: A := ahead_snoc _ _
  have hun : under (P0 ++ [(l, u, b0 :: A)]) = under P0 ++ A := under_snoc _ _
  have hperm : ([] ++ ahead (P0 ++ [(l, u, b0 :: A)])).Perm (b0 :: (A ++ ahead P0)) := by
    rw [List.nil_append, ha]
    exact List.perm_append_comm
  have hnd := hperm.nodup_iff.1 h.nd
  have hin : ∀ b, b ∈ b0 :: (A ++ ahead P0) → b ∈ [] ++ ahead (P0 ++ [(l, u, b0 :: A)]) := fun b hb2 => hperm.symm.subset hb2
  have hb0 := h.al b0 (hin b0 (by simp))
  have h1 : Sm F w0 w m ks (.slice (some ⟨bv, 0, none⟩) n cap) cs0 A P0 :=
    ⟨h.bel, h.mnew, by rw [hn]; exact cut_own ho hcl, hst, fun p hp => h.pos p (List.mem_append.2 (Or.inl hp)), (List.nodup_cons.1 hnd).2, fun b hb2 => h.al b (hin b (List.mem_cons_of_mem _ hb2)), h.fl, h.keys, h.plain, fun q hq => ⟨fun hc => (h.kn q hq).1 (by
      rw [List.nil_append, hun]
      rcases List.mem_append.1 hc with hc | hc
      · exact List.mem_append.2 (Or.inr hc)
      · exact List.mem_append.2 (Or.inl hc)), (h.kn q hq).2⟩⟩
  have hcu : Cu F w b0 vy l u 0 A := ⟨⟨csx, ca, hb, fun j z hz => by rw [Nat.zero_mul, Nat.zero_add]; exact hj j z hz, hxc⟩, hy⟩
  refine ⟨h1.below hb', hcu.keep (hb'.block b0 hb0.2.1) (fun b hb2 => hb'.block b (h1.al b (List.mem_append.2 (Or.inl hb2))).2.1) (fun b hF => hb'.block b (h1.fl b hF).1), ⟨Nat.lt_of_lt_of_le hb0.2.1 hb'.size, hb0.2.2⟩, hr, fun he => ?_⟩
  have := (own_block h1.own he.symm).2
  omega
set_option maxRecDepth 100000 in
theorem Si.push2 {y2 ys : List Nat} {b1 c1 : Nat} {wA wB wC wD : World} {x y : Tm} {sy v' : Value} (h : Si F w0 w m ks v cs g7 b0 vx vy l u i ((b1 :: ys) ++ y2) P) (hc : Cu F w b0 vy l u (i + 1) y2)
    (hsx : SlX w (.slice (some ⟨b1, 0, none⟩) x.l.length c1) x.l (b1 :: ys)) (hsy : SlT F w sy y.l) (hlen : x.l.length = y.l.length) (hpos : 0 < x.l.length) (hA : Below w.heap.size w wA)
    (hk : KeysAt wB m (ks ++ [(b1, 0, x.l.length)])) (hu : Upd m wA wB) (hb : Below wB.heap.size wB wC)
    (ho : wD.ownsRow w0.heap.size 44 2 v' (P.length + 1) (cs ++ [.slice (some ⟨b1, 0, none⟩) x.l.length c1, sy])) (hg : wC.grownBy wD v.ownBlock) (hl : v'.ownBlock = v.ownBlock ∨ v'.ownBlock = some wC.heap.size) :
    Si F w0 wD m (ks ++ [(b1, 0, x.l.length)]) v' (cs ++ [.slice (some ⟨b1, 0, none⟩) x.l.length c1, sy]) g7 b0 vx vy l u (i + 1) y2 (P ++ [(x.l, y.l, b1 :: ys)]) :=
  (h.below hA).push (hc.keep (hA.block b0 h.b0f.1) (fun b hb' => hA.block b (h.sm.al b (List.mem_append.2 (Or.inl (List.mem_append.2 (Or.inr hb'))))).2.1) (fun b hF => hA.block b (h.sm.fl b hF).1))
    (hsx.keep (fun b hb' => hA.block b (h.sm.al b (List.mem_append.2 (Or.inl (List.mem_append.2 (Or.inl hb'))))).2.1)) (hsy.keep (keeps_of fun b hF => hA.block b (h.sm.fl b hF).1)) hlen hpos hk hu hb ho hg hl
set_option maxRecDepth 100000 in
theorem pos_wt {P : List Pd2} (h : ∀ p ∈ P, 0 < p.1.length) : P.length ≤ wtP P := by
  induction P with
  | nil => exact Nat.zero_le _
  | cons p P ih =>
    have h1 := ih (fun q hq => h q (List.mem_cons_of_mem _ hq))
    have h2 := h p (List.mem_cons_self ..)
    have h3 : ∀ l : List Tm, l.length ≤ wt l := by
      intro l
      induction l with
      | nil => exact Nat.le_refl _
      | cons x l ih => have := cnt_pos x; simp only [wt, List.map_cons, List.sum_cons, List.length_cons] at ih ⊢; omega
    have h4 := h3 p.1
    have h5 : wtP (p :: P) = wt p.1 + wtP P := by simp [wtP]
    rw [List.length_cons, h5]; omega
set_option maxRecDepth 100000 in
theorem q_push {P : List Pd2} {l m : List Tm} {k : Nat} {x y : Tm} {ys : List Nat} (hx : l[k]? = some x) (hy : m[k]? = some y) (ha : alike x y) : (PEq P ∧ l.drop k = m.drop k) ↔ (PEq (P ++ [(x.l, y.l, ys)]) ∧ l.drop (k + 1) = m.drop (k + 1)) := by
  rw [drop_step hx hy, tm_eq_iff, PEq.snoc]
  constructor
  · rintro ⟨h1, ⟨_, h2⟩, h3⟩; exact ⟨⟨h1, h2⟩, h3⟩
  · rintro ⟨⟨h1, h2⟩, h3⟩; exact ⟨h1, ⟨ha, h2⟩, h3⟩
set_option maxRecDepth 100000 in
theorem q_next {P : List Pd2} {l m : List Tm} {k : Nat} {x y : Tm} (hx : l[k]? = some x) (hy : m[k]? = some y) (ha : alike x y) (h0 : x.l.length = 0) : (PEq P ∧ l.drop k = m.drop k) ↔ (PEq P ∧ l.drop (k + 1) = m.drop (k + 1)) := by
  have e1 : x.l = [] := List.eq_nil_of_length_eq_zero h0
  have e2 : y.l = [] := List.eq_nil_of_length_eq_zero (by have := ha.2.2; omega)
  rw [drop_step hx hy, tm_eq_iff, e1, e2]
  constructor
  · rintro ⟨h1, _, h3⟩; exact ⟨h1, h3⟩
  · rintro ⟨h1, h3⟩; exact ⟨h1, ⟨ha, rfl⟩, h3⟩
set_option maxRecDepth 100000 in
theorem q_no {P : List Pd2} {l m : List Tm} {k : Nat} {x y : Tm} (hx : l[k]? = some x) (hy : m[k]? = some y) (ha : ¬ alike x y) : ¬ (PEq P ∧ l.drop k = m.drop k) := by
  rw [drop_step hx hy, tm_eq_iff]
  rintro ⟨_, ⟨h, _⟩, _⟩
  exact ha h
set_option maxRecDepth 100000 in
theorem Si.done (h : Si F w0 w m ks v cs g7 b0 vx vy l u l.length A P) : Sm F w0 w m ks v cs [] P := by
  obtain ⟨⟨cs1, ca, h1, h2, h3⟩, h4⟩ := h.cu
  rw [List.drop_length] at h3
  obtain ⟨_, rfl⟩ := h3
  exact h.sm
end
set_option maxRecDepth 100000 in
/-- At the start: the two terms, each in a slice of its own. -/
theorem same_start {F : Nat → Prop} {w w3 w4 w5 w6 : World} {m g4 g5 g6 : Nat} {t u : Tm} {s v : Value} {xs : List Nat} (hxs : SlX w s t.l xs) (hnd : xs.Nodup) (hv : SlT F w v u.l) (hF : ∀ b, F b → b < w.heap.size ∧ b ∉ xs)
    (b3 : Below w.heap.size w w3) (hmap : w3.heap[m]? = some (.map #[] 0)) (hm : w.heap.size ≤ m) (b4 : Below w3.heap.size w3 w4) (n4 : w3.heap.size ≤ g4) (r4 : Row w4 g4 (tcs t s) 24) (b5 : Below w4.heap.size w4 w5) (n5 : w4.heap.size ≤ g5) (r5 : Row w5 g5 (tcs u v) 24)
    (b6 : Below w5.heap.size w5 w6) (n6 : w5.heap.size ≤ g6) (r6 : Row w6 g6 [.slice (some ⟨g4, 0, none⟩) 1 1, .slice (some ⟨g5, 0, none⟩) 1 1] 44) :
    Sm (fun b => F b ∨ b = g5) w w6 m [] (.slice (some ⟨g6, 0, none⟩) 1 1) [.slice (some ⟨g4, 0, none⟩) 1 1, .slice (some ⟨g5, 0, none⟩) 1 1] [] [([t], [u], g4 :: xs)] := by
  have z3 := b3.size
  have z4 := b4.size
  have z5 := b5.size
  have z6 := b6.size
  have l4 := r4.lt
  have l5 := r5.lt
  have l6 := r6.lt
  have lm : m < w3.heap.size := (Array.getElem?_eq_some_iff.1 hmap).1
  have bel : Below w.heap.size w w6 := ((b3.trans (b4.mono z3)).trans (b5.mono (by omega))).trans (b6.mono (by omega))
  have hxl : ∀ b ∈ xs, b < w.heap.size := fun b hb => by
    obtain ⟨ca, e, _⟩ := hxs.plain b hb
    exact (Array.getElem?_eq_some_iff.1 e).1
  have r46 : Row w6 g4 (tcs t s) 24 := (r4.below' b5).below' b6
  have r56 : Row w6 g5 (tcs u v) 24 := r5.below' b6
  have hm6 : w6.heap[m]? = some (.map #[] 0) := by rw [b6.block m (by omega), b5.block m (by omega), b4.block m lm]; exact hmap
  have hal : ∀ b ∈ ([] : List Nat) ++ ahead [([t], [u], g4 :: xs)], ¬ (F b ∨ b = g5) ∧ b < w6.heap.size ∧ some b ≠ (Value.slice (some ⟨g6, 0, none⟩) 1 1).ownBlock ∧ b ≠ m := fun b hb => by
    have hb2 : b = g4 ∨ b ∈ xs := by simpa [ahead] using hb
    rcases hb2 with rfl | hb2
    · refine ⟨fun hc => ?_, by omega, fun he => ?_, by omega⟩
      · rcases hc with hc | hc
        · have := (hF b hc).1; omega
        · omega
      · have : b = g6 := Option.some.inj he
        omega
    · have h1 := hxl b hb2
      refine ⟨fun hc => ?_, by omega, fun he => ?_, by omega⟩
      · rcases hc with hc | hc
        · exact (hF b hc).2 hb2
        · omega
      · have : b = g6 := Option.some.inj he
        omega
  refine ⟨bel, hm, ⟨rfl, Or.inr ⟨g6, 1, _, rfl, by omega, r6, Nat.le_refl _, by unfold maxLen; omega, rfl, rfl⟩⟩, ⟨_, _, [], rfl, slx_one r46 (hxs.keep fun b hb => bel.block b (hxl b hb)), ?_, rfl, rfl⟩, fun p hp => by rw [List.mem_singleton.1 hp]; simp, ?_, hal, ?_, ⟨#[], 0, hm6, rfl⟩, fun q hq => (by cases hq), fun q hq => (by cases hq)⟩
  · have hv6 : SlT (fun b => F b ∨ b = g5) w6 v u.l := (hv.keep (keeps_of fun b hb => bel.block b (hF b hb).1)).weak (fun b hb => Or.inl hb)
    exact ⟨_, 1, tcs u v, rfl, Nat.le_refl _, ⟨v, [], rfl, (KS_iff u v).2 hv6, rfl⟩, fun _ => ⟨g5, 0, rfl, Or.inr rfl, fun j z hz => by rw [Nat.zero_add, r56.cell j]; exact hz⟩⟩
  · have : ([] : List Nat) ++ ahead [([t], [u], g4 :: xs)] = g4 :: xs := by simp [ahead]
    rw [this]
    exact List.nodup_cons.2 ⟨fun hc => by have := hxl g4 hc; omega, hnd⟩
  · intro b hb
    rcases hb with hb | rfl
    · have h1 := (hF b hb).1
      refine ⟨by omega, fun he => ?_, by omega⟩
      have : b = g6 := Option.some.inj he
      omega
    · refine ⟨by omega, fun he => ?_, by omega⟩
      have : b = g6 := Option.some.inj he
      omega
end Go.Proofs.YtbiinchmbclmcaaDoor
