/- Slices of terms that a call itself makes. -/
import Derived.Test.YtbiinchmbclmcaaDoorTmNumber
namespace Go.Proofs.YtbiinchmbclmcaaDoor
open Go Go.RowKit
set_option maxRecDepth 100000 in
theorem own_upd {w w' : World} {base : Nat} {e : TypeId} {K : Nat} {v : Value} {n g : Nat} {cs : List Value} (h : w.ownsRow base e K v n cs) (hu : Upd g w w') (hg : g < base) : w'.ownsRow base e K v n cs := by
  obtain ⟨hl, h2⟩ := h
  refine ⟨hl, ?_⟩
  rcases h2 with h2 | ⟨b, cap, cur, hv, hb, hh, r⟩
  · exact Or.inl h2
  · exact Or.inr ⟨b, cap, cur, hv, hb, by rw [hu.block b (Array.getElem?_eq_some_iff.1 hh).1 (by omega)]; exact hh, r⟩
set_option maxRecDepth 100000 in
theorem own_block {w : World} {base : Nat} {e : TypeId} {K : Nat} {v : Value} {n b : Nat} {cs : List Value} (h : w.ownsRow base e K v n cs) (hv : v.ownBlock = some b) : base ≤ b ∧ b < w.heap.size := by
  obtain ⟨_, h2⟩ := h
  rcases h2 with ⟨rfl, _⟩ | ⟨q, cap, cur, rfl, hb, hh, _⟩
  · cases hv
  · have : q = b := by simpa [Value.ownBlock] using hv
    subst this
    exact ⟨hb, (Array.getElem?_eq_some_iff.1 hh).1⟩
set_option maxRecDepth 100000 in
theorem upd_grown {w W W' : World} {g base : Nat} {e : TypeId} {K : Nat} {v : Value} {n : Nat} {cs : List Value} (hu : Upd g w W) (hb : w.heap.size ≤ base) (ho : W.ownsRow base e K v n cs) (hg : W.grownBy W' v.ownBlock) : Upd g w W' := by
  refine ⟨hg.os.trans hu.os, hg.tape.trans hu.tape, hg.output.trans hu.output, Nat.le_trans hu.size hg.size, fun k hk hn => ?_⟩
  refine (hg.block k (Nat.lt_of_lt_of_le hk hu.size) (fun he => ?_)).trans (hu.block k hk hn)
  have := (own_block ho he.symm).1
  omega
set_option maxRecDepth 100000 in
theorem row_grown {W W' : World} {g base : Nat} {e u : TypeId} {K : Nat} {v : Value} {n : Nat} {cs l : List Value} (hr : Row W g l u) (hgb : g < base) (ho : W.ownsRow base e K v n cs) (hg : W.grownBy W' v.ownBlock) : Row W' g l u := by
  unfold Row
  rw [hg.block g hr.lt (fun he => by have := (own_block ho he.symm).1; omega)]
  exact hr
/-- Blocks from base on that are there and aren't v's own. -/
def FF (base : Nat) (W : World) (v : Value) : Nat → Prop := fun b => base ≤ b ∧ b < W.heap.size ∧ some b ≠ v.ownBlock
def FN (lo hi : Nat) : Nat → Prop := fun b => lo ≤ b ∧ b < hi
set_option maxRecDepth 100000 in
theorem ff_push {base : Nat} {W W' : World} {v v' : Value} (hg : W.grownBy W' v.ownBlock) (hb : v'.ownBlock = v.ownBlock ∨ v'.ownBlock = some W.heap.size) : Keeps (FF base W v) (FF base W' v') W W' := by
  intro b hF
  refine ⟨⟨hF.1, Nat.lt_of_lt_of_le hF.2.1 hg.size, ?_⟩, fun o u h => ?_⟩
  · rcases hb with hb | hb
    · rw [hb]; exact hF.2.2
    · rw [hb]; intro he; have := Option.some.inj he; have := hF.2.1; omega
  · rw [World.cell?_of_block (w := W) (hg.block b hF.2.1 hF.2.2)]; exact h
set_option maxRecDepth 100000 in
theorem ff_upd {base g : Nat} {W W' : World} {v : Value} (hu : Upd g W W') (hg : g < base) : Keeps (FF base W v) (FF base W' v) W W' := by
  intro b hF
  refine ⟨⟨hF.1, Nat.lt_of_lt_of_le hF.2.1 hu.size, hF.2.2⟩, fun o u h => ?_⟩
  rw [World.cell?_of_block (w := W) (hu.block b hF.2.1 (by have := hF.1; omega))]; exact h
set_option maxRecDepth 100000 in
theorem ff_below {base : Nat} {W W' : World} {v : Value} (hb : Below W.heap.size W W') : Keeps (FF base W v) (FF base W' v) W W' := by
  intro b hF
  refine ⟨⟨hF.1, Nat.lt_of_lt_of_le hF.2.1 hb.size, hF.2.2⟩, fun o u h => ?_⟩
  rw [World.cell?_of_block (w := W) (hb.block b hF.2.1)]; exact h
set_option maxRecDepth 100000 in
theorem ff_of {base lo hi : Nat} {W : World} {v : Value} {e : TypeId} {K n : Nat} {cs : List Value} {W0 : World} (ho : W0.ownsRow base e K v n cs) (h1 : base ≤ lo) (h2 : W0.heap.size ≤ lo) (h3 : hi ≤ W.heap.size) : ∀ b, FN lo hi b → FF base W v b := by
  intro b hb
  refine ⟨by have := hb.1; omega, by have := hb.2; omega, fun he => ?_⟩
  have := (own_block ho he.symm).2
  have := hb.1
  omega
set_option maxRecDepth 100000 in
theorem TC.keeps {F F' : Nat → Prop} {w w' : World} {l : List Tm} {cs : List Value} (h : TC F w l cs) (hk : Keeps F F' w w') : TC F' w' l cs := h.keep (fun t _ => KS.keep hk t)
set_option maxRecDepth 100000 in
theorem SlT.of_own {F F' : Nat → Prop} {w : World} {base : Nat} {v : Value} {l : List Tm} {n : Nat} {cs : List Value} (ho : w.ownsRow base 24 3 v n cs) (hn : l.length = n) (ht : TC F w l cs) (hF : ∀ b, F b → F' b) (hF2 : ∀ b, base ≤ b → b < w.heap.size → F' b) : SlT F' w v l := by
  obtain ⟨p, cap, hv, hc, _, hs⟩ := own_sl ho
  refine ⟨p, cap, cs, by rw [hn]; exact hv, by rw [hn]; exact hc, ht.keeps (Keeps.weak hF), fun h0 => ?_⟩
  obtain ⟨b, off, hp, hseg⟩ := hs (by omega)
  have hb : v.ownBlock = some b := by rw [hv, hp]; rfl
  have h9 := own_block ho hb
  exact ⟨b, off, hp, hF2 b h9.1 h9.2, hseg⟩
section
variable {P : Program} {ops : Array Oper} {rest : List Oper} {a : Act} {w w0 : World} {Q : Exit → Act → World → Prop} {typ : TypeId} {pos : String} {aft : Array Edge} {S : List Nat} {rows : List (Nat × List Value × TypeId)}
set_option maxRecDepth 100000 in
theorem wpl_stwU {Q : Exit → Act → World → Prop} {w0 : World} {S : List Nat} {rows : List (Nat × List Value × TypeId)} {ty : TypeId} {x y : Operand} (i : Nat) {g : Nat} {l : List Value} {t : TypeId} (l' : List Value) (hm : Mem w0 S w rows) (hi : rows[i]? = some (g, l, t)) (hx : a.eval x = .pointer (some ⟨g, 0, none⟩))
    (hy : a.eval y = .agg l'.toArray) (n : Nat) (hs : (P.info? ty).map (·.size) = some n) (hn : l.length = n) (hn' : l'.length = n) (h1 : ∀ v ∈ l', v.oneCell' = true)
    (h : ∀ w', Upd g w w' → Mem w0 S w' (rows.set i (g, l', t)) → wpList P ops Q rest a w') :
    wpList P ops Q ({ dst := none, op := .store ty x y, type := typ, pos := pos, after := aft, guard := none } :: rest) a w := by
  refine wpList_plain rfl fun K hK => ?_
  have hr := hm.get i hi
  have hh := hK _ _ (h _ (Upd.setRow g w l'.toArray) (hm.upd i hi (Upd.setRow g w l'.toArray) (hr.setRow l')))
  unfold Oper.wp execOp
  simp only [hx, hy, Instr.storeAt, Instr.sureAddr, Sem.run_bind, Sem.run_pure, Result.andThen_ok,
    run_storeVar_row w g t ty l.toArray l'.toArray hr (by rw [hs]; simp [hn']) (by simp [hn, hn']) (by simpa using h1)]
  exact hh
set_option maxRecDepth 100000 in
theorem wpl_allocB {dst : Option Tmp} {ty : TypeId} (z : List Value) (hz : ∀ w, (zeroValue ty).run P w = .ok (.agg z.toArray) w) (hm : Mem w0 S w rows)
    (h : ∀ w' g, Below w.heap.size w w' → w.heap.size ≤ g → Mem w0 S w' ((g, z, ty) :: rows) → wpList P ops Q rest (a.put dst (.pointer (some ⟨g, 0, none⟩))) w') :
    wpList P ops Q ({ dst := dst, op := .alloc ty, type := typ, pos := pos, after := aft, guard := none } :: rest) a w := by
  refine wpList_plain rfl fun K hK => ?_
  have hh := hK _ _ (h _ _ ((Below.refl _ _).alloc (Nat.le_refl _) _) (Nat.le_refl _) (hm.alloc z ty))
  unfold Oper.wp execOp
  simp [Instr.alloc, newVar, newRow, newObj, hz, Value.cells]
  exact hh
set_option maxRecDepth 100000 in
theorem wpl_stcU {ty : TypeId} {x y : Operand} (i : Nat) {g : Nat} {l : List Value} {t : TypeId} (j : Nat) (v : Value) (hm : Mem w0 S w rows) (hi : rows[i]? = some (g, l, t)) (hx : a.eval x = .pointer (some ⟨g, j, none⟩))
    (hy : a.eval y = v) (hs : (P.info? ty).map (·.size) = some 1) (hj : j < l.length) (hc : v.cells = #[v]) (h1 : v.oneCell' = true)
    (h : ∀ w', Upd g w w' → Mem w0 S w' (rows.set i (g, l.set j v, t)) → wpList P ops Q rest a w') :
    wpList P ops Q ({ dst := none, op := .store ty x y, type := typ, pos := pos, after := aft, guard := none } :: rest) a w := by
  refine wpList_plain rfl fun K hK => ?_
  have hr := hm.get i hi
  have hh := hK _ _ (h _ (Upd.setCell g j w v) (hm.upd i hi (Upd.setCell g j w v) (hr.set j v)))
  have hcell : w.cell? ⟨g, j, none⟩ = some l[j] := by rw [hm.cell i hi]; simp [hj]
  have hadd : (⟨g, j, none⟩ : Addr).add 0 = ⟨g, j, none⟩ := by unfold Addr.add; split <;> simp_all
  have hst : (storeVar ty ⟨g, j, none⟩ v).run P w = .ok () (w.setCell ⟨g, j, none⟩ v) := by
    cases hq : P.info? ty with
    | none => simp [hq] at hs
    | some q =>
      have hs1 : q.size = 1 := by simpa [hq] using hs
      have hs2 : (store ⟨g, j, none⟩ v).run P w = .ok () (w.setCell ⟨g, j, none⟩ v) := by
        rw [run_store P w _ v _ h1, hcell]; simp [hr.free j]
      simp [storeVar, sizeOf, typeInfo, hq, hc, hs1, storeCells, hadd, hs2]
  unfold Oper.wp execOp
  simp only [hx, hy, Instr.storeAt, Instr.sureAddr, Sem.run_bind, Sem.run_pure, Result.andThen_ok, hst]
  exact hh
end
set_option maxRecDepth 100000 in
theorem rdT_le {f room : Nat} {R R1 : List UInt8} {r1 : Nat} {t : Tm} (h : rdT f room R = some (t, R1, r1)) : R1.length ≤ R.length ∧ r1 ≤ room := by
  obtain ⟨h1, _, h3⟩ := rdT_sound f _ _ _ _ _ h
  have := congrArg List.length h1
  rw [List.length_append] at this
  omega
def mkn (i : Nat) : UInt8 := if i = 0 then 40 else 44
end Go.Proofs.YtbiinchmbclmcaaDoor
