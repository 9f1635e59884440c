/- A slice that grows beside a disk. -/
import Derived.Test.YtbaijhlkkeongaaSecWant
namespace Go.Proofs.Ytbaijhlkkeongaa
open Go Go.RowKit Go.Maps

set_option maxRecDepth 100000 in
theorem OwnB.keep {e : TypeId} {w w' : World} {base : Nat} {v : Value} {zs : List Int} (h : OwnB e w base v zs) (hk : ∀ q, v.ownBlock = some q → w'.heap[q]? = w.heap[q]?) : OwnB e w' base v zs := by
  obtain ⟨h1, h2⟩ := h
  refine ⟨h1, ?_⟩
  rcases h2 with h2 | ⟨q, cap, cur, rfl, hb, hh, r⟩
  · exact Or.inl h2
  · exact Or.inr ⟨q, cap, cur, rfl, hb, by rw [hk q rfl]; exact hh, r⟩
section
variable {w0 w w' : World} {g mb base : Nat} {kv v : Value} {d : Dk} {zs : List Int} {rows : List (Nat × List Value × TypeId)}
set_option maxRecDepth 100000 in
theorem OwnB.notin (h : OwnB 5 w base v zs) (hd : DkAt w g mb kv d) : ∀ q, v.ownBlock = some q → q ∉ foot g mb kv := by
  intro q hq hk
  obtain ⟨_, h2⟩ := h
  rcases h2 with ⟨rfl, _⟩ | ⟨q', cap, cur, rfl, hb, hh, r⟩
  · simp [Value.ownBlock] at hq
  · have he : q' = q := by simpa [Value.ownBlock] using hq
    subst he
    simp only [foot, List.mem_cons] at hk
    rcases hk with rfl | rfl | hk
    · have h3 := hd.row
      unfold Row at h3
      rw [h3] at hh
      simp only [Option.some.injEq, Obj.cells.injEq] at hh
      exact absurd hh.2.1 (by decide)
    · obtain ⟨es, c, h3⟩ := hd.isMap
      rw [h3] at hh
      cases hh
    · obtain ⟨p, cp, rfl, hc, h4⟩ := hd.kept.ex
      rcases Nat.eq_zero_or_pos d.n with hn | hn
      · rw [hn] at hk; cases p <;> simp [kbOf] at hk
      · obtain ⟨kb, tl, rfl, hr⟩ := h4 hn
        have : q' = kb := by simp [kbOf] at hk; exact hk.2
        subst this
        unfold Row at hr
        rw [hr] at hh
        simp only [Option.some.injEq, Obj.cells.injEq] at hh
        exact absurd hh.2.1 (by decide)
set_option maxRecDepth 100000 in
theorem OwnB.lt' {e : TypeId} (h : OwnB e w base v zs) : ∀ q, v.ownBlock = some q → q < w.heap.size := by
  intro q hq
  obtain ⟨_, h2⟩ := h
  rcases h2 with ⟨rfl, _⟩ | ⟨q', cap, cur, rfl, hb, hh, r⟩
  · simp [Value.ownBlock] at hq
  · have he : q' = q := by simpa [Value.ownBlock] using hq
    subst he
    exact (Array.getElem?_eq_some_iff.1 hh).1
set_option maxRecDepth 100000 in
theorem OwnB.turnS (h : OwnB 5 w base v zs) (hd : DkAt w g mb kv d) (hu : UpdS (foot g mb kv) w w') : OwnB 5 w' base v zs :=
  h.keep (fun q hq => hu.block q (h.lt' q hq) (h.notin hd q hq))
set_option maxRecDepth 100000 in
theorem OwnB.slA (h : OwnB 5 w base v zs) (hd : DkAt w g mb kv d) : SlA w (foot g mb kv) v zs := by
  have h0 := h
  have hn := h.notin hd
  obtain ⟨_, h2⟩ := h
  rcases h2 with ⟨rfl, hz⟩ | ⟨q, cap, cur, rfl, hb, hh, hc, _⟩
  · exact ⟨none, 0, by rw [hz], by omega, fun h => absurd h (by omega)⟩
  · refine ⟨_, cap, rfl, hc, fun _ => ⟨q, 0, rfl, hn q rfl, fun j hj => ?_⟩⟩
    have := World.ownsRow.cells h0 rfl j (.int .u8 (zs.getD j 0)) (u8s_get zs j hj)
    rw [add_at] at this
    exact this
set_option maxRecDepth 100000 in
theorem Sd.grown (st : Sd w0 w g mb kv d rows) (ho : OwnB 5 w w0.heap.size v zs) (hty : ∀ r ∈ rows, r.2.2 ≠ 5) (hg : w.grownBy w' v.ownBlock) : Sd w0 w' g mb kv d rows :=
  ⟨st.mem.grown ho hty hg, st.dk.keep (fun k hk => hg.block k (st.dk.lt k hk) (fun he => ho.notin st.dk k he.symm hk)), st.new, st.apart⟩
end
section
variable {ops : Array Oper} {rest : List Oper} {a : Act} {w w0 : World} {Q : Exit → Act → World → Prop} {dst : Option Tmp} {typ : TypeId} {pos : String} {aft : Array Edge} {gd : Option (Nat × Bool)} {rows : List (Nat × List Value × TypeId)} {g mb : Nat} {kv : Value} {d : Dk}
set_option maxRecDepth 100000 in
theorem wpl_appD {s x : Operand} (hw : Region.wanted { dst := dst, op := .call { callee := .builtin .append, args := #[s, x], argTypes := #[28, 28] }, type := typ, pos := pos, after := aft, guard := gd } (yielded ops a.tmps) = true)
    {v : Value} {zs : List Int} (ys : List Int) {ps : Option Addr} {n c : Nat} (st : Sd w0 w g mb kv d rows) (hown : OwnB 5 w w0.heap.size v zs) (hty : ∀ r ∈ rows, r.2.2 ≠ 5)
    (hs : a.eval s = v) (hx : a.eval x = .slice ps n c) (hn : n = ys.length) (hsrc : 0 < ys.length → ∃ b off, ps = some ⟨b, off, none⟩ ∧ Seg w b off ys) (hlen : zs.length + ys.length ≤ 1099511627776)
    (h : ∀ v' w', OwnB 5 w' w0.heap.size v' (zs ++ ys) → Sd w0 w' g mb kv d rows → wpList Try.prog ops Q rest (a.put dst v') w') :
    wpList Try.prog ops Q ({ dst := dst, op := .call { callee := .builtin .append, args := #[s, x], argTypes := #[28, 28] }, type := typ, pos := pos, after := aft, guard := gd } :: rest) a w := by
  subst hn
  obtain ⟨v', w', hr, ho, hg⟩ := run_app (P := Try.prog) 28 typ un_bs made_u8 hown ps c ys hsrc hlen st.mem.size
  refine wpList_step fun K hK => ?_
  rw [if_pos hw]
  have hh := hK _ _ (h v' w' ho (st.grown hown hty hg))
  unfold Oper.wp execOp
  simp only [resolve, invoke, builtin, Sem.run_bind, Sem.run_pure, Result.andThen_ok, List.map_toArray, List.map_cons, List.map_nil, hs, hx, hr]
  exact hh
end
section
variable {w0 w : World} {g mb : Nat} {kv : Value} {d : Dk} {rows : List (Nat × List Value × TypeId)}
set_option maxRecDepth 100000 in
theorem write_okU (st : Sd w0 w g mb kv d rows) (i : Int) (bs : List Int) (v : Value) (h0 : 0 ≤ i) (h1 : i < d.n) (ho : d.step.off = false) (hl : bs.length ≤ 64) (hbb : Bytes bs) (hnu : d.Num) (hs : SlA w (foot g mb kv) v bs) :
    Calls Try.prog 7 #[.pointer (some ⟨g, 0, none⟩), .int .i64 i, v] w fun e w' => e = .returned (.int .i64 0) ∧ Sd w0 w' g mb kv (d.step.put i.toNat (over (d.now i.toNat) bs)) rows ∧ UpdS (foot g mb kv) w w' := by
  obtain ⟨k, rfl⟩ : ∃ k : Nat, i = (k : Int) := ⟨i.toNat, by omega⟩
  refine (write_good g mb kv d k bs v ho (by omega) hl hbb hnu w st.dk hs).mono ?_
  rintro e w' ⟨rfl, h1, h2⟩
  exact ⟨rfl, st.turn h1 h2, h2⟩
end
end Go.Proofs.Ytbaijhlkkeongaa
