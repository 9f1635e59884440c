/- What the walk of SectorPlays wants. -/
import Derived.Test.YtbaijhlkkeongaaSecSteps
namespace Go.Proofs.Ytbaijhlkkeongaa
open Go Go.RowKit Go.Maps
section
variable {P : Program} {ops : Array Oper} {rest : List Oper} {a : Act} {w w0 : World} {Q : Exit → Act → World → Prop} {dst : Option Tmp} {typ : TypeId} {pos : String} {aft : Array Edge} {gd : Option (Nat × Bool)} {S : List Nat} {rows : List (Nat × List Value × TypeId)}
set_option maxRecDepth 100000 in
theorem run_loadVar_at (w : World) (g off n : Nat) (ty : TypeId) (cs : List Value) (d : TypeDesc) (hc : ∀ j v, cs[j]? = some v → w.cell? ⟨g, off + j, none⟩ = some v) (hu : P.underlying ty = some d)
    (hd : (match d with | .struct _ | .array _ _ => true | _ => false) = true) (hi : (P.info? ty).map (·.size) = some n) (hn : cs.length = n) :
    (loadVar ty ⟨g, off, none⟩).run P w = .ok (.agg cs.toArray) w := by
  have hl : (loadCells ⟨g, off, none⟩ cs.length).run P w = .ok cs.toArray w :=
    run_loadCells_list (P := P) w ⟨g, off, none⟩ cs (fun j v hv => by rw [add_at]; exact hc j v hv)
  rw [hn] at hl
  cases hq : P.info? ty with
  | none => simp [hq] at hi
  | some i =>
    have hs : i.size = n := by simpa [hq] using hi
    have hagg : (isAgg ty).run P w = .ok true w := by
      unfold isAgg
      rw [Sem.run_bind, run_underlying hu w]
      cases d <;> simp_all
    simp [loadVar, Sem.run_bind, hagg, sizeOf, typeInfo, hq, hs, hl]

set_option maxRecDepth 100000 in
theorem exec_ld5 {x : Operand} {b : Nat} (off : Nat) (cs : List Value) (hx : a.eval x = .pointer (some ⟨b, off, none⟩)) (hc : ∀ j v, cs[j]? = some v → w.cell? ⟨b, off + j, none⟩ = some v) (hn : cs.length = 5) :
    (execOp a.eval { dst := dst, op := .load 30 x, type := typ, pos := pos, after := aft, guard := gd }).run Try.prog w = .ok (.value (.agg cs.toArray)) w := by
  obtain ⟨fs, hu, _⟩ := un_stp
  unfold execOp
  simp only [hx, Instr.loadAt, Instr.sureAddr, Sem.run_bind, Sem.run_pure, Result.andThen_ok, run_loadVar_at w b off 5 30 cs (.struct fs) hc hu rfl sz_stp hn]
set_option maxRecDepth 100000 in
theorem wpl_appN {s x : Operand} (hw : Region.wanted { dst := dst, op := .call { callee := .builtin .append, args := #[s, x], argTypes := #[28, 28] }, type := typ, pos := pos, after := aft, guard := gd } (yielded ops a.tmps) = true)
    (ys : List Int) {ps : Option Addr} {n c : Nat} (hs : a.eval s = .slice none 0 0) (hx : a.eval x = .slice ps n c) (hn : n = ys.length) (hsrc : 0 < ys.length → ∃ b off, ps = some ⟨b, off, none⟩ ∧ Seg w b off ys) (hlen : ys.length ≤ 1000000)
    (h : ∀ v' w', OwnB 5 w' w.heap.size v' ys → Below w.heap.size w w' → wpList Try.prog ops Q rest (a.put dst v') w') :
    wpList Try.prog ops Q ({ dst := dst, op := .call { callee := .builtin .append, args := #[s, x], argTypes := #[28, 28] }, type := typ, pos := pos, after := aft, guard := gd } :: rest) a w := by
  subst hn
  obtain ⟨v', w', hr, ho, hg⟩ := run_app (P := Try.prog) 28 typ un_bs made_u8 (OwnB.nil 5 w w.heap.size) ps c ys hsrc (by simp; omega) (Nat.le_refl _)
  rw [List.nil_append] at ho
  refine wpList_step fun K hK => ?_
  rw [if_pos hw]
  have hh := hK _ _ (h v' w' ho ⟨hg.os, hg.tape, hg.output, hg.size, fun k hk => hg.block k hk (by simp [Value.ownBlock])⟩)
  unfold Oper.wp execOp
  simp only [resolve, invoke, builtin, Sem.run_bind, Sem.run_pure, Result.andThen_ok, List.map_toArray, List.map_cons, List.map_nil, hs, hx, hr]
  exact hh
end
set_option maxRecDepth 100000 in
theorem flush_ok7 {d : Dk} (h : d.Ok) : d.flush.Ok := by
  unfold Dk.flush
  split
  · exact Dk.step_ok h
  · exact Dk.flushed_ok (Dk.step_ok h)
set_option maxRecDepth 100000 in
theorem ag_bs : ∀ w, (isAgg 28).run Try.prog w = .ok false w := by intro w; simp [go_sem]
set_option maxRecDepth 100000 in
/-- What is held may become more on the way. -/
theorem anyH_more {P : Program} {md : Region.Mode} {ops : Array Oper} {Q : Exit → Act → World → Prop} {S : World → Prop} (S' : World → Prop) (hS : ∀ w, S' w → S w) : ∀ (fuel : Nat) (listed : Array Bool) (a : Act) (w : World), wpAnyH P md ops Q S' fuel listed a w → wpAnyH P md ops Q S fuel listed a w
  | 0, _, _, _, h => h
  | fuel + 1, _, _, _, h => ⟨h.1, fun i hi => wpOp_mono (fun a' w' h' => ⟨hS _ h'.1, anyH_more S' hS fuel _ a' w' h'.2⟩) (h.2 i hi)⟩
set_option maxRecDepth 100000 in
theorem OwnB.slF {e : TypeId} {w : World} {base : Nat} {v : Value} {zs : List Int} (h : OwnB e w base v zs) {L : List Nat} (hL : ∀ k ∈ L, k < base) : SlA w L v zs := by
  have h0 := h
  obtain ⟨_, h2⟩ := h
  rcases h2 with ⟨rfl, hz⟩ | ⟨q, cap, cur, rfl, hb, hh, hc, _⟩
  · exact ⟨none, 0, by rw [hz], by omega, fun h => absurd h (by omega)⟩
  · refine ⟨_, cap, rfl, hc, fun _ => ⟨q, 0, rfl, fun hq => by have := hL q hq; omega, fun j hj => ?_⟩⟩
    have := World.ownsRow.cells h0 rfl j (.int .u8 (zs.getD j 0)) (u8s_get zs j hj)
    rw [add_at] at this
    exact this
set_option maxRecDepth 100000 in
theorem below_updS {n : Nat} {w w1 w2 : World} {L : List Nat} (h : Below n w w1) (hn : n ≤ w.heap.size) (hu : UpdS L w1 w2) (hL : ∀ k ∈ L, n ≤ k) : Below n w w2 :=
  ⟨hu.os.trans h.os, hu.tape.trans h.tape, hu.output.trans h.output, Nat.le_trans h.size hu.size, fun k hk => (hu.block k (Nat.lt_of_lt_of_le hk (Nat.le_trans hn h.size)) (fun hh => by have := hL k hh; omega)).trans (h.block k hk)⟩
section
variable {w0 w w' : World} {g mb q a b c : Nat} {kv : Value} {d d' e e' : Dk} {rows : List (Nat × List Value × TypeId)}
set_option maxRecDepth 100000 in
theorem Pl.mem (h : Pl w0 w g mb kv q a b c d e rows) : Mem w0 [] w rows := h.sd.mem
set_option maxRecDepth 100000 in
theorem Pl.base (h : Pl w0 w g mb kv q a b c d e rows) : Mem w0 [] w [] := h.sd.mem.sub (List.nil_sublist _)
set_option maxRecDepth 100000 in
theorem Pl.dk (h : Pl w0 w g mb kv q a b c d e rows) : DkAt w g mb kv d := h.sd.dk
set_option maxRecDepth 100000 in
theorem Pl.start (st : Sd w0 w g mb kv d rows) (hb : Below w.heap.size w w') (hr : Rf w' q a b c e) (hf : ∀ k ∈ [q, a, b, c], w.heap.size ≤ k) : Pl w0 w' g mb kv q a b c d e rows :=
  ⟨st.below hb, hr, fun k hk => Nat.le_trans st.mem.size (hf k hk), fun k hk hh => by have := st.dk.lt k hh; have := hf k hk; omega, fun r hr hk => by have := (st.mem.row r hr).lt; have := hf _ hk; omega⟩
set_option maxRecDepth 100000 in
theorem anyH_startP {R : Act → World → Prop} {T : World → Prop} {id : Nat} {l : List Oper} {s : Act} (hmix : Try.prog.follows .mixedOrders = true) (st : Pl w0 w g mb kv q a b c d e rows)
    (h : ∀ w', Pl w0 w' g mb kv q a b c d e rows → wpAnyH Try.prog .any l.toArray (endsIn R) T l.toArray.size (Array.replicate l.toArray.size false) s w') : (Code.region id l.toArray true).wp Try.prog (endsIn R) s w :=
  wp_region_held hmix (h _ st.drew)
end
end Go.Proofs.Ytbaijhlkkeongaa
