/- Package term: pairs of lists of terms, one on the other. -/
import Derived.Test.YtbiinchmbclmcaaDoorTmParseX
namespace Go.Proofs.YtbiinchmbclmcaaDoor
open Go Go.RowKit
set_option maxRecDepth 100000 in
theorem un_pr : Tryd.prog.underlying 44 = some (.array 2 22) := Tryd.underlying44
set_option maxRecDepth 100000 in
theorem un_prs : Tryd.prog.underlying 45 = some (.slice 44) := Tryd.underlying45
set_option maxRecDepth 100000 in
theorem made_pr : (Tryd.prog.info? 44).map (fun i => (i.zero, i.size, i.bytes)) = some (some (.agg [.slice none 0 0, .slice none 0 0].toArray), 2, 48) := by kernel_rfl
set_option maxRecDepth 100000 in
theorem info_pr : (Tryd.prog.info? 44).map (fun i => (i.zero, i.size)) = some (some (.agg [.slice none 0 0, .slice none 0 0].toArray), 2) := by kernel_rfl
set_option maxRecDepth 100000 in
theorem zero_pr : ∀ w, (zeroValue 44).run Tryd.prog w = .ok (.agg [.slice none 0 0, .slice none 0 0].toArray) w := (zero_of_info info_pr).1
set_option maxRecDepth 100000 in
theorem sz_pr : (Tryd.prog.info? 44).map (·.size) = some 2 := (zero_of_info info_pr).2
set_option maxRecDepth 100000 in
theorem cut_own {w : World} {base g n cap : Nat} {cs : List Value} {a b : Value} (h : w.ownsRow base 44 2 (.slice (some ⟨g, 0, none⟩) (n + 1) cap) (n + 1) (cs ++ [a, b])) (hc : cs.length = n * 2) : w.ownsRow base 44 2 (.slice (some ⟨g, 0, none⟩) n cap) n cs := by
  obtain ⟨_, h2⟩ := h
  rcases h2 with ⟨h3, _⟩ | ⟨g', cap', cur, hv, hb, hh, hn, hm, hs, ht⟩
  · cases h3
  · simp only [Value.slice.injEq, Option.some.injEq, Addr.mk.injEq, true_and, and_true] at hv
    obtain ⟨rfl, rfl⟩ := hv
    refine ⟨hc, Or.inr ⟨g, cap, cur, rfl, hb, hh, by omega, hm, hs, ?_⟩⟩
    have e1 : (cur.toList.take ((n + 1) * 2)).take (n * 2) = cur.toList.take (n * 2) := by rw [List.take_take, Nat.min_eq_left (by omega)]
    have e2 : (cs ++ [a, b]).take (n * 2) = cs := by rw [← hc]; simp
    rw [← e1, ht, e2]
section
variable {a : Act} {w : World} {dst : Option Tmp} {typ : TypeId} {pos : String} {aft : Array Edge} {gd : Option (Nat × Bool)}
set_option maxRecDepth 100000 in
theorem run_cut {g len n cap : Nat} (hn : n ≤ cap) : (Instr.slice 45 (.slice (some ⟨g, 0, none⟩) len cap) none (some (.int .i64 (n : Int))) none).run Tryd.prog w = .ok (.slice (some ⟨g, 0, none⟩) n cap) w := by
  have h0 : (0 : Int) ≤ (n : Int) ∧ (n : Int) ≤ (cap : Int) := by omega
  obtain ⟨i, hi⟩ : ∃ i, Tryd.prog.info? 44 = some i := by
    cases hq : Tryd.prog.info? 44 with
    | none => have h := sz_pr; rw [hq] at h; cases h
    | some i => exact ⟨i, rfl⟩
  simp [Instr.slice, run_underlying un_prs, Instr.sliceBounds, Instr.sliceBound, asIntOf, h0, sizeOf, typeInfo, hi, addT]
  intro h9
  omega
set_option maxRecDepth 100000 in
theorem exec_ixP {x ix : Operand} {b n cap : Nat} (i : Nat) {ii : Int} (hx : a.eval x = .slice (some ⟨b, 0, none⟩) n cap) (hix : a.eval ix = .int .i64 ii) (hii : ii = (i : Int)) (hi : i < n) :
    (execOp a.eval { dst := dst, op := .indexAddr 45 x ix, type := typ, pos := pos, after := aft, guard := gd }).run Tryd.prog w = .ok (.value (.pointer (some ⟨b, i * 2, none⟩))) w := by
  subst hii
  have h0 : (0 : Int) ≤ (i : Int) ∧ (i : Int) < (n : Int) := by omega
  unfold execOp
  simp [hx, hix, Instr.indexAt, asIntOf, run_underlying un_prs, h0, addT]
  omega
set_option maxRecDepth 100000 in
theorem exec_ldP {x : Operand} {b o : Nat} {p q : Value} (hx : a.eval x = .pointer (some ⟨b, o, none⟩)) (h0 : w.cell? ⟨b, o, none⟩ = some p) (h1 : w.cell? ⟨b, o + 1, none⟩ = some q) :
    (execOp a.eval { dst := dst, op := .load 44 x, type := typ, pos := pos, after := aft, guard := gd }).run Tryd.prog w = .ok (.value (.agg [p, q].toArray)) w := by
  have hc : ∀ j u, [p, q][j]? = some u → w.cell? ⟨b, o + j, none⟩ = some u := by
    intro j u hu
    match j with
    | 0 => simp at hu; subst hu; exact h0
    | 1 => simp at hu; subst hu; exact h1
    | j + 2 => simp at hu
  unfold execOp
  simp only [hx, Instr.loadAt, Instr.sureAddr, Sem.run_bind, Sem.run_pure, Result.andThen_ok, run_loadVar_at w b o 2 44 _ (.array 2 22) hc un_pr rfl sz_pr rfl]
end
end Go.Proofs.YtbiinchmbclmcaaDoor
