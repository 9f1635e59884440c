/- The walk of SectorKeeps. -/
import Derived.Test.YtbaijhlkkeongaaSecKnown
namespace Go.Proofs.Ytbaijhlkkeongaa
open Go Go.RowKit Go.Maps

set_option maxRecDepth 100000 in
theorem Sd.drewN {w0 w : World} {g mb : Nat} {kv : Value} {d : Dk} {rows : List (Nat × List Value × TypeId)} (h : Sd w0 w g mb kv d rows) (n : Nat) : Sd w0 (w.drewN n) g mb kv d rows := ⟨h.mem.drewN n, ⟨h.dk.ok, h.dk.row, ⟨h.dk.kept.ex⟩, h.dk.map⟩, h.new, h.apart⟩
section
variable {P : Program} {a : Act} {w : World} {dst : Option Tmp} {typ : TypeId} {pos : String} {aft : Array Edge} {gd : Option (Nat × Bool)}
set_option maxRecDepth 100000 in
theorem exec_ldxG {ty : TypeId} {x : Operand} {b j : Nat} (v : Value) (hc : w.cell? ⟨b, j, none⟩ = some v) (hx : a.eval x = .pointer (some ⟨b, j, none⟩)) (ha : ∀ w, (isAgg ty).run P w = .ok false w) :
    (execOp a.eval { dst := dst, op := .load ty x, type := typ, pos := pos, after := aft, guard := gd }).run P w = .ok (.value v) w := by
  have hld : (loadVar ty ⟨b, j, none⟩).run P w = .ok v w := by simp [loadVar, ha, go_sem, hc]
  unfold execOp
  simp only [hx, Instr.loadAt, Instr.sureAddr, Sem.run_bind, Sem.run_pure, Result.andThen_ok, hld]
set_option maxRecDepth 100000 in
theorem exec_slaG {ty : TypeId} {x : Operand} {lo hi : Option Operand} (n : Nat) {elem : TypeId} (hu : P.underlying ty = some (.array n elem)) (hs : (P.info? elem).map (·.size) = some 1) {g o : Nat} (l m : Nat) (hlm : l + m ≤ n) (hln : l < n) (hx : a.eval x = .pointer (some ⟨g, o, none⟩))
    (hlo : lo.map a.eval = some (.int .i64 l) ∨ (lo.map a.eval = none ∧ l = 0)) (hhi : hi.map a.eval = some (.int .i64 (l + m : Nat)) ∨ (hi.map a.eval = none ∧ l + m = n)) :
    (execOp a.eval { dst := dst, op := .slice ty x lo hi none, type := typ, pos := pos, after := aft, guard := gd }).run P w = .ok (.value (.slice (some ⟨g, o + l, none⟩) m (n - l))) w := by
  have hr := run_sla (P := P) w hu hs g o l m hlm hln (lo.map a.eval) (hi.map a.eval) hlo hhi
  unfold execOp
  simp only [hx, Option.map_none, hr, Sem.run_bind, Sem.run_pure, Result.andThen_ok]
end
/-- What a disk of two sectors holds in its first one. -/
structure Dk.Hold (d : Dk) (A : List Int) (B : Option (List Int)) (s : Int) : Prop where
  calm : d.Calm
  n : d.n = 2
  kept : d.kept 0 = A
  pend : d.pend 0 = B
  steps : d.steps = s
set_option maxRecDepth 100000 in
theorem hold_new : (Dk.new 2).Hold zeroK none 0 := ⟨Dk.calm_new 2, rfl, rfl, rfl, rfl⟩
set_option maxRecDepth 100000 in
theorem over_all (old bs : List Int) (h : old.length = 64) (hb : bs.length = 64) : over old bs = bs := by
  unfold over
  rw [List.drop_of_length_le (by omega), List.append_nil]
section
variable {d : Dk} {A : List Int} {B : Option (List Int)} {s : Int}
set_option maxRecDepth 100000 in
theorem Dk.Hold.now (h : d.Hold A B s) : d.now 0 = B.getD A := by unfold Dk.now; rw [h.kept, h.pend]
set_option maxRecDepth 100000 in
theorem Dk.Hold.num (h : d.Hold A B s) (hs : s < 1000) : d.Num := h.calm.num (by rw [h.steps]; omega)
set_option maxRecDepth 100000 in
theorem Dk.Hold.write (h : d.Hold A B s) (bs : List Int) (hb : bs.length = 64) (hl : (B.getD A).length = 64) : (d.step.put 0 (over (d.now 0) bs)).Hold A (some bs) (s + 1) := by
  refine ⟨h.calm.step.put _ _, h.n, h.kept, ?_, by show d.steps + 1 = _; rw [h.steps]⟩
  rw [h.now, over_all _ _ hl hb]
  simp [Dk.put, upf]
set_option maxRecDepth 100000 in
theorem Dk.Hold.flush (h : d.Hold A B s) : d.step.flushed.Hold (B.getD A) none (s + 1) :=
  ⟨h.calm.step.flushed, h.n, h.now, rfl, by show d.steps + 1 = _; rw [h.steps]⟩
set_option maxRecDepth 100000 in
theorem Dk.Hold.crashN (h : d.Hold A none s) (cs : List Int) : (d.crash cs).Hold A none s := by
  refine ⟨Dk.crash_calm _ h.calm.s0, h.n, ?_, rfl, h.steps⟩
  show d.keptAt cs (d.rank d.n) 0 = A
  unfold Dk.keptAt
  rw [h.pend]
  exact h.kept
set_option maxRecDepth 100000 in
theorem Dk.Hold.crashS {l : List Int} (h : d.Hold A (some l) s) (cs : List Int) : (d.crash cs).Hold (tornOf A l (cs.getD 0 0)) none s := by
  refine ⟨Dk.crash_calm _ h.calm.s0, h.n, ?_, rfl, h.steps⟩
  show d.keptAt cs (d.rank d.n) 0 = _
  have h0 : d.rank 0 = 0 := rfl
  have h1 := d.rank_lt d.n 0 (by rw [h.n]; omega) (by rw [h.pend]; rfl)
  unfold Dk.keptAt
  rw [h.pend]
  simp only
  rw [if_pos h1, h0, h.kept]
end
end Go.Proofs.Ytbaijhlkkeongaa
