/- Cuts of slices at both ends. -/
import Derived.Test.YtbiinchmbclmcaaDoorAny
namespace Go.Proofs.YtbiinchmbclmcaaDoor
open Go Go.RowKit
section
variable {P : Program} {ops : Array Oper} {rest : List Oper} {a : Act} {w : World} {Q : Exit → Act → World → Prop} {dst : Option Tmp} {typ : TypeId} {pos : String} {aft : Array Edge}
theorem run_slh (w : World) {ty : TypeId} {elem : TypeId} (hu : P.underlying ty = some (.slice elem)) (hs : (P.info? elem).map (·.size) = some 1) {g o len cap : Nat} (l m : Nat) (hlm : l + m ≤ cap) (hlc : l < cap) :
    (Instr.sliceAt ty (.slice (some ⟨g, o, none⟩) len cap) (some (.int .i64 (l : Int))) (some (.int .i64 ((l + m : Nat) : Int))) none).run P w = .ok (.slice (some ⟨g, o + l, none⟩) m (cap - l)) w := by
  cases hq : P.info? elem with
  | none => simp [hq] at hs
  | some q =>
    have hs1 : q.size = 1 := by simpa [hq] using hs
    have hsz : (sizeOf elem).run P w = .ok 1 w := by simp [sizeOf, typeInfo, hq, hs1]
    have bnd : ∀ (j y : Nat) (code : BoundsCode), j ≤ y → (Instr.sliceBound (.int .i64 (j : Int)) y code).run P w = .ok j w := by
      intro j y code hj
      rw [run_sliceBound (P := P) w .i64 (j : Int) y code (by omega) (by omega)]
      simp
    obtain ⟨h, hh⟩ : ∃ h, h = l + m := ⟨_, rfl⟩
    rw [← hh]
    have hb : (Instr.sliceBounds true len cap (some (.int .i64 (l : Int))) (some (.int .i64 (h : Int))) none).run P w = .ok (l, h, cap) w := by
      simp [Instr.sliceBounds, bnd h cap _ (by omega), bnd l h _ (by omega)]
    have hne : ¬ cap = l := by omega
    have hml : h - l = m := by omega
    simp [Instr.sliceAt, Instr.slice, run_underlying hu, hb, hsz, hne, add_at, hml]
theorem wpl_slh {ty : TypeId} {x lo hi : Operand} {elem : TypeId} (hu : P.underlying ty = some (.slice elem)) (hs : (P.info? elem).map (·.size) = some 1) {g o len cap : Nat} (l m : Nat) {il ih : Int} (hlm : l + m ≤ cap) (hlc : l < cap) (hx : a.eval x = .slice (some ⟨g, o, none⟩) len cap)
    (hlo : a.eval lo = .int .i64 il) (hil : il = (l : Int)) (hhi : a.eval hi = .int .i64 ih) (hih : ih = ((l + m : Nat) : Int))
    (h : wpList P ops Q rest (a.put dst (.slice (some ⟨g, o + l, none⟩) m (cap - l))) w) :
    wpList P ops Q ({ dst := dst, op := .slice ty x (some lo) (some hi) none, type := typ, pos := pos, after := aft, guard := none } :: rest) a w := by
  subst hil hih
  refine wpList_plain rfl fun K hK => ?_
  have hh := hK _ _ h
  unfold Oper.wp execOp
  simp only [hx, hlo, hhi, Option.map_some, Option.map_none, run_slh (P := P) w hu hs l m hlm hlc, Sem.run_bind, Sem.run_pure, Result.andThen_ok]
  exact hh
end
end Go.Proofs.YtbiinchmbclmcaaDoor
