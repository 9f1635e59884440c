/- What the walks of the laws share. -/
import Derived.Test.YtonbfbcbmdnelaaDoorMacKnown
namespace Go.Proofs.YtonbfbcbmdnelaaDoor
open Go Go.RowKit

theorem wp_tailP {P : Program} {a : Act} {w : World} {id : Nat} {Q : Exit → Act → World → Prop} {w0 : World} {S : List Nat} {rows : List (Nat × List Value × TypeId)} {l : List Oper} {e : TypeId} {base : Nat} {v : Value} {zs : List Int} (n : Nat) (hmix : P.follows .mixedOrders = true) (hB : Region.lexTailB .any l.toArray n = true) (hm : Mem w0 S w rows) (hown : OwnB e w base v zs)
    (h : ∀ w', Mem w0 S w' rows → OwnB e w' base v zs → wpStill P l.toArray w' (fun a' => wpList P l.toArray Q (l.drop n) a' w') (l.take n) a) : (Code.region id l.toArray true).wp P Q a w :=
  wp_region_still_tail n hmix hB (h _ hm.drew hown)
theorem anyH_startO {P : Program} {R : Act → World → Prop} {T : World → Prop} {a : Act} {w w0 : World} {S : List Nat} {rows : List (Nat × List Value × TypeId)} {id : Nat} {l : List Oper} {e : TypeId} {base : Nat} {v : Value} {zs : List Int} (hmix : P.follows .mixedOrders = true) (hm : Mem w0 S w rows) (hown : OwnB e w base v zs)
    (h : ∀ w', Mem w0 S w' rows → OwnB e w' base v zs → wpAnyH P .any l.toArray (endsIn R) T l.toArray.size (Array.replicate l.toArray.size false) a w') : (Code.region id l.toArray true).wp P (endsIn R) a w :=
  wp_region_held hmix (h _ hm.drew hown)
theorem OwnB.row {e : TypeId} {w : World} {base : Nat} {v : Value} {zs : List Int} (h : OwnB e w base v zs) (h0 : 0 < zs.length) : ∃ g cap l, v = .slice (some ⟨g, 0, none⟩) zs.length cap ∧ base ≤ g ∧ Row w g (u8s zs ++ l) e ∧ zs.length ≤ cap := by
  obtain ⟨_, h2⟩ := h
  rcases h2 with ⟨_, hn⟩ | ⟨g, cap, cur, rfl, hb, hh, hn, _, _, ht⟩
  · omega
  · refine ⟨g, cap, cur.toList.drop zs.length, rfl, hb, ?_, hn⟩
    unfold Row
    rw [hh, ← ht, Nat.mul_one, List.take_append_drop]
theorem Mem.adopt1 {w0 w : World} {g : Nat} {l : List Value} {t : TypeId} (hm : Mem w0 [] w []) (hr : Row w g l t) (hg : w0.heap.size ≤ g) : Mem w0 [] w [(g, l, t)] :=
  ⟨hm.os, hm.tape, hm.output, hm.size, hm.block, by simpa using hr, by simp, by simpa using hg⟩
theorem old_part {w : World} {g cap : Nat} {l : List Int} {r : List Value} {t : TypeId} (hr : Row w g (u8s l ++ r) t) (m : Nat) (h1 : m ≤ l.length) (h2 : m ≤ cap) : SlOld w (.slice (some ⟨g, 0, none⟩) m cap) (l.take m) := by
  have hl : (l.take m).length = m := by simp; omega
  refine ⟨_, cap, by rw [hl], by rw [hl]; exact h2, fun _ => ⟨g, 0, rfl, fun j hj => ?_⟩⟩
  rw [hl] at hj
  rw [Nat.zero_add, hr.cell j, List.getElem?_append_left (by rw [u8s_length]; omega), u8s_get l j (by omega)]
  simp [hj]
theorem wpl_shi {P : Program} {ops : Array Oper} {rest : List Oper} {a : Act} {w : World} {dst : Option Tmp} {typ : TypeId} {pos : String} {aft : Array Edge} {Q : Exit → Act → World → Prop} {ty : TypeId} {x hi : Operand} {elem : TypeId} (hu : P.underlying ty = some (.slice elem)) (hs : (P.info? elem).map (·.size) = some 1) {g o len cap : Nat} (m : Nat) {ih : Int} (hmc : m ≤ cap) (hc : 0 < cap) (hx : a.eval x = .slice (some ⟨g, o, none⟩) len cap) (hhi : a.eval hi = .int .i64 ih) (hih : ih = (m : Int))
    (h : wpList P ops Q rest (a.put dst (.slice (some ⟨g, o, none⟩) m cap)) w) :
    wpList P ops Q ({ dst := dst, op := .slice ty x none (some hi) none, type := typ, pos := pos, after := aft, guard := none } :: rest) a w := by
  subst hih
  refine wpList_plain rfl fun K hK => ?_
  have hh := hK _ _ h
  have hr : (Instr.sliceAt ty (.slice (some ⟨g, o, none⟩) len cap) none (some (.int .i64 (m : Int))) none).run P w = .ok (.slice (some ⟨g, o, none⟩) m cap) w := by
    cases hq : P.info? elem with
    | none => simp [hq] at hs
    | some q =>
      have hs1 : q.size = 1 := by simpa [hq] using hs
      have hsz : (sizeOf elem).run P w = .ok 1 w := by simp [sizeOf, typeInfo, hq, hs1]
      have bnd : ∀ code, (Instr.sliceBound (.int .i64 (m : Int)) cap code).run P w = .ok m w := by
        intro code
        rw [run_sliceBound (P := P) w .i64 (m : Int) cap code (by omega) (by omega)]
        simp
      have hb : (Instr.sliceBounds true len cap none (some (.int .i64 (m : Int))) none).run P w = .ok (0, m, cap) w := by
        simp [Instr.sliceBounds, bnd]
      have hne : ¬ cap = 0 := by omega
      simp [Instr.sliceAt, Instr.slice, run_underlying hu, hb, hsz, hne, add_at]
  unfold Oper.wp execOp
  simp only [hx, hhi, Option.map_some, Option.map_none, hr, Sem.run_bind, Sem.run_pure, Result.andThen_ok]
  exact hh
theorem xor_same {x p : Int} (hx : 0 ≤ x ∧ x < 256) (hp : 0 ≤ p ∧ p < 256) : bits .xor .u8 x p = x ↔ p = 0 := by
  rw [u8_xor x p hx.1 hx.2 hp.1 hp.2]
  have : x.toNat ^^^ p.toNat = x.toNat ↔ p.toNat = 0 := by
    constructor
    · intro h
      have h2 := congrArg (x.toNat ^^^ ·) h
      simpa [← Nat.xor_assoc] using h2
    · intro h
      rw [h, Nat.xor_zero]
  omega
theorem set_same_iff (l : List Int) (j : Nat) (x : Int) (h : j < l.length) : l = l.set j x ↔ x = l.getD j 0 := by
  constructor
  · intro e
    have := congrArg (·.getD j 0) e
    simpa [h] using this.symm
  · intro e
    rw [e]
    simp [h]
end Go.Proofs.YtonbfbcbmdnelaaDoor
