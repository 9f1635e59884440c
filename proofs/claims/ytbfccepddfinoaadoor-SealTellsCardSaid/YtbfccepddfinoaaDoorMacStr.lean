/- The contract of Equal. -/
import Derived.Test.YtbfccepddfinoaaDoorMacCode
import Derived.Test.YtbfccepddfinoaaDoorMacDeriveF
import Derived.Test.YtbfccepddfinoaaDoorCopyF
import Derived.Lib.SlBytesConst
namespace Go.Proofs.YtbfccepddfinoaaDoor
open Go Go.RowKit

theorem eg_b32 : Tryd.prog.eqGuardType Tryd.prog.depth 22 = false := by kernel_rfl
theorem zeros_iff (l : List Int) (n : Nat) (h : l.length = n) : l = List.replicate n 0 ↔ ∀ j, j < n → l.getD j 0 = 0 := by
  constructor
  · intro e j hj
    rw [e]
    simp [hj]
  · intro hz
    apply List.ext_getElem
    · simp [h]
    · intro j h1 h2
      have := hz j (by omega)
      simpa [h1] using this
theorem take_snoc_iff (xs ys : List Int) (k : Nat) (h1 : k < xs.length) (h2 : k < ys.length) : xs.take (k + 1) = ys.take (k + 1) ↔ xs.take k = ys.take k ∧ xs.getD k 0 = ys.getD k 0 := by
  rw [List.take_succ_eq_append_getElem h1, List.take_succ_eq_append_getElem h2]
  have e1 : xs.getD k 0 = xs[k] := by simp [h1]
  have e2 : ys.getD k 0 = ys[k] := by simp [h2]
  rw [e1, e2]
  constructor
  · intro h
    obtain ⟨h3, h4⟩ := List.append_inj h (by simp; omega)
    exact ⟨h3, by simpa using h4⟩
  · rintro ⟨h3, h4⟩
    rw [h3, h4]
theorem acc_step (xs ys u : List Int) (k r : Nat) (h1 : k < xs.length) (h2 : k < ys.length) (hba : Bytes xs) (hbb : Bytes ys) (hu : Bytes u) (hul : u.length = 32) (hr : r < 32) (hiff : u = List.replicate 32 0 ↔ xs.take k = ys.take k) :
    u.set r (bits .or .u8 (u.getD r 0) (bits .xor .u8 (xs.getD k 0) (ys.getD k 0))) = List.replicate 32 0 ↔ xs.take (k + 1) = ys.take (k + 1) := by
  have hx := xor_byte (hba.get k) (hbb.get k)
  have hur := hu.get r
  rw [take_snoc_iff xs ys k h1 h2, ← hiff, zeros_iff _ 32 (by simp [hul]), zeros_iff u 32 hul, ← xor_nought (hba.get k) (hbb.get k)]
  constructor
  · intro h
    have h0 := h r hr
    rw [show (u.set r (bits .or .u8 (u.getD r 0) (bits .xor .u8 (xs.getD k 0) (ys.getD k 0)))).getD r 0 = bits .or .u8 (u.getD r 0) (bits .xor .u8 (xs.getD k 0) (ys.getD k 0)) by simp [hul, hr]] at h0
    have h3 := (or_nought hur hx).1 h0
    refine ⟨fun j hj => ?_, h3.2⟩
    by_cases hjr : j = r
    · rw [hjr]; exact h3.1
    · have := h j hj
      rwa [show (u.set r (bits .or .u8 (u.getD r 0) (bits .xor .u8 (xs.getD k 0) (ys.getD k 0)))).getD j 0 = u.getD j 0 by simp [Ne.symm hjr]] at this
  · rintro ⟨h, h3⟩ j hj
    by_cases hjr : j = r
    · subst hjr
      rw [show (u.set j (bits .or .u8 (u.getD j 0) (bits .xor .u8 (xs.getD k 0) (ys.getD k 0)))).getD j 0 = bits .or .u8 (u.getD j 0) (bits .xor .u8 (xs.getD k 0) (ys.getD k 0)) by simp [hul, hr]]
      exact (or_nought hur hx).2 ⟨h j hj, h3⟩
    · rw [show (u.set r (bits .or .u8 (u.getD r 0) (bits .xor .u8 (xs.getD k 0) (ys.getD k 0)))).getD j 0 = u.getD j 0 by simp [Ne.symm hjr]]
      exact h j hj
theorem wps_ldx {P : Program} {ops : Array Oper} {rest : List Oper} {a : Act} {w : World} {dst : Option Tmp} {typ : TypeId} {pos : String} {aft : Array Edge} {Q : Act → Prop} {ty : TypeId} {x : Operand} {b j : Nat} (v : Value) (hc : w.cell? ⟨b, j, none⟩ = some v) (hx : a.eval x = .pointer (some ⟨b, j, none⟩)) (ha : ∀ w, (isAgg ty).run P w = .ok false w)
    (h : wpStill P ops w Q rest (a.put dst v)) : wpStill P ops w Q ({ dst := dst, op := .load ty x, type := typ, pos := pos, after := aft, guard := none } :: rest) a := by
  have hld : (loadVar ty ⟨b, j, none⟩).run P w = .ok v w := by simp [loadVar, ha, go_sem, hc]
  refine wps_run rfl _ ?_ h
  unfold execOp
  simp only [hx, Instr.loadAt, Instr.sureAddr, Sem.run_bind, Sem.run_pure, Result.andThen_ok, hld]
end Go.Proofs.YtbfccepddfinoaaDoor

namespace Go.Proofs.YtbfccepddfinoaaDoor
open Go Go.RowKit

theorem str_mac : strOf (hexOf (macOf jefe want)) = { data := #[53, 98, 100, 99, 99, 49, 52, 54, 98, 102, 54, 48, 55, 53, 52, 101, 54, 97, 48, 52, 50, 52, 50, 54, 48, 56, 57, 53, 55, 53, 99, 55, 53, 97, 48, 48, 51, 102, 48, 56, 57, 100, 50, 55, 51, 57, 56, 51, 57, 100, 101, 99, 53, 56, 98, 57, 54, 52, 101, 99, 51, 56, 52, 51] } := by rw [mac_jefe]; rfl
theorem bytes_jefe : Bytes jefe := by unfold Bytes jefe; decide
theorem bytes_want : Bytes want := by unfold Bytes want; decide
theorem bytes_a : Bytes [97] := by unfold Bytes; decide
theorem bytes_b : Bytes [98] := by unfold Bytes; decide
theorem eg_key : Tryd.prog.eqGuardType Tryd.prog.depth 23 = false := by kernel_rfl
theorem eq_keys (l l' : List Int) (h : l.length = 32) (h' : l'.length = 32) : ∀ W, (Op.equalIn 10000 23 (.agg (u8s l).toArray) (.agg (u8s l').toArray)).run Tryd.prog W = .ok (decide (l = l')) W := by
  intro W
  exact run_eqa (P := Tryd.prog) W 9998 23 5 32 .u8 un_key un_u8 sz_u8 l l' h h'
theorem wpl_cvc {P : Program} {ops : Array Oper} {rest : List Oper} {a : Act} {w w0 : World} {dst : Option Tmp} {typ : TypeId} {pos : String} {aft : Array Edge} {gd : Option (Nat × Bool)} {S : List Nat} {rows : List (Nat × List Value × TypeId)} {Q : Exit → Act → World → Prop} {t e : TypeId} {x : Operand} (cs : List Int) (hw : Region.wanted { dst := dst, op := .convert t t x, type := typ, pos := pos, after := aft, guard := gd } (yielded ops a.tmps) = true) (ht : P.underlying t = some (.slice e)) (he : P.underlying e = some (.int .u8)) {n : Nat} (hx : a.eval x = .slice (some ⟨w.heap.size, 0, none⟩) n n) (hn : n = cs.length) (hm : Mem w0 S w rows)
    (h : ∀ w' g, Below w.heap.size w w' → Mem w0 S w' rows → SlOld w' (.slice (some ⟨g, 0, none⟩) n n) cs → wpList P ops Q rest (a.put dst (.slice (some ⟨g, 0, none⟩) n n)) w') :
    wpList P ops Q ({ dst := dst, op := .convert t t x, type := typ, pos := pos, after := aft, guard := gd } :: rest) a (w.alloc (.cells (u8s cs).toArray e)) := by
  subst hn
  have hb : Below w.heap.size w (w.alloc (.cells (u8s cs).toArray e ((u8s cs).toArray.size, (u8s cs).toArray.size + 1))) := (Below.refl _ _).alloc (Nat.le_refl _) _
  refine wpList_step fun K hK => ?_
  rw [if_pos hw]
  have hh := hK _ _ (h _ w.heap.size hb (hm.call hb) ⟨_, _, rfl, Nat.le_refl _, fun _ => ⟨w.heap.size, 0, rfl, Seg.newO w cs e _⟩⟩)
  unfold Oper.wp execOp
  simp only [hx, Lib.run_convert_bytes_const (P := P) w t e (u8s cs).toArray cs.length cs.length ht he, Sem.run_bind, Sem.run_pure, Result.andThen_ok]
  exact hh
end Go.Proofs.YtbfccepddfinoaaDoor

namespace Go.Proofs.YtbfccepddfinoaaDoor
open Go Go.RowKit

theorem wp_tailP {P : Program} {a : Act} {w : World} {id : Nat} {Q : Exit → Act → World → Prop} {w0 : World} {S : List Nat} {rows : List (Nat × List Value × TypeId)} {l : List Oper} {e : TypeId} {base : Nat} {v : Value} {zs : List Int} (n : Nat) (hmix : P.follows .mixedOrders = true) (hB : Region.lexTailB .any l.toArray n = true) (hm : Mem w0 S w rows) (hown : OwnB e w base v zs)
    (h : ∀ w', Mem w0 S w' rows → OwnB e w' base v zs → wpStill P l.toArray w' (fun a' => wpList P l.toArray Q (l.drop n) a' w') (l.take n) a) : (Code.region id l.toArray true).wp P Q a w :=
  wp_region_still_tail n hmix hB (h _ hm.drew hown)
theorem anyH_startO {P : Program} {R : Act → World → Prop} {T : World → Prop} {a : Act} {w w0 : World} {S : List Nat} {rows : List (Nat × List Value × TypeId)} {id : Nat} {l : List Oper} {e : TypeId} {base : Nat} {v : Value} {zs : List Int} (hmix : P.follows .mixedOrders = true) (hm : Mem w0 S w rows) (hown : OwnB e w base v zs)
    (h : ∀ w', Mem w0 S w' rows → OwnB e w' base v zs → wpAnyH P .any l.toArray (endsIn R) T l.toArray.size (Array.replicate l.toArray.size false) a w') : (Code.region id l.toArray true).wp P (endsIn R) a w :=
  wp_region_held hmix (h _ hm.drew hown)
theorem OwnB.row {e : TypeId} {w : World} {base : Nat} {v : Value} {zs : List Int} (h : OwnB e w base v zs) (h0 : 0 < zs.length) : ∃ g cap l, v = .slice (some ⟨g, 0, none⟩) zs.length cap ∧ base ≤ g ∧ Row w g (u8s zs ++ l) e ∧ zs.length ≤ cap := by
  obtain ⟨_, h2⟩ := h
  rcases h2 with ⟨_, hn⟩ | ⟨g, cap, cur, rfl, hb, hh, hn, _, _, ht⟩
  · omega
  · refine ⟨g, cap, cur.toList.drop zs.length, rfl, hb, ?_, hn⟩
    unfold Row
    rw [hh, ← ht, Nat.mul_one, List.take_append_drop]
theorem Mem.adopt1 {w0 w : World} {g : Nat} {l : List Value} {t : TypeId} (hm : Mem w0 [] w []) (hr : Row w g l t) (hg : w0.heap.size ≤ g) : Mem w0 [] w [(g, l, t)] :=
  ⟨hm.os, hm.tape, hm.output, hm.size, hm.block, by simpa using hr, by simp, by simpa using hg⟩
theorem old_part {w : World} {g cap : Nat} {l : List Int} {r : List Value} {t : TypeId} (hr : Row w g (u8s l ++ r) t) (m : Nat) (h1 : m ≤ l.length) (h2 : m ≤ cap) : SlOld w (.slice (some ⟨g, 0, none⟩) m cap) (l.take m) := by
  have hl : (l.take m).length = m := by simp; omega
  refine ⟨_, cap, by rw [hl], by rw [hl]; exact h2, fun _ => ⟨g, 0, rfl, fun j hj => ?_⟩⟩
  rw [hl] at hj
  rw [Nat.zero_add, hr.cell j, List.getElem?_append_left (by rw [u8s_length]; omega), u8s_get l j (by omega)]
  simp [hj]
theorem wpl_shi {P : Program} {ops : Array Oper} {rest : List Oper} {a : Act} {w : World} {dst : Option Tmp} {typ : TypeId} {pos : String} {aft : Array Edge} {Q : Exit → Act → World → Prop} {ty : TypeId} {x hi : Operand} {elem : TypeId} (hu : P.underlying ty = some (.slice elem)) (hs : (P.info? elem).map (·.size) = some 1) {g o len cap : Nat} (m : Nat) {ih : Int} (hmc : m ≤ cap) (hc : 0 < cap) (hx : a.eval x = .slice (some ⟨g, o, none⟩) len cap) (hhi : a.eval hi = .int .i64 ih) (hih : ih = (m : Int))
    (h : wpList P ops Q rest (a.put dst (.slice (some ⟨g, o, none⟩) m cap)) w) :
    wpList P ops Q ({ dst := dst, op := .slice ty x none (some hi) none, type := typ, pos := pos, after := aft, guard := none } :: rest) a w := by
  subst hih
  refine wpList_plain rfl fun K hK => ?_
  have hh := hK _ _ h
  have hr : (Instr.sliceAt ty (.slice (some ⟨g, o, none⟩) len cap) none (some (.int .i64 (m : Int))) none).run P w = .ok (.slice (some ⟨g, o, none⟩) m cap) w := by
    cases hq : P.info? elem with
    | none => simp [hq] at hs
    | some q =>
      have hs1 : q.size = 1 := by simpa [hq] using hs
      have hsz : (sizeOf elem).run P w = .ok 1 w := by simp [sizeOf, typeInfo, hq, hs1]
      have bnd : ∀ code, (Instr.sliceBound (.int .i64 (m : Int)) cap code).run P w = .ok m w := by
        intro code
        rw [run_sliceBound (P := P) w .i64 (m : Int) cap code (by omega) (by omega)]
        simp
      have hb : (Instr.sliceBounds true len cap none (some (.int .i64 (m : Int))) none).run P w = .ok (0, m, cap) w := by
        simp [Instr.sliceBounds, bnd]
      have hne : ¬ cap = 0 := by omega
      simp [Instr.sliceAt, Instr.slice, run_underlying hu, hb, hsz, hne, add_at]
  unfold Oper.wp execOp
  simp only [hx, hhi, Option.map_some, Option.map_none, hr, Sem.run_bind, Sem.run_pure, Result.andThen_ok]
  exact hh
theorem xor_same {x p : Int} (hx : 0 ≤ x ∧ x < 256) (hp : 0 ≤ p ∧ p < 256) : bits .xor .u8 x p = x ↔ p = 0 := by
  rw [u8_xor x p hx.1 hx.2 hp.1 hp.2]
  have : x.toNat ^^^ p.toNat = x.toNat ↔ p.toNat = 0 := by
    constructor
    · intro h
      have h2 := congrArg (x.toNat ^^^ ·) h
      simpa [← Nat.xor_assoc] using h2
    · intro h
      rw [h, Nat.xor_zero]
  omega
theorem set_same_iff (l : List Int) (j : Nat) (x : Int) (h : j < l.length) : l = l.set j x ↔ x = l.getD j 0 := by
  constructor
  · intro e
    have := congrArg (·.getD j 0) e
    simpa [h] using this.symm
  · intro e
    rw [e]
    simp [h]
end Go.Proofs.YtbfccepddfinoaaDoor

namespace Go.Proofs.YtbfccepddfinoaaDoor
open Go Go.RowKit

theorem run_tostr {P : Program} (w : World) {sT dT e : TypeId} (hs : P.underlying sT = some (.slice e)) (he : P.underlying e = some (.int .u8)) (hd : P.underlying dT = some .string) (cs : List Int) {p : Option Addr} {n c : Nat} (h : SlOld w (.slice p n c) cs) :
    (convert sT dT (.slice p n c)).run P w = .ok (.string (strOf cs)) w := by
  obtain ⟨hn, _, hsrc⟩ := h.src0
  subst hn
  rw [run_convert_bytes_string w sT dT e _ _ c hs he hd]
  have e0 : ByteArray.empty.data = #[] := rfl
  by_cases h0 : 0 < cs.length
  · obtain ⟨b, off, rfl, hseg⟩ := hsrc h0
    have hl : (loadCells ⟨b, off, none⟩ cs.length).run P w = .ok (cs.map (Value.int .u8)).toArray w := by
      have := run_loadCells_list (P := P) w ⟨b, off, none⟩ (u8s cs) hseg.src
      rw [u8s_length] at this
      exact this
    rw [run_bytesToString w _ cs.length c cs hl, fold_push, e0, Array.empty_append]
    rfl
  · obtain rfl : cs = [] := List.eq_nil_of_length_eq_zero (by omega)
    cases p with
    | none => simp [Conv.bytesToString, strOf]; rfl
    | some a =>
      rw [run_bytesToString w a ([] : List Int).length c [] rfl]
      rfl
theorem exec_tostr {P : Program} {a : Act} {w : World} {dst : Option Tmp} {typ : TypeId} {pos : String} {aft : Array Edge} {gd : Option (Nat × Bool)} {sT dT e : TypeId} {x : Operand} (hs : P.underlying sT = some (.slice e)) (he : P.underlying e = some (.int .u8)) (hd : P.underlying dT = some .string) (cs : List Int) {p : Option Addr} {n c : Nat} (hx : a.eval x = .slice p n c) (h : SlOld w (.slice p n c) cs) :
    (execOp a.eval { dst := dst, op := .convert sT dT x, type := typ, pos := pos, after := aft, guard := gd }).run P w = .ok (.value (.string (strOf cs))) w := by
  unfold execOp
  simp only [hx, run_tostr (P := P) w hs he hd cs h, Sem.run_bind, Sem.run_pure, Result.andThen_ok]
theorem exec_nes {P : Program} {a : Act} {w : World} {dst : Option Tmp} {typ : TypeId} {pos : String} {aft : Array Edge} {gd : Option (Nat × Bool)} {t : TypeId} {x y : Operand} {rt : TypeId} (s s' : ByteArray) (v : Bool) (hx : a.eval x = .string s) (hy : a.eval y = .string s') (hv : (s == s') = v) :
    (execOp a.eval { dst := dst, op := .binOp .neq t x y rt, type := typ, pos := pos, after := aft, guard := gd }).run P w = .ok (.value (.bool (!v))) w := by
  subst hv
  unfold execOp
  simp only [hx, hy]
  simp [eqGuard, binOp, Op.stringOp]
  rw [← beq_toListBytes s s']
theorem beq_self_str (s : ByteArray) : (s == s) = true := by
  rw [beq_toListBytes]
  exact beq_self_eq_true _
theorem expand_at (ks info : List Int) (v : Value) (n : Int) (N : Nat) (hn : n = (N : Int)) (hkl : ks.length = 32) (hkb : Bytes ks) (hib : Bytes info) (hil : info.length ≤ 100000) (hN : N ≤ 8160) (w : World) (ht : Tab w) (hv : SlOld w v info) :
    Calls Tryd.prog 39 #[.agg (u8s ks).toArray, v, .int .i64 n] w fun e w' => ∃ g, e = .returned (.slice (some ⟨g, 0, none⟩) N N) ∧ w.heap.size ≤ g ∧ Row w' g (u8s (expandOf ks info N)) 5 ∧ Below w.heap.size w w' := by
  subst hn
  exact expand_any ks info v N hkl hkb hib hil hN w ht hv
theorem rows_at (k info : List Int) (m i : Nat) (h : i < m) : ((rowsOf k info m).drop (32 * i)).take 32 = pieceOf k info (i + 1) := by
  obtain ⟨j, rfl⟩ : ∃ j, m = i + 1 + j := ⟨m - (i + 1), by omega⟩
  have h1 := rowsOf_take k info (i + 1) j (32 * (i + 1)) (Nat.le_refl _)
  have h2 : (rowsOf k info (i + 1)).take (32 * (i + 1)) = rowsOf k info (i + 1) := List.take_of_length_le (by rw [rowsOf_length]; omega)
  rw [h2] at h1
  have h3 : ((rowsOf k info (i + 1 + j)).drop (32 * i)).take 32 = ((rowsOf k info (i + 1 + j)).take (32 * (i + 1))).drop (32 * i) := by
    rw [List.drop_take, show 32 * (i + 1) - 32 * i = 32 by omega]
  rw [h3, h1, rowsOf, List.drop_append, List.drop_of_length_le (by rw [rowsOf_length]; omega), rowsOf_length]
  simp
end Go.Proofs.YtbfccepddfinoaaDoor
