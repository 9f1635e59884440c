/- Bytes turned into a string, out of whatever slice. -/
import Derived.Test.YtonbfbcbmdnelaaDoorMacLaw
namespace Go.Proofs.YtonbfbcbmdnelaaDoor
open Go Go.RowKit

theorem run_tostr {P : Program} (w : World) {sT dT e : TypeId} (hs : P.underlying sT = some (.slice e)) (he : P.underlying e = some (.int .u8)) (hd : P.underlying dT = some .string) (cs : List Int) {p : Option Addr} {n c : Nat} (h : SlOld w (.slice p n c) cs) :
    (convert sT dT (.slice p n c)).run P w = .ok (.string (strOf cs)) w := by
  obtain ⟨hn, _, hsrc⟩ := h.src0
  subst hn
  rw [run_convert_bytes_string w sT dT e _ _ c hs he hd]
  have e0 : ByteArray.empty.data = #[] := rfl
  by_cases h0 : 0 < cs.length
  · obtain ⟨b, off, rfl, hseg⟩ := hsrc h0
    have hl : (loadCells ⟨b, off, none⟩ cs.length).run P w = .ok (cs.map (Value.int .u8)).toArray w := by
      have := run_loadCells_list (P := P) w ⟨b, off, none⟩ (u8s cs) hseg.src
      rw [u8s_length] at this
      exact this
    rw [run_bytesToString w _ cs.length c cs hl, fold_push, e0, Array.empty_append]
    rfl
  · obtain rfl : cs = [] := List.eq_nil_of_length_eq_zero (by omega)
    cases p with
    | none => simp [Conv.bytesToString, strOf]; rfl
    | some a =>
      rw [run_bytesToString w a ([] : List Int).length c [] rfl]
      rfl
theorem exec_tostr {P : Program} {a : Act} {w : World} {dst : Option Tmp} {typ : TypeId} {pos : String} {aft : Array Edge} {gd : Option (Nat × Bool)} {sT dT e : TypeId} {x : Operand} (hs : P.underlying sT = some (.slice e)) (he : P.underlying e = some (.int .u8)) (hd : P.underlying dT = some .string) (cs : List Int) {p : Option Addr} {n c : Nat} (hx : a.eval x = .slice p n c) (h : SlOld w (.slice p n c) cs) :
    (execOp a.eval { dst := dst, op := .convert sT dT x, type := typ, pos := pos, after := aft, guard := gd }).run P w = .ok (.value (.string (strOf cs))) w := by
  unfold execOp
  simp only [hx, run_tostr (P := P) w hs he hd cs h, Sem.run_bind, Sem.run_pure, Result.andThen_ok]
theorem exec_nes {P : Program} {a : Act} {w : World} {dst : Option Tmp} {typ : TypeId} {pos : String} {aft : Array Edge} {gd : Option (Nat × Bool)} {t : TypeId} {x y : Operand} {rt : TypeId} (s s' : ByteArray) (v : Bool) (hx : a.eval x = .string s) (hy : a.eval y = .string s') (hv : (s == s') = v) :
    (execOp a.eval { dst := dst, op := .binOp .neq t x y rt, type := typ, pos := pos, after := aft, guard := gd }).run P w = .ok (.value (.bool (!v))) w := by
  subst hv
  unfold execOp
  simp only [hx, hy]
  simp [eqGuard, binOp, Op.stringOp]
  rw [← beq_toListBytes s s']
theorem beq_self_str (s : ByteArray) : (s == s) = true := by
  rw [beq_toListBytes]
  exact beq_self_eq_true _
theorem expand_at (ks info : List Int) (v : Value) (n : Int) (N : Nat) (hn : n = (N : Int)) (hkl : ks.length = 32) (hkb : Bytes ks) (hib : Bytes info) (hil : info.length ≤ 100000) (hN : N ≤ 8160) (w : World) (ht : Tab w) (hv : SlOld w v info) :
    Calls Tryd.prog 10 #[.agg (u8s ks).toArray, v, .int .i64 n] w fun e w' => ∃ g, e = .returned (.slice (some ⟨g, 0, none⟩) N N) ∧ w.heap.size ≤ g ∧ Row w' g (u8s (expandOf ks info N)) 5 ∧ Below w.heap.size w w' := by
  subst hn
  exact expand_any ks info v N hkl hkb hib hil hN w ht hv
theorem rows_at (k info : List Int) (m i : Nat) (h : i < m) : ((rowsOf k info m).drop (32 * i)).take 32 = pieceOf k info (i + 1) := by
  obtain ⟨j, rfl⟩ : ∃ j, m = i + 1 + j := ⟨m - (i + 1), by omega⟩
  have h1 := rowsOf_take k info (i + 1) j (32 * (i + 1)) (Nat.le_refl _)
  have h2 : (rowsOf k info (i + 1)).take (32 * (i + 1)) = rowsOf k info (i + 1) := List.take_of_length_le (by rw [rowsOf_length]; omega)
  rw [h2] at h1
  have h3 : ((rowsOf k info (i + 1 + j)).drop (32 * i)).take 32 = ((rowsOf k info (i + 1 + j)).take (32 * (i + 1))).drop (32 * i) := by
    rw [List.drop_take, show 32 * (i + 1) - 32 * i = 32 by omega]
  rw [h3, h1, rowsOf, List.drop_append, List.drop_of_length_le (by rw [rowsOf_length]; omega), rowsOf_length]
  simp
end Go.Proofs.YtonbfbcbmdnelaaDoor
