/- Strings: from bytes, and their bytes. -/
import Derived.Test.YtbiinchmbclmcaaDoorMore
import Derived.Test.YtbiinchmbclmcaaDoorPlain
import Derived.Laws.BytesString
namespace Go.Proofs.YtbiinchmbclmcaaDoor
open Go Go.RowKit

def strOf (ns : List Int) : ByteArray := ⟨(ns.map fun n => UInt8.ofNat n.toNat).toArray⟩
theorem fold_push (ns : List Int) : ∀ s : ByteArray, ns.foldl (fun r n => r.push (UInt8.ofNat n.toNat)) s = ⟨s.data ++ (ns.map fun n => UInt8.ofNat n.toNat).toArray⟩ := by
  induction ns with
  | nil => intro s; simp
  | cons n ns ih =>
    intro s
    rw [List.foldl_cons, ih]
    simp [ByteArray.push]
theorem strOf_size (ns : List Int) : (strOf ns).size = ns.length := by simp [strOf, ByteArray.size]
theorem byte_back {x y : Int} (hx : 0 ≤ x ∧ x < 256) (hy : 0 ≤ y ∧ y < 256) (h : UInt8.ofNat x.toNat = UInt8.ofNat y.toNat) : x = y := by
  have h' := congrArg UInt8.toNat h
  simp at h'
  omega
theorem byte_val {x : Int} (hx : 0 ≤ x ∧ x < 256) : ((UInt8.ofNat x.toNat).toNat : Int) = x := by
  simp
  omega
theorem strOf_inj {a b : List Int} (ha : Bytes a) (hb : Bytes b) (h : strOf a = strOf b) : a = b := by
  have h1 : (a.map fun n => UInt8.ofNat n.toNat) = (b.map fun n => UInt8.ofNat n.toNat) := by
    have := congrArg ByteArray.data h
    simpa [strOf] using this
  clear h
  induction a generalizing b with
  | nil =>
    cases b with
    | nil => rfl
    | cons y b => simp at h1
  | cons x a ih =>
    cases b with
    | nil => simp at h1
    | cons y b =>
      simp only [List.map_cons, List.cons.injEq] at h1
      rw [byte_back (ha x (by simp)) (hb y (by simp)) h1.1, ih (fun z hz => ha z (by simp [hz])) (fun z hz => hb z (by simp [hz])) h1.2]
theorem strOf_eq {a b : List Int} (ha : Bytes a) (hb : Bytes b) : (strOf a == strOf b) = decide (a = b) := by
  rw [beq_toListBytes, Bool.eq_iff_iff, beq_iff_eq, decide_eq_true_iff]
  refine ⟨fun h => strOf_inj ha hb ?_, fun h => by rw [h]⟩
  rw [ByteArray.toList_eq, ByteArray.toList_eq] at h
  have := congrArg List.toArray h
  simp only [Array.toArray_toList] at this
  cases hx : strOf a
  cases hy : strOf b
  rw [hx, hy] at this
  simp only at this
  rw [this]
theorem strOf_get (ns : List Int) (h : Bytes ns) (j : Nat) (hj : j < ns.length) : ∃ b, (strOf ns).data[j]? = some b ∧ (b.toNat : Int) = ns.getD j 0 := by
  refine ⟨UInt8.ofNat (ns.getD j 0).toNat, by simp [strOf, hj], byte_val (h.get j)⟩

section
variable {P : Program} {ops : Array Oper} {rest : List Oper} {a : Act} {w w0 : World} {Q : Exit → Act → World → Prop} {dst : Option Tmp} {typ : TypeId} {pos : String} {aft : Array Edge} {S : List Nat} {rows : List (Nat × List Value × TypeId)}
theorem wpl_tostr {sT dT e : TypeId} {x : Operand} (hs : P.underlying sT = some (.slice e)) (he : P.underlying e = some (.int .u8)) (hd : P.underlying dT = some .string) (ns : List Int) {g cap : Nat} {t : TypeId} (n : Nat) (hr : Row w g (u8s ns) t) (hn : ns.length = n) (hx : a.eval x = .slice (some ⟨g, 0, none⟩) n cap)
    (h : wpList P ops Q rest (a.put dst (.string (strOf ns))) w) :
    wpList P ops Q ({ dst := dst, op := .convert sT dT x, type := typ, pos := pos, after := aft, guard := none } :: rest) a w := by
  refine wpList_plain rfl fun K hK => ?_
  have hh := hK _ _ h
  have hl : (loadCells ⟨g, 0, none⟩ n).run P w = .ok (ns.map (Value.int .u8)).toArray w := by
    have := run_loadCells_list (P := P) w ⟨g, 0, none⟩ (u8s ns) (Seg.row hr).src
    rw [u8s_length, hn] at this
    exact this
  have hc : (convert sT dT (.slice (some ⟨g, 0, none⟩) n cap)).run P w = .ok (.string (strOf ns)) w := by
    rw [run_convert_bytes_string w sT dT e _ n cap hs he hd, run_bytesToString w _ n cap ns hl, fold_push]
    have e : ByteArray.empty.data = #[] := rfl
    rw [e, Array.empty_append]
    rfl
  unfold Oper.wp execOp
  simp only [hx, hc, Sem.run_bind, Sem.run_pure, Result.andThen_ok]
  exact hh
theorem run_ixs (w : World) {ty : TypeId} (hu : P.underlying ty = some .string) (s : ByteArray) {k : IntKind} {i : Int} (j : Nat) (b : UInt8) (hi : i = (j : Int)) (hb : s.data[j]? = some b) : (Instr.index ty (.string s) (.int k i)).run P w = .ok (.int .u8 b.toNat) w := by
  subst hi
  have hj : j < s.size := by
    rcases Nat.lt_or_ge j s.data.size with h | h
    · exact h
    · rw [Array.getElem?_eq_none h] at hb; cases hb
  have hg : s[j] = b := by
    have : s.data[j]? = some s.data[j] := by simp
    rw [this] at hb
    exact Option.some.inj hb
  rw [run_index_string w ty s k (j : Int) hu, dif_pos ⟨by omega, by omega⟩]
  simp [hg]
theorem exec_ixs {gd : Option (Nat × Bool)} {ty : TypeId} {x ix : Operand} (hu : P.underlying ty = some .string) (s : ByteArray) {k : IntKind} {i : Int} (j : Nat) (v : Int) (hx : a.eval x = .string s) (hix : a.eval ix = .int k i) (hi : i = (j : Int)) (hb : ∃ b, s.data[j]? = some b ∧ (b.toNat : Int) = v) :
    (execOp a.eval { dst := dst, op := .index ty x ix, type := typ, pos := pos, after := aft, guard := gd }).run P w = .ok (.value (.int .u8 v)) w := by
  obtain ⟨b, hb, rfl⟩ := hb
  unfold execOp
  simp only [hx, hix, run_ixs w hu s j b hi hb, Sem.run_bind, Sem.run_pure, Result.andThen_ok]
theorem wpl_ixs {ty : TypeId} {x ix : Operand} (hu : P.underlying ty = some .string) (s : ByteArray) {k : IntKind} {i : Int} (j : Nat) (v : Int) (hx : a.eval x = .string s) (hix : a.eval ix = .int k i) (hi : i = (j : Int)) (hb : ∃ b, s.data[j]? = some b ∧ (b.toNat : Int) = v)
    (h : wpList P ops Q rest (a.put dst (.int .u8 v)) w) :
    wpList P ops Q ({ dst := dst, op := .index ty x ix, type := typ, pos := pos, after := aft, guard := none } :: rest) a w := by
  obtain ⟨b, hb, rfl⟩ := hb
  refine wpList_plain rfl fun K hK => ?_
  have hh := hK _ _ h
  unfold Oper.wp execOp
  simp only [hx, hix, run_ixs w hu s j b hi hb, Sem.run_bind, Sem.run_pure, Result.andThen_ok]
  exact hh
end

def digs : ByteArray := { data := #[48, 49, 50, 51, 52, 53, 54, 55, 56, 57, 97, 98, 99, 100, 101, 102] }
theorem digs_all : ∀ j : Fin 16, (digs.data[j.val]?).map (fun b => (b.toNat : Int)) = some (hexDigit (j.val : Int)) := by decide +kernel
theorem digs_at (x : Int) (j : Nat) (hx : x = (j : Int)) (hj : j < 16) : ∃ b, digs.data[j]? = some b ∧ (b.toNat : Int) = hexDigit x := by
  subst hx
  exact Option.map_eq_some_iff.1 (digs_all ⟨j, hj⟩)
theorem hexDigit_byte (x : Int) : 0 ≤ hexDigit x ∧ hexDigit x < 256 := by
  have : Bytes [48, 49, 50, 51, 52, 53, 54, 55, 56, 57, 97, 98, 99, 100, 101, 102] := by
    intro y hy
    simp only [List.mem_cons, List.not_mem_nil, or_false] at hy
    omega
  exact this.get _
theorem hexDigit_inj {x y : Int} (hx : 0 ≤ x ∧ x < 16) (hy : 0 ≤ y ∧ y < 16) (h : hexDigit x = hexDigit y) : x = y := by
  have key : ∀ i j : Fin 16, hexDigit (i.val : Int) = hexDigit (j.val : Int) → i = j := by decide +kernel
  have := key ⟨x.toNat, by omega⟩ ⟨y.toNat, by omega⟩ (by simpa [Int.toNat_of_nonneg hx.1, Int.toNat_of_nonneg hy.1] using h)
  have := congrArg Fin.val this
  simp at this
  omega
theorem hexOf_bytes (l : List Int) : Bytes (hexOf l) := by
  intro y hy
  obtain ⟨c, _, hc⟩ := List.mem_flatMap.1 hy
  simp only [List.mem_cons, List.not_mem_nil, or_false] at hc
  rcases hc with rfl | rfl
  · exact hexDigit_byte _
  · exact hexDigit_byte _
theorem hexOf_length (l : List Int) : (hexOf l).length = 2 * l.length := by
  induction l with
  | nil => rfl
  | cons x l ih => simp [hexOf] at ih ⊢; omega
theorem hexOf_get (l : List Int) : ∀ k, k < l.length → (hexOf l).getD (2 * k) 0 = hexDigit (l.getD k 0 / 16) ∧ (hexOf l).getD (2 * k + 1) 0 = hexDigit (l.getD k 0 % 16) := by
  induction l with
  | nil => intro k hk; simp at hk
  | cons x l ih =>
    intro k hk
    cases k with
    | zero => exact ⟨rfl, rfl⟩
    | succ k =>
      have := ih k (by simpa using hk)
      exact this
theorem hexOf_inj {a b : List Int} (hl : a.length = b.length) (ha : Bytes a) (hb : Bytes b) (h : hexOf a = hexOf b) : a = b := by
  induction a generalizing b with
  | nil =>
    cases b with
    | nil => rfl
    | cons y b => simp at hl
  | cons x a ih =>
    cases b with
    | nil => simp at hl
    | cons y b =>
      have h' : hexDigit (x / 16) :: hexDigit (x % 16) :: hexOf a = hexDigit (y / 16) :: hexDigit (y % 16) :: hexOf b := h
      simp only [List.cons.injEq] at h'
      obtain ⟨h1, h2, h3⟩ := h'
      have bx := ha x (by simp)
      have bY := hb y (by simp)
      have e1 := hexDigit_inj ⟨by omega, by omega⟩ ⟨by omega, by omega⟩ h1
      have e2 := hexDigit_inj ⟨by omega, by omega⟩ ⟨by omega, by omega⟩ h2
      rw [show x = y by omega, ih (by simpa using hl) (fun z hz => ha z (by simp [hz])) (fun z hz => hb z (by simp [hz])) h3]
def hexRow (l : List Int) (k : Nat) : List Int := hexOf (l.take k) ++ List.replicate (64 - 2 * k) 0
theorem hexRow_length (l : List Int) (h : l.length = 32) (k : Nat) (hk : k ≤ 32) : (hexRow l k).length = 64 := by simp [hexRow, hexOf_length, h]; omega
theorem hexRow_full (l : List Int) (h : l.length = 32) : hexRow l 32 = hexOf l := by
  unfold hexRow
  rw [List.take_of_length_le (by omega)]
  simp
theorem hexRow_step (l : List Int) (h : l.length = 32) (k : Nat) (hk : k < 32) : ((hexRow l k).set (2 * k) (hexDigit (l.getD k 0 / 16))).set (2 * k + 1) (hexDigit (l.getD k 0 % 16)) = hexRow l (k + 1) := by
  have hl : (hexOf (l.take k)).length = 2 * k := by rw [hexOf_length]; simp; omega
  have hg : l.getD k 0 = l[k]'(by omega) := by simp [show k < l.length by omega]
  have e3 : hexOf (l.take (k + 1)) = hexOf (l.take k) ++ [hexDigit (l.getD k 0 / 16), hexDigit (l.getD k 0 % 16)] := by
    unfold hexOf
    rw [List.take_succ_eq_append_getElem (by omega), List.flatMap_append, hg, List.flatMap_cons, List.flatMap_nil, List.append_nil]
  unfold hexRow
  rw [List.set_append_right _ _ (by omega), List.set_append_right _ _ (by omega), hl, Nat.sub_self, show 2 * k + 1 - 2 * k = 1 by omega, show 64 - 2 * k = (64 - 2 * (k + 1)) + 1 + 1 by omega, List.replicate_succ, List.replicate_succ, e3]
  simp
end Go.Proofs.YtbiinchmbclmcaaDoor
