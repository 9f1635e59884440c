/- What a hash holds when a message has been written, in plain lists; no statement is proved here. -/
import Derived.Test.YtbiinchmbclmcaaDoorBase
namespace Go.Proofs.YtbiinchmbclmcaaDoor
open Go Go.RowKit

def Bytes (l : List Int) : Prop := ∀ x ∈ l, 0 ≤ x ∧ x < 256
theorem Bytes.get {l : List Int} (h : Bytes l) (j : Nat) : 0 ≤ l.getD j 0 ∧ l.getD j 0 < 256 := by
  rcases Nat.lt_or_ge j l.length with hj | hj
  · have := h l[j] (List.getElem_mem hj)
    simpa [hj] using this
  · simp [List.getElem?_eq_none hj]
theorem Bytes.append {l l' : List Int} (h : Bytes l) (h' : Bytes l') : Bytes (l ++ l') := by
  intro x hx
  rcases List.mem_append.1 hx with hx | hx
  · exact h x hx
  · exact h' x hx
theorem Bytes.take {l : List Int} (h : Bytes l) (n : Nat) : Bytes (l.take n) := fun x hx => h x (List.mem_of_mem_take hx)
theorem Bytes.drop {l : List Int} (h : Bytes l) (n : Nat) : Bytes (l.drop n) := fun x hx => h x (List.mem_of_mem_drop hx)
theorem Bytes.zeros (n : Nat) : Bytes (List.replicate n 0) := by
  intro x hx
  have := List.eq_of_mem_replicate hx
  omega
theorem Bytes.splice {l cs : List Int} (h : Bytes l) (hc : Bytes cs) (off : Nat) : Bytes (Go.splice l off cs) :=
  (h.take _).append (hc.append (h.drop _))
theorem Bytes.set {l : List Int} (h : Bytes l) (i : Nat) (x : Int) (hx : 0 ≤ x ∧ x < 256) : Bytes (l.set i x) := by
  intro y hy
  rcases List.mem_or_eq_of_mem_set hy with hy | rfl
  · exact h y hy
  · exact hx

def firstW : List Int := [1779033703, 3144134277, 1013904242, 2773480762, 1359893119, 2600822924, 528734635, 1541459225]

theorem rnd_length (k x : Int) (l : List Int) (h : l.length = 8) : (rnd k x l).length = 8 := by
  match l, h with
  | [a, b, c, d, e, f, g, h], _ => rfl
theorem shaRounds_length (ws W : List Int) (h : ws.length = 8) (k : Nat) : (shaRounds ws W k).length = 8 := by
  induction k with
  | zero => exact h
  | succ k ih => exact rnd_length _ _ _ ih
theorem mix_length (ws bs : List Int) (h : ws.length = 8) : (mix ws bs).length = 8 := addW_length _ _ h (shaRounds_length _ _ h _)

/-- The words behind the first k blocks of a message. -/
def absorb (m : List Int) : Nat → List Int
  | 0 => firstW
  | k + 1 => mix (absorb m k) ((m.drop (64 * k)).take 64)
theorem absorb_length (m : List Int) (k : Nat) : (absorb m k).length = 8 := by
  induction k with
  | zero => rfl
  | succ k ih => exact mix_length _ _ ih
theorem absorb_append (m d : List Int) (k : Nat) (h : 64 * k ≤ m.length) : absorb (m ++ d) k = absorb m k := by
  induction k with
  | zero => rfl
  | succ k ih =>
    have e : ((m ++ d).drop (64 * k)).take 64 = (m.drop (64 * k)).take 64 := by
      rw [List.drop_append_of_le_length (by omega), List.take_append_of_le_length (by simp; omega)]
    rw [absorb, absorb, ih (by omega), e]
def wsOf (m : List Int) : List Int := absorb m (m.length / 64)
def tailOf (m : List Int) : List Int := m.drop (64 * (m.length / 64))
def restOf (m : List Int) : List Int := tailOf m ++ List.replicate (64 - m.length % 64) 0
theorem wsOf_length (m : List Int) : (wsOf m).length = 8 := absorb_length _ _
theorem tailOf_length (m : List Int) : (tailOf m).length = m.length % 64 := by simp [tailOf]; omega
theorem restOf_length (m : List Int) : (restOf m).length = 64 := by simp [restOf, tailOf_length]; omega
theorem restOf_bytes {m : List Int} (h : Bytes m) : Bytes (restOf m) := (h.drop _).append (Bytes.zeros _)
theorem wsOf_small (m : List Int) (h : m.length < 64) : wsOf m = firstW := by
  have e : m.length / 64 = 0 := by omega
  rw [wsOf, e]; rfl
theorem splice_rest (m d : List Int) (h : m.length % 64 + d.length ≤ 64) : splice (restOf m) (m.length % 64) d = tailOf m ++ d ++ List.replicate (64 - (m.length % 64 + d.length)) 0 := by
  have hl := tailOf_length m
  have e1 : (restOf m).take (m.length % 64) = tailOf m := by
    unfold restOf
    rw [List.take_append_of_le_length (by omega), List.take_of_length_le (by omega)]
  have e2 : (restOf m).drop (m.length % 64 + d.length) = List.replicate (64 - (m.length % 64 + d.length)) 0 := by
    unfold restOf
    rw [List.drop_append, List.drop_of_length_le (by omega), hl, List.nil_append, List.drop_replicate]
    congr 1
    omega
  unfold splice
  rw [e1, e2, List.append_assoc]
theorem more_ws (m d : List Int) (h : m.length % 64 + d.length < 64) : wsOf (m ++ d) = wsOf m := by
  have e : (m ++ d).length / 64 = m.length / 64 := by simp; omega
  rw [wsOf, e, absorb_append m d _ (by omega), wsOf]
theorem more_rest (m d : List Int) (h : m.length % 64 + d.length < 64) : restOf (m ++ d) = splice (restOf m) (m.length % 64) d := by
  have e : (m ++ d).length / 64 = m.length / 64 := by simp; omega
  have e2 : (m ++ d).length % 64 = m.length % 64 + d.length := by simp; omega
  rw [splice_rest m d (by omega), restOf, tailOf, e, e2, List.drop_append_of_le_length (by omega), tailOf]
theorem full_ws (m d : List Int) (h : m.length % 64 + d.length = 64) : wsOf (m ++ d) = mix (wsOf m) (splice (restOf m) (m.length % 64) d) := by
  have e : (m ++ d).length / 64 = m.length / 64 + 1 := by simp; omega
  have e3 : ((m ++ d).drop (64 * (m.length / 64))).take 64 = tailOf m ++ d := by
    rw [List.drop_append_of_le_length (by omega), List.take_of_length_le (by have := tailOf_length m; unfold tailOf at this; simp at this ⊢; omega), tailOf]
  rw [splice_rest m d (by omega), wsOf, e, absorb, absorb_append m d _ (by omega), e3, h]
  simp [wsOf]
theorem full_rest (m d : List Int) (h : m.length % 64 + d.length = 64) : restOf (m ++ d) = List.replicate 64 0 := by
  have e : (m ++ d).length % 64 = 0 := by simp; omega
  have hl := tailOf_length (m ++ d)
  rw [e] at hl
  rw [restOf, List.eq_nil_of_length_eq_zero hl, e]
  rfl

/-- The cells of a Hash. -/
def hrow (ws rest : List Int) (n : Int) : List Value := u32s ws ++ (u8s rest ++ [.int .i64 n])
theorem hrow_length (ws rest : List Int) (n : Int) (h : ws.length = 8) (h' : rest.length = 64) : (hrow ws rest n).length = 73 := by simp [hrow, u32s_length, u8s_length, h, h']
theorem hrow_words (ws rest : List Int) (n : Int) (h : ws.length = 8) : ((hrow ws rest n).drop 0).take 8 = u32s ws := by
  rw [List.drop_zero, hrow, List.take_append_of_le_length (by rw [u32s_length]; omega), List.take_of_length_le (by rw [u32s_length]; omega)]
theorem hrow_rest (ws rest : List Int) (n : Int) (h : ws.length = 8) (h' : rest.length = 64) : ((hrow ws rest n).drop 8).take 64 = u8s rest := by
  rw [hrow, List.drop_append, List.drop_of_length_le (by rw [u32s_length]; omega), u32s_length, h, List.nil_append, Nat.sub_self, List.drop_zero, List.take_append_of_le_length (by rw [u8s_length]; omega), List.take_of_length_le (by rw [u8s_length]; omega)]
theorem hrow_size (ws rest : List Int) (n : Int) (h : ws.length = 8) (h' : rest.length = 64) : (hrow ws rest n)[72]? = some (.int .i64 n) := by
  rw [hrow, List.getElem?_append_right (by rw [u32s_length]; omega), List.getElem?_append_right (by rw [u8s_length, u32s_length]; omega), u8s_length, u32s_length, h, h']
  rfl
theorem hrow_setSize (ws rest : List Int) (n n' : Int) (h : ws.length = 8) (h' : rest.length = 64) : (hrow ws rest n).set 72 (.int .i64 n') = hrow ws rest n' := by
  rw [hrow, List.set_append_right _ _ (by rw [u32s_length]; omega), List.set_append_right _ _ (by rw [u8s_length, u32s_length]; omega), u8s_length, u32s_length, h, h']
  rfl
theorem hrow_setWords (ws ws' rest : List Int) (n : Int) (h : ws.length = 8) (h' : ws'.length = 8) : splice (hrow ws rest n) 0 (u32s ws') = hrow ws' rest n := by
  unfold splice hrow
  rw [List.take_zero, List.nil_append, u32s_length, h', Nat.zero_add, List.drop_append, List.drop_of_length_le (by rw [u32s_length]; omega), u32s_length, h]
  rfl
theorem hrow_setRest (ws rest : List Int) (n : Int) (off : Nat) (cs : List Int) (h : ws.length = 8) (h' : rest.length = 64) (hc : off + cs.length ≤ 64) : splice (hrow ws rest n) (8 + off) (u8s cs) = hrow ws (splice rest off cs) n := by
  unfold splice hrow
  rw [u8s_length, List.take_append, List.take_of_length_le (by rw [u32s_length]; omega), u32s_length, h, List.drop_append, List.drop_of_length_le (by rw [u32s_length]; omega), u32s_length, h,
    show 8 + off - 8 = off by omega, show 8 + off + cs.length - 8 = off + cs.length by omega, List.take_append_of_le_length (by rw [u8s_length]; omega), List.drop_append_of_le_length (by rw [u8s_length]; omega)]
  simp [u8s]

def be8 (n : Int) : List Int :=
  [n / 256 / 256 / 256 / 256 / 256 / 256 / 256 % 256, n / 256 / 256 / 256 / 256 / 256 / 256 % 256, n / 256 / 256 / 256 / 256 / 256 % 256, n / 256 / 256 / 256 / 256 % 256, n / 256 / 256 / 256 % 256, n / 256 / 256 % 256, n / 256 % 256, n % 256]
theorem be8_bytes (n : Int) : Bytes (be8 n) := by
  intro x hx
  simp only [be8, List.mem_cons, List.not_mem_nil, or_false] at hx
  rcases hx with rfl | rfl | rfl | rfl | rfl | rfl | rfl | rfl <;> omega
def fin (ws rest : List Int) (n : Nat) : List Int :=
  if 56 ≤ n % 64 then mix (mix ws (rest.set (n % 64) 128)) (splice (List.replicate 64 0) 56 (be8 (n * 8)))
  else mix ws (splice (rest.set (n % 64) 128) 56 (be8 (n * 8)))
theorem fin_length (ws rest : List Int) (n : Nat) (h : ws.length = 8) : (fin ws rest n).length = 8 := by
  unfold fin; split
  · exact mix_length _ _ (mix_length _ _ h)
  · exact mix_length _ _ h
def asB (ws : List Int) : List Int := ws.flatMap four
theorem asB_length (ws : List Int) (h : ws.length = 8) : (asB ws).length = 32 := by
  match ws, h with
  | [a, b, c, d, e, f, g, h], _ => rfl
theorem four_bytes (x : Int) : Bytes (four x) := by
  intro y hy
  simp only [four, List.mem_cons, List.not_mem_nil, or_false] at hy
  rcases hy with rfl | rfl | rfl | rfl <;> omega
theorem asB_bytes (ws : List Int) : Bytes (asB ws) := by
  intro y hy
  obtain ⟨x, _, hx⟩ := List.mem_flatMap.1 hy
  exact four_bytes x y hx
def asRow (ws : List Int) (k : Nat) : List Int := asB (ws.take k) ++ List.replicate (32 - 4 * k) 0
theorem asB_take_length (ws : List Int) (h : ws.length = 8) (k : Nat) (hk : k ≤ 8) : (asB (ws.take k)).length = 4 * k := by
  have : ∀ l : List Int, (asB l).length = 4 * l.length := by
    intro l
    induction l with
    | nil => rfl
    | cons x l ih => simp [asB, four] at ih ⊢; omega
  rw [this]
  simp
  omega
theorem asRow_length (ws : List Int) (h : ws.length = 8) (k : Nat) (hk : k ≤ 8) : (asRow ws k).length = 32 := by simp [asRow, asB_take_length ws h k hk]; omega
theorem asRow_full (ws : List Int) (h : ws.length = 8) : asRow ws 8 = asB ws := by
  unfold asRow
  rw [List.take_of_length_le (by omega)]
  simp
theorem asRow_step (ws : List Int) (h : ws.length = 8) (k : Nat) (hk : k < 8) : splice (asRow ws k) (4 * k) (four (ws.getD k 0)) = asRow ws (k + 1) := by
  have hl := asB_take_length ws h k (by omega)
  have h4 : (four (ws.getD k 0)).length = 4 := rfl
  have e1 : (asRow ws k).take (4 * k) = asB (ws.take k) := by
    unfold asRow
    rw [List.take_append_of_le_length (by omega), List.take_of_length_le (by omega)]
  have e2 : (asRow ws k).drop (4 * k + 4) = List.replicate (32 - 4 * (k + 1)) 0 := by
    unfold asRow
    rw [List.drop_append, List.drop_of_length_le (by omega), hl, List.nil_append, List.drop_replicate]
    congr 1
    omega
  have e3 : asB (ws.take (k + 1)) = asB (ws.take k) ++ four (ws.getD k 0) := by
    have hg : ws.getD k 0 = ws[k]'(by omega) := by simp [show k < ws.length by omega]
    unfold asB
    rw [List.take_succ_eq_append_getElem (by omega), List.flatMap_append, hg, List.flatMap_cons, List.flatMap_nil, List.append_nil]
  unfold splice
  rw [h4, e1, e2, asRow, e3, List.append_assoc]
/-- The sum of a message. -/
def shaOf (m : List Int) : List Int := asB (fin (wsOf m) (restOf m) m.length)
theorem shaOf_length (m : List Int) : (shaOf m).length = 32 := asB_length _ (fin_length _ _ _ (wsOf_length m))
theorem shaOf_bytes (m : List Int) : Bytes (shaOf m) := asB_bytes _
def hexDigit (x : Int) : Int := [48, 49, 50, 51, 52, 53, 54, 55, 56, 57, 97, 98, 99, 100, 101, 102].getD x.toNat 0
def hexOf (l : List Int) : List Int := l.flatMap fun c => [hexDigit (c / 16), hexDigit (c % 16)]
theorem sum_nothing : hexOf (shaOf []) = [101, 51, 98, 48, 99, 52, 52, 50, 57, 56, 102, 99, 49, 99, 49, 52, 57, 97, 102, 98, 102, 52, 99, 56, 57, 57, 54, 102, 98, 57, 50, 52, 50, 55, 97, 101, 52, 49, 101, 52, 54, 52, 57, 98, 57, 51, 52, 99, 97, 52, 57, 53, 57, 57, 49, 98, 55, 56, 53, 50, 98, 56, 53, 53] := by decide +kernel
theorem sum_abc : hexOf (shaOf [97, 98, 99]) = [98, 97, 55, 56, 49, 54, 98, 102, 56, 102, 48, 49, 99, 102, 101, 97, 52, 49, 52, 49, 52, 48, 100, 101, 53, 100, 97, 101, 50, 50, 50, 51, 98, 48, 48, 51, 54, 49, 97, 51, 57, 54, 49, 55, 55, 97, 57, 99, 98, 52, 49, 48, 102, 102, 54, 49, 102, 50, 48, 48, 49, 53, 97, 100] := by decide +kernel
end Go.Proofs.YtbiinchmbclmcaaDoor
