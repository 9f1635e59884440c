/- Plain definitions of the codes and of the derived keys; no statement is proved here. -/
import Derived.Test.YtbfccepddfinoaaDoorStr
import Derived.Laws.BitsAllLaws
namespace Go.Proofs.YtbfccepddfinoaaDoor
open Go Go.RowKit

theorem bytes_none : Bytes [] := by intro x hx; cases hx
def keyCut (k : List Int) : List Int := if k.length ≤ 64 then k else shaOf k
def fillOf (k : List Int) : List Int := keyCut k ++ List.replicate (64 - (keyCut k).length) 0
def xorB (l : List Int) (p : Int) : List Int := l.map fun x => bits .xor .u8 x p
def padIn (k : List Int) : List Int := xorB (fillOf k) 54
def padOut (k : List Int) : List Int := xorB (fillOf k) 92
def macOf (k m : List Int) : List Int := shaOf (padOut k ++ shaOf (padIn k ++ m))
theorem keyCut_le (k : List Int) : (keyCut k).length ≤ 64 := by
  unfold keyCut
  split
  · assumption
  · rw [shaOf_length]; omega
theorem keyCut_bytes {k : List Int} (h : Bytes k) : Bytes (keyCut k) := by
  unfold keyCut
  split
  · exact h
  · exact shaOf_bytes _
theorem fillOf_length (k : List Int) : (fillOf k).length = 64 := by
  have := keyCut_le k
  simp [fillOf]; omega
theorem fillOf_bytes {k : List Int} (h : Bytes k) : Bytes (fillOf k) := (keyCut_bytes h).append (Bytes.zeros _)
theorem xor_byte {x p : Int} (hx : 0 ≤ x ∧ x < 256) (hp : 0 ≤ p ∧ p < 256) : 0 ≤ bits .xor .u8 x p ∧ bits .xor .u8 x p < 256 := by
  rw [u8_xor x p hx.1 hx.2 hp.1 hp.2]
  have : x.toNat ^^^ p.toNat < 2 ^ 8 := Nat.xor_lt_two_pow (by omega) (by omega)
  omega
theorem or_byte {x p : Int} (hx : 0 ≤ x ∧ x < 256) (hp : 0 ≤ p ∧ p < 256) : 0 ≤ bits .or .u8 x p ∧ bits .or .u8 x p < 256 := by
  rw [u8_or x p hx.1 hx.2 hp.1 hp.2]
  have : x.toNat ||| p.toNat < 2 ^ 8 := Nat.or_lt_two_pow (by omega) (by omega)
  omega
theorem or_nought {x p : Int} (hx : 0 ≤ x ∧ x < 256) (hp : 0 ≤ p ∧ p < 256) : bits .or .u8 x p = 0 ↔ x = 0 ∧ p = 0 := by
  rw [u8_or x p hx.1 hx.2 hp.1 hp.2]
  have : x.toNat ||| p.toNat = 0 ↔ x.toNat = 0 ∧ p.toNat = 0 := Nat.or_eq_zero_iff
  omega
theorem xor_nought {x p : Int} (hx : 0 ≤ x ∧ x < 256) (hp : 0 ≤ p ∧ p < 256) : bits .xor .u8 x p = 0 ↔ x = p := by
  rw [u8_xor x p hx.1 hx.2 hp.1 hp.2]
  have : x.toNat ^^^ p.toNat = 0 ↔ x.toNat = p.toNat := by
    constructor
    · intro h
      have h2 := congrArg (· ^^^ p.toNat) h
      simpa [Nat.xor_assoc] using h2
    · intro h
      rw [h, Nat.xor_self]
  omega
theorem xorB_length (l : List Int) (p : Int) : (xorB l p).length = l.length := by simp [xorB]
theorem xorB_bytes {l : List Int} (h : Bytes l) {p : Int} (hp : 0 ≤ p ∧ p < 256) : Bytes (xorB l p) := by
  intro y hy
  obtain ⟨x, hx, rfl⟩ := List.mem_map.1 hy
  exact xor_byte (h x hx) hp
theorem padIn_length (k : List Int) : (padIn k).length = 64 := by rw [padIn, xorB_length, fillOf_length]
theorem padOut_length (k : List Int) : (padOut k).length = 64 := by rw [padOut, xorB_length, fillOf_length]
theorem padIn_bytes {k : List Int} (h : Bytes k) : Bytes (padIn k) := xorB_bytes (fillOf_bytes h) (by omega)
theorem padOut_bytes {k : List Int} (h : Bytes k) : Bytes (padOut k) := xorB_bytes (fillOf_bytes h) (by omega)
theorem macOf_length (k m : List Int) : (macOf k m).length = 32 := shaOf_length _
theorem macOf_bytes (k m : List Int) : Bytes (macOf k m) := shaOf_bytes _
/-- The row of a block of which i bytes have been turned. -/
def xorUpto (l : List Int) (p : Int) (i : Nat) : List Int := xorB (l.take i) p ++ l.drop i
theorem xorUpto_length (l : List Int) (p : Int) (i : Nat) : (xorUpto l p i).length = l.length := by simp [xorUpto, xorB]; omega
theorem xorUpto_full (l : List Int) (p : Int) (i : Nat) (h : l.length ≤ i) : xorUpto l p i = xorB l p := by
  simp [xorUpto, List.take_of_length_le h, List.drop_of_length_le h]
theorem xorUpto_get (l : List Int) (p : Int) (i : Nat) (h : i < l.length) : (xorUpto l p i).getD i 0 = l.getD i 0 := by
  have e : min i l.length = i := by omega
  simp [xorUpto, xorB, List.getElem?_append, e]
theorem xorUpto_set (l : List Int) (p : Int) (i : Nat) (h : i < l.length) : (xorUpto l p i).set i (bits .xor .u8 (l.getD i 0) p) = xorUpto l p (i + 1) := by
  unfold xorUpto
  have e : (xorB (l.take i) p).length = i := by simp [xorB]; omega
  rw [List.set_append_right _ _ (by omega), e, Nat.sub_self]
  have hd : l.drop i = l[i] :: l.drop (i + 1) := List.drop_eq_getElem_cons h
  rw [hd, List.set_cons_zero, List.take_succ_eq_append_getElem h, xorB, xorB, List.map_append, List.append_assoc]
  simp [h]

def pieceOf (k info : List Int) : Nat → List Int
  | 0 => []
  | i + 1 => macOf k (pieceOf k info i ++ info ++ [((i + 1 : Nat) : Int)])
theorem pieceOf_length (k info : List Int) (i : Nat) : (pieceOf k info (i + 1)).length = 32 := macOf_length _ _
theorem pieceOf_le (k info : List Int) (i : Nat) : (pieceOf k info i).length ≤ 32 := by
  cases i with
  | zero => simp [pieceOf]
  | succ i => rw [pieceOf_length]; omega
theorem pieceOf_bytes (k info : List Int) (i : Nat) : Bytes (pieceOf k info i) := by
  cases i with
  | zero => intro x hx; cases hx
  | succ i => exact macOf_bytes _ _
def rowsOf (k info : List Int) : Nat → List Int
  | 0 => []
  | i + 1 => rowsOf k info i ++ pieceOf k info (i + 1)
theorem rowsOf_length (k info : List Int) (i : Nat) : (rowsOf k info i).length = 32 * i := by
  induction i with
  | zero => rfl
  | succ i ih => rw [rowsOf, List.length_append, ih, pieceOf_length]; omega
theorem rowsOf_bytes (k info : List Int) (i : Nat) : Bytes (rowsOf k info i) := by
  induction i with
  | zero => intro x hx; cases hx
  | succ i ih => exact ih.append (pieceOf_bytes _ _ _)
theorem rowsOf_take (k info : List Int) (i j n : Nat) (h : n ≤ 32 * i) : (rowsOf k info (i + j)).take n = (rowsOf k info i).take n := by
  induction j with
  | zero => rfl
  | succ j ih =>
    rw [← Nat.add_assoc, rowsOf, List.take_append_of_le_length (by rw [rowsOf_length]; omega), ih]
def expandOf (k info : List Int) (n : Nat) : List Int := (rowsOf k info ((n + 31) / 32)).take n
theorem expandOf_length (k info : List Int) (n : Nat) : (expandOf k info n).length = n := by
  simp [expandOf, rowsOf_length]; omega
theorem expandOf_bytes (k info : List Int) (n : Nat) : Bytes (expandOf k info n) := (rowsOf_bytes _ _ _).take _
theorem expandOf_at (k info : List Int) (n i : Nat) (h : n ≤ 32 * i) : expandOf k info n = (rowsOf k info i).take n := by
  unfold expandOf
  have h1 : (n + 31) / 32 ≤ i := by omega
  obtain ⟨j, rfl⟩ : ∃ j, i = (n + 31) / 32 + j := ⟨i - (n + 31) / 32, by omega⟩
  rw [rowsOf_take _ _ _ _ _ (by omega)]
theorem expandOf_less (k info : List Int) (n m : Nat) (h : n ≤ m) : (expandOf k info m).take n = expandOf k info n := by
  rw [expandOf_at k info m ((m + 31) / 32) (by omega), expandOf_at k info n ((m + 31) / 32) (by omega), List.take_take, Nat.min_eq_left h]
theorem expandOf_rows (k info : List Int) (i : Nat) : expandOf k info (32 * i) = rowsOf k info i := by
  rw [expandOf_at k info (32 * i) i (Nat.le_refl _), List.take_of_length_le (by rw [rowsOf_length]; omega)]
theorem expandOf_zero (k info : List Int) : expandOf k info 0 = [] := rfl
theorem expandOf_32 (k info : List Int) : expandOf k info 32 = macOf k (info ++ [1]) := by
  rw [show 32 = 32 * 1 from rfl, expandOf_rows]
  rfl
/-- What stands in the answer of n bytes when i pieces are there. -/
def outAt (k info : List Int) (n i : Nat) : List Int := (rowsOf k info i).take n ++ List.replicate (n - 32 * i) 0
theorem outAt_length (k info : List Int) (n i : Nat) : (outAt k info n i).length = n := by simp [outAt, rowsOf_length]; omega
theorem outAt_zero (k info : List Int) (n : Nat) : outAt k info n 0 = List.replicate n 0 := by simp [outAt, rowsOf]
theorem outAt_full (k info : List Int) (n i : Nat) (h : n ≤ 32 * i) : outAt k info n i = expandOf k info n := by
  rw [expandOf_at k info n i h, outAt, show n - 32 * i = 0 by omega, List.replicate_zero, List.append_nil]
theorem outAt_step (k info : List Int) (n i : Nat) (h : 32 * i < n) : splice (outAt k info n i) (32 * i) ((pieceOf k info (i + 1)).take (n - 32 * i)) = outAt k info n (i + 1) := by
  have hr := rowsOf_length k info i
  have hp := pieceOf_length k info i
  have e1 : (rowsOf k info i).take n = rowsOf k info i := List.take_of_length_le (by omega)
  unfold splice outAt
  rw [e1, List.take_append_of_le_length (by omega), List.take_of_length_le (l := rowsOf k info i) (by omega)]
  rw [rowsOf, List.take_append, e1, hr, List.drop_append, hr, List.drop_of_length_le (by rw [hr]; omega), List.nil_append]
  rw [List.append_assoc]
  refine congrArg (rowsOf k info i ++ ·) (congrArg (List.take (n - 32 * i) (pieceOf k info (i + 1)) ++ ·) ?_)
  have hl : ((pieceOf k info (i + 1)).take (n - 32 * i)).length = min (n - 32 * i) 32 := by rw [List.length_take, hp]
  rw [hl, List.drop_replicate]
  congr 1
  omega

def be4 (n : Int) : List Int := [n / 256 / 256 / 256 % 256, n / 256 / 256 % 256, n / 256 % 256, n % 256]
theorem be4_length (n : Int) : (be4 n).length = 4 := rfl
theorem be4_bytes (n : Int) : Bytes (be4 n) := by
  intro x hx
  simp only [be4, List.mem_cons, List.not_mem_nil, or_false] at hx
  omega
def deriveOf (k label : List Int) (n : Int) : List Int := macOf k (label ++ be4 n ++ [1])
theorem deriveOf_length (k label : List Int) (n : Int) : (deriveOf k label n).length = 32 := macOf_length _ _
theorem deriveOf_bytes (k label : List Int) (n : Int) : Bytes (deriveOf k label n) := macOf_bytes _ _
theorem deriveOf_eq (k label : List Int) (n : Int) : expandOf k (label ++ be4 n) 32 = deriveOf k label n := expandOf_32 _ _
def jefe : List Int := [74, 101, 102, 101]
def want : List Int := [119, 104, 97, 116, 32, 100, 111, 32, 121, 97, 32, 119, 97, 110, 116, 32, 102, 111, 114, 32, 110, 111, 116, 104, 105, 110, 103, 63]
theorem mac_jefe : hexOf (macOf jefe want) = [53, 98, 100, 99, 99, 49, 52, 54, 98, 102, 54, 48, 55, 53, 52, 101, 54, 97, 48, 52, 50, 52, 50, 54, 48, 56, 57, 53, 55, 53, 99, 55, 53, 97, 48, 48, 51, 102, 48, 56, 57, 100, 50, 55, 51, 57, 56, 51, 57, 100, 101, 99, 53, 56, 98, 57, 54, 52, 101, 99, 51, 56, 52, 51] := by decide +kernel
theorem derive_apart : deriveOf (List.replicate 32 0) [97] 0 ≠ deriveOf (List.replicate 32 0) [97] 1 := by decide +kernel
theorem macOf_long (k m : List Int) (h : 64 < k.length) : macOf (shaOf k) m = macOf k m := by
  have e : fillOf (shaOf k) = fillOf k := by
    unfold fillOf keyCut
    rw [if_pos (show (shaOf k).length ≤ 64 by rw [shaOf_length]; omega), if_neg (show ¬ k.length ≤ 64 by omega)]
  unfold macOf padOut padIn
  rw [e]
theorem macOf_noughts (k m : List Int) (n : Nat) (h : k.length + n ≤ 64) : macOf (k ++ List.replicate n 0) m = macOf k m := by
  have e : fillOf (k ++ List.replicate n 0) = fillOf k := by
    unfold fillOf keyCut
    rw [if_pos (by simp; omega), if_pos (by omega), List.append_assoc]
    congr 1
    rw [List.replicate_append_replicate]
    congr 1
    simp
    omega
  unfold macOf padOut padIn
  rw [e]
end Go.Proofs.YtbfccepddfinoaaDoor
