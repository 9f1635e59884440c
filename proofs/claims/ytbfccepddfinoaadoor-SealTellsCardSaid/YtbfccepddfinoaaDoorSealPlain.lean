/- Sealed bytes as plain lists. -/
import Derived.Test.YtbfccepddfinoaaDoorMacPlain
import Derived.Test.YtbfccepddfinoaaDoorStPlain
import Derived.Test.YtbfccepddfinoaaDoorPad
namespace Go.Proofs.YtbfccepddfinoaaDoor
open Go Go.RowKit

set_option maxRecDepth 100000 in
theorem be4_inj {x y : Int} (hx : 0 ≤ x ∧ x < 4294967296) (hy : 0 ≤ y ∧ y < 4294967296) (h : be4 x = be4 y) : x = y := by
  simp only [be4, List.cons.injEq, and_true] at h
  omega
set_option maxRecDepth 100000 in
theorem be8_inj {x y : Int} (hx : 0 ≤ x ∧ x < 18446744073709551616) (hy : 0 ≤ y ∧ y < 18446744073709551616) (h : be8 x = be8 y) : x = y := by
  simp only [be8, List.cons.injEq, and_true] at h
  omega
def nonceOf (p g : Int) : List Int := be4 p ++ be8 g
set_option maxRecDepth 100000 in
theorem nonceOf_length (p g : Int) : (nonceOf p g).length = 12 := rfl
set_option maxRecDepth 100000 in
theorem nonceOf_bytes (p g : Int) : Bytes (nonceOf p g) := (be4_bytes p).append (be8_bytes g)
set_option maxRecDepth 100000 in
theorem nonceOf_eq {p q g h : Int} (hp : 0 ≤ p ∧ p < 4294967296) (hq : 0 ≤ q ∧ q < 4294967296) (hg : 0 ≤ g ∧ g < 18446744073709551616) (hh : 0 ≤ h ∧ h < 18446744073709551616) : nonceOf p g = nonceOf q h ↔ p = q ∧ g = h := by
  constructor
  · intro e
    obtain ⟨e1, e2⟩ := List.append_inj e rfl
    exact ⟨be4_inj hp hq e1, be8_inj hg hh e2⟩
  · rintro ⟨rfl, rfl⟩
    rfl
def labEnc : List Int := [101, 110, 99]
def labMac : List Int := [109, 97, 99]
def labWrap : List Int := [119, 114, 97, 112]
set_option maxRecDepth 100000 in
theorem labWrap_bytes : Bytes labWrap := by unfold Bytes labWrap; decide
def encKey (k : List Int) : List Int := deriveOf k labEnc 0
def macKey (k : List Int) : List Int := deriveOf k labMac 0
def msgOf (n a c : List Int) : List Int := be8 (a.length : Int) ++ a ++ n ++ c
set_option maxRecDepth 100000 in
theorem msgOf_length (n a c : List Int) : (msgOf n a c).length = 8 + a.length + n.length + c.length := by simp [msgOf, be8_length]; omega
set_option maxRecDepth 100000 in
theorem msgOf_bytes {n a c : List Int} (hn : Bytes n) (ha : Bytes a) (hc : Bytes c) : Bytes (msgOf n a c) := (((be8_bytes _).append ha).append hn).append hc
def tagOf (k n a c : List Int) : List Int := (macOf (macKey k) (msgOf n a c)).take 16
set_option maxRecDepth 100000 in
theorem tagOf_length (k n a c : List Int) : (tagOf k n a c).length = 16 := by simp [tagOf, macOf_length]
set_option maxRecDepth 100000 in
theorem tagOf_bytes (k n a c : List Int) : Bytes (tagOf k n a c) := (macOf_bytes _ _).take _
def encOf (k n m : List Int) : List Int := xorOf (encKey k) n 1 m
set_option maxRecDepth 100000 in
theorem encOf_length (k n m : List Int) : (encOf k n m).length = m.length := xorOf_length _ _ _ _
set_option maxRecDepth 100000 in
theorem encOf_bytes (k n : List Int) {m : List Int} (h : Bytes m) : Bytes (encOf k n m) := xorOf_bytes _ _ _ h
set_option maxRecDepth 100000 in
theorem encOf_twice (k n : List Int) {m : List Int} (h : Bytes m) : encOf k n (encOf k n m) = m := xorOf_twice _ _ _ h
def sealOf (k n a m : List Int) : List Int := encOf k n m ++ tagOf k n a (encOf k n m)
set_option maxRecDepth 100000 in
theorem sealOf_length (k n a m : List Int) : (sealOf k n a m).length = m.length + 16 := by rw [sealOf, List.length_append, encOf_length, tagOf_length]
set_option maxRecDepth 100000 in
theorem sealOf_bytes (k n a : List Int) {m : List Int} (h : Bytes m) : Bytes (sealOf k n a m) := (encOf_bytes k n h).append (tagOf_bytes _ _ _ _)
set_option maxRecDepth 100000 in
theorem sealOf_take (k n a m : List Int) : (sealOf k n a m).take m.length = encOf k n m := by
  rw [sealOf, ← encOf_length k n m, List.take_left]
set_option maxRecDepth 100000 in
theorem sealOf_drop (k n a m : List Int) : (sealOf k n a m).drop m.length = tagOf k n a (encOf k n m) := by
  rw [sealOf, ← encOf_length k n m, List.drop_left]
/-- What is opened: whether the last sixteen are the others' tag. -/
def fits (k n a b : List Int) : Bool := decide (b.drop (b.length - 16) = tagOf k n a (b.take (b.length - 16)))
set_option maxRecDepth 100000 in
theorem fits_seal (k n a m : List Int) : fits k n a (sealOf k n a m) = true := by
  unfold fits
  rw [sealOf_length, Nat.add_sub_cancel, sealOf_take, sealOf_drop]
  exact decide_eq_true rfl
set_option maxRecDepth 100000 in
/-- Sealed anew: what fits is what is sealed of what is opened. -/
theorem fits_back (k n a : List Int) {b : List Int} (hb : Bytes b) (h : fits k n a b = true) : sealOf k n a (encOf k n (b.take (b.length - 16))) = b := by
  have h1 := of_decide_eq_true h
  rw [sealOf, encOf_twice k n (hb.take _), ← h1, List.take_append_drop]
set_option maxRecDepth 100000 in
theorem fits_turned (k n a m : List Int) (j : Nat) (x : Int) (hj : j < 16) : fits k n a ((sealOf k n a m).set (m.length + j) x) = decide ((sealOf k n a m).getD (m.length + j) 0 = x) := by
  have hl : (encOf k n m).length = m.length := encOf_length k n m
  have ht : (tagOf k n a (encOf k n m)).length = 16 := tagOf_length _ _ _ _
  have e : (sealOf k n a m).set (m.length + j) x = encOf k n m ++ (tagOf k n a (encOf k n m)).set j x := by
    rw [sealOf, List.set_append_right _ _ (by rw [hl]; omega), hl, Nat.add_sub_cancel_left]
  unfold fits
  rw [e, List.length_append, List.length_set, hl, ht, Nat.add_sub_cancel, ← hl, List.take_left, List.drop_left, hl]
  have e2 : (sealOf k n a m).getD (m.length + j) 0 = (tagOf k n a (encOf k n m)).getD j 0 := by
    rw [sealOf, getD_append, if_neg (by rw [hl]; omega), hl, Nat.add_sub_cancel_left]
  rw [e2]
  generalize tagOf k n a (encOf k n m) = T at ht
  congr 1
  apply propext
  constructor
  · intro h
    have := congrArg (fun l => l.getD j 0) h
    simp only [List.getD_eq_getElem?_getD, List.getElem?_set_self (show j < T.length by omega)] at this
    simpa using this.symm
  · intro h
    rw [← h]
    apply List.ext_getElem
    · simp
    · intro i h1 h2
      by_cases hij : j = i
      · subst hij
        simp [show j < T.length by omega]
      · simp [hij]
set_option maxRecDepth 100000 in
/-- Where texts differ. -/
theorem encOf_get (k n m : List Int) (i : Nat) (h : i < m.length) : (encOf k n m).getD i 0 = bits .xor .u8 (m.getD i 0) (keyAt (encKey k) n 1 i) := xorOf_get _ _ _ _ _ h
def kOne : List Int := 0 :: 2 :: List.replicate 30 0
set_option maxRecDepth 100000 in
theorem kOne_length : kOne.length = 32 := rfl
set_option maxRecDepth 100000 in
theorem kOne_bytes : Bytes kOne := by unfold Bytes kOne; decide
def secret : List Int := [115, 101, 99, 114, 101, 116]
set_option maxRecDepth 100000 in
theorem secret_bytes : Bytes secret := by unfold Bytes secret; decide
set_option maxRecDepth 100000 in
theorem tags_apart : tagOf kOne (nonceOf 1 2) [97] (encOf kOne (nonceOf 1 2) secret) ≠ tagOf kOne (nonceOf 1 2) [98] (encOf kOne (nonceOf 1 2) secret) := by decide +kernel
set_option maxRecDepth 100000 in
theorem fits_not : fits kOne (nonceOf 1 2) [98] (sealOf kOne (nonceOf 1 2) [97] secret) = false := by
  unfold fits
  rw [sealOf_length, Nat.add_sub_cancel, sealOf_take, sealOf_drop]
  exact decide_eq_false tags_apart
end Go.Proofs.YtbfccepddfinoaaDoor
