/- A padded message: the words behind all its blocks are what a hash ends with. -/
import Derived.Test.YtbfccepddfinoaaDoorPlain
namespace Go.Proofs.YtbfccepddfinoaaDoor
open Go Go.RowKit

/-- How many zeros lie between the one and the length. -/
def padZ (n : Nat) : Nat := (119 - n % 64) % 64
def padOf (m : List Int) : List Int := m ++ [128] ++ List.replicate (padZ m.length) 0 ++ be8 (m.length * 8)
theorem be8_length (n : Int) : (be8 n).length = 8 := rfl
theorem padOf_length (m : List Int) : (padOf m).length % 64 = 0 := by
  simp [padOf, be8_length, padZ]
  omega
theorem splice_full (m d : List Int) (h : m.length % 64 + d.length = 64) : splice (restOf m) (m.length % 64) d = tailOf m ++ d := by
  rw [splice_rest m d (by omega), h]
  simp
theorem rest_one (m : List Int) : (restOf m).set (m.length % 64) 128 = tailOf m ++ ([128] ++ List.replicate (63 - m.length % 64) 0) := by
  have hl := tailOf_length m
  unfold restOf
  rw [List.set_append_right _ _ (by omega), hl, Nat.sub_self, show 64 - m.length % 64 = (63 - m.length % 64) + 1 by omega, List.replicate_succ, List.set_cons_zero]
  rfl
theorem pad_ws (m : List Int) : wsOf (padOf m) = fin (wsOf m) (restOf m) m.length := by
  have hl := tailOf_length m
  unfold fin
  split
  · rename_i h56
    have ez : padZ m.length = (63 - m.length % 64) + 56 := by unfold padZ; omega
    have hd1 : m.length % 64 + ([128] ++ List.replicate (63 - m.length % 64) (0 : Int)).length = 64 := by simp; omega
    have ep : padOf m = (m ++ ([128] ++ List.replicate (63 - m.length % 64) 0)) ++ (List.replicate 56 0 ++ be8 (m.length * 8)) := by
      unfold padOf
      rw [ez, ← List.replicate_append_replicate]
      simp
    have h0 : (m ++ ([128] ++ List.replicate (63 - m.length % 64) (0 : Int))).length % 64 = 0 := by
      rw [List.length_append]; omega
    rw [ep, full_ws _ (List.replicate 56 0 ++ be8 (m.length * 8)) (by rw [h0]; rfl), full_ws m _ hd1, full_rest m _ hd1, h0, splice_full m _ hd1, rest_one]
    rfl
  · rename_i h56
    have ez : padZ m.length = 55 - m.length % 64 := by unfold padZ; omega
    have hd : m.length % 64 + ([128] ++ List.replicate (55 - m.length % 64) 0 ++ be8 (m.length * 8)).length = 64 := by simp [be8_length]; omega
    have ep : padOf m = m ++ ([128] ++ List.replicate (55 - m.length % 64) 0 ++ be8 (m.length * 8)) := by
      unfold padOf
      rw [ez]
      simp
    rw [ep, full_ws m _ hd, splice_full m _ hd, rest_one]
    congr 1
    unfold splice
    rw [be8_length, List.take_append, List.take_of_length_le (by omega), hl, List.drop_of_length_le (by simp [hl]; omega), List.take_append, List.take_of_length_le (by simp; omega), List.take_replicate]
    simp
    omega
theorem shaOf_pad (m : List Int) : shaOf m = asB (absorb (padOf m) ((padOf m).length / 64)) := by
  unfold shaOf
  rw [← pad_ws]
  rfl
def putN (x : Int) : Nat → List Int
  | 0 => []
  | k + 1 => putN x k ++ [x / 2 ^ (8 * (7 - k)) % 256]
theorem putN_8 (x : Int) : putN x 8 = be8 x := by
  simp only [putN, be8, List.nil_append, List.cons_append, List.cons.injEq, and_true]
  refine ⟨?_, ?_, ?_, ?_, ?_, ?_, ?_, ?_⟩ <;> omega
theorem putN_length (x : Int) (k : Nat) : (putN x k).length = k := by
  induction k with
  | zero => rfl
  | succ k ih => simp [putN, ih]
end Go.Proofs.YtbfccepddfinoaaDoor
