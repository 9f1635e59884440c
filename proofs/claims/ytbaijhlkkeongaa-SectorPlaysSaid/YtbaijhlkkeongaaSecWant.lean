/- Eight sectors as they are wanted, beside a disk of eight. -/
import Derived.Test.YtbaijhlkkeongaaSectorKeepsWalk
namespace Go.Proofs.Ytbaijhlkkeongaa
open Go Go.RowKit Go.Maps

set_option maxRecDepth 100000 in
theorem sz_b64 : (Try.prog.info? 53).map (·.size) = some 64 := by kernel_rfl
set_option maxRecDepth 100000 in
theorem flatK_over (ds : Nat → List Int) (n i : Nat) (bs : List Int) (h : ∀ i, i < n → (ds i).length = 64) (hb : bs.length ≤ 64) (hi : i < n) : splice (flatK ds n) (i * 64) bs = flatK (upf ds i (over (ds i) bs)) n := by
  have hl := flatK_length ds n h
  have hd := h i hi
  rw [← flatK_set ds n i _ h (over_length hd hb) hi]
  unfold splice over
  have e1 : (bs ++ (ds i).drop bs.length).length = 64 := by simp; omega
  rw [e1]
  have e2 : (flatK ds n).drop (i * 64 + bs.length) = (ds i).drop bs.length ++ (flatK ds n).drop (i * 64 + 64) := by
    have e3 : (flatK ds n).drop (i * 64) = ds i ++ (flatK ds n).drop (i * 64 + 64) := by
      have := (List.take_append_drop 64 ((flatK ds n).drop (i * 64))).symm
      rw [flatK_at ds n i h hi, List.drop_drop] at this
      exact this
    rw [← List.drop_drop, e3, List.drop_append_of_le_length (by omega)]
  rw [e2]
  simp
set_option maxRecDepth 100000 in
theorem u8s_splice (l cs : List Int) (o : Nat) : splice (u8s l) o (u8s cs) = u8s (splice l o cs) := by simp [splice, u8s]
/-- Each sector is as it is wanted. -/
structure Dk.Like (d : Dk) (W : Nat → List Int) (s : Int) : Prop where
  calm : d.Calm
  n : d.n = 8
  steps : d.steps = s
  now : ∀ k, k < 8 → d.now k = W k
  len : ∀ k, k < 8 → (W k).length = 64
  bytes : ∀ k, k < 8 → Bytes (W k)
set_option maxRecDepth 100000 in
theorem like_new : (Dk.new 8).Like (fun _ => zeroK) 0 := ⟨Dk.calm_new 8, rfl, rfl, fun _ _ => rfl, fun _ _ => zeroK_length, fun _ _ => zeroK_bytes⟩
section
variable {d : Dk} {W : Nat → List Int} {s : Int}
set_option maxRecDepth 100000 in
theorem Dk.Like.num (h : d.Like W s) (hs : s < 1000) : d.Num := h.calm.num (by rw [h.steps]; omega)
set_option maxRecDepth 100000 in
theorem Dk.Like.write (h : d.Like W s) (x : Nat) (bs : List Int) (hx : x < 8) (hb : bs.length ≤ 64) (hbb : Bytes bs) : (d.step.put x (over (d.now x) bs)).Like (upf W x (over (W x) bs)) (s + 1) := by
  refine ⟨h.calm.step.put _ _, h.n, by show d.steps + 1 = _; rw [h.steps], fun k hk => ?_, fun k hk => ?_, fun k hk => ?_⟩
  · by_cases he : k = x
    · subst he
      rw [Dk.put_nowA, upf_same, h.now k hk]
    · rw [Dk.put_now_other _ he, upf_other _ _ he]
      exact h.now k hk
  · by_cases he : k = x
    · subst he
      rw [upf_same]
      exact over_length (h.len k hk) hb
    · rw [upf_other _ _ he]
      exact h.len k hk
  · by_cases he : k = x
    · subst he
      rw [upf_same]
      exact over_bytes (h.bytes k hk) hbb
    · rw [upf_other _ _ he]
      exact h.bytes k hk
set_option maxRecDepth 100000 in
theorem Dk.Like.flush (h : d.Like W s) : d.step.flushed.Like W (s + 1) :=
  ⟨h.calm.step.flushed, h.n, by show d.steps + 1 = _; rw [h.steps], fun k hk => by rw [Dk.flushed_now, Dk.step_now]; exact h.now k hk, h.len, h.bytes⟩
end
section
variable {a : Act} {w : World} {dst : Option Tmp} {typ : TypeId} {pos : String} {aft : Array Edge} {gd : Option (Nat × Bool)}
set_option maxRecDepth 100000 in
theorem old_want {W : Nat → List Int} {q : Nat} {t : TypeId} (i : Nat) (hr : Row w q (u8s (flatK W 8)) t) (hl : ∀ k, k < 8 → (W k).length = 64) (hi : i < 8) : SlOld w (.slice (some ⟨q, i * 64, none⟩) 64 64) (W i) := by
  refine ⟨_, 64, by rw [hl i hi], by rw [hl i hi]; exact Nat.le_refl _, fun _ => ⟨q, i * 64, rfl, fun j hj => ?_⟩⟩
  have h1 := (Seg.row hr).drop (i * 64)
  have h2 := h1.take 64
  rw [flatK_at W 8 i hl hi, Nat.zero_add] at h2
  exact h2 j hj
end
end Go.Proofs.Ytbaijhlkkeongaa
