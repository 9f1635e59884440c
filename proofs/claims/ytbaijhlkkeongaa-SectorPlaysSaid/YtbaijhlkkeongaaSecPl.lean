/- The disk and the document's, side by side. -/
import Derived.Test.YtbaijhlkkeongaaSecRefC
namespace Go.Proofs.Ytbaijhlkkeongaa
open Go Go.RowKit Go.Maps

structure Pl (w0 w : World) (g mb : Nat) (kv : Value) (q a b c : Nat) (d e : Dk) (rows : List (Nat × List Value × TypeId)) : Prop where
  sd : Sd w0 w g mb kv d rows
  rf : Rf w q a b c e
  new : ∀ k ∈ [q, a, b, c], w0.heap.size ≤ k
  ap : ∀ k ∈ [q, a, b, c], k ∉ foot g mb kv
  apr : ∀ r ∈ rows, r.1 ∉ [q, a, b, c]
section
variable {w0 w w' : World} {g mb q a b c : Nat} {kv : Value} {d d' e e' : Dk} {rows : List (Nat × List Value × TypeId)}
set_option maxRecDepth 100000 in
theorem Pl.turnD (h : Pl w0 w g mb kv q a b c d e rows) (hd : DkAt w' g mb kv d') (hu : UpdS (foot g mb kv) w w') : Pl w0 w' g mb kv q a b c d' e rows :=
  ⟨h.sd.turn hd hu, RfAt.keep h.rf (fun k hk => hu.block k (RfAt.lt h.rf k hk) (h.ap k hk)), h.new, h.ap, h.apr⟩
set_option maxRecDepth 100000 in
theorem Pl.turnR (h : Pl w0 w g mb kv q a b c d e rows) (hr : Rf w' q a b c e') (hu : UpdS [q, a, b, c] w w') : Pl w0 w' g mb kv q a b c d e' rows := by
  refine ⟨⟨⟨hu.os.trans h.sd.mem.os, hu.tape.trans h.sd.mem.tape, hu.output.trans h.sd.mem.output, Nat.le_trans h.sd.mem.size hu.size, fun k hk hn => ?_, fun r hr => hu.row (h.sd.mem.row r hr) (h.apr r hr), h.sd.mem.nodup, h.sd.mem.fresh⟩, h.sd.dk.keep (fun k hk => hu.block k (h.sd.dk.lt k hk) (fun hh => h.ap k hh hk)), h.sd.new, h.sd.apart⟩, hr, h.new, h.ap, h.apr⟩
  refine (hu.block k (Nat.lt_of_lt_of_le hk h.sd.mem.size) (fun hh => ?_)).trans (h.sd.mem.block k hk hn)
  have := h.new k hh
  omega
set_option maxRecDepth 100000 in
theorem Pl.below (h : Pl w0 w g mb kv q a b c d e rows) (hb : Below w.heap.size w w') : Pl w0 w' g mb kv q a b c d e rows := ⟨h.sd.below hb, RfAt.below h.rf hb, h.new, h.ap, h.apr⟩
set_option maxRecDepth 100000 in
theorem Pl.drew (h : Pl w0 w g mb kv q a b c d e rows) : Pl w0 w.drew g mb kv q a b c d e rows := ⟨h.sd.drew, ⟨h.rf.row, h.rf.now, h.rf.kept, h.rf.pend, h.rf.nd⟩, h.new, h.ap, h.apr⟩
set_option maxRecDepth 100000 in
theorem Pl.tail {r : Nat × List Value × TypeId} (h : Pl w0 w g mb kv q a b c d e (r :: rows)) : Pl w0 w g mb kv q a b c d e rows := ⟨h.sd.tail, h.rf, h.new, h.ap, fun r' hr => h.apr r' (List.mem_cons_of_mem _ hr)⟩
set_option maxRecDepth 100000 in
theorem Pl.row (h : Pl w0 w g mb kv q a b c d e rows) {r : Nat} {l : List Value} {t : TypeId} (hb : Below w.heap.size w w') (hr : Row w' r l t) (hq : w.heap.size ≤ r) : Pl w0 w' g mb kv q a b c d e ((r, l, t) :: rows) := by
  refine ⟨h.sd.row hb hr hq, RfAt.below h.rf hb, h.new, h.ap, fun r' hr' => ?_⟩
  rcases List.mem_cons.1 hr' with rfl | hr'
  · intro hk
    have := RfAt.lt h.rf _ hk
    simp at this
    omega
  · exact h.apr r' hr'
set_option maxRecDepth 100000 in
theorem Pl.took (h : Pl w0 w g mb kv q a b c d e rows) {r : Nat} {l : List Value} {t : TypeId} (hq : Mem w [] w' [(r, l, t)]) : Pl w0 w' g mb kv q a b c d e ((r, l, t) :: rows) :=
  h.row hq.below (hq.get 0 rfl) (by have := hq.fresh _ (List.mem_cons_self ..); simpa using this)
set_option maxRecDepth 100000 in
theorem Pl.upd (h : Pl w0 w g mb kv q a b c d e rows) (i : Nat) {r : Nat} {l l' : List Value} {t : TypeId} (hi : rows[i]? = some (r, l, t)) (hu : Upd r w w') (hr : Row w' r l' t) : Pl w0 w' g mb kv q a b c d e (rows.set i (r, l', t)) := by
  have hmem := List.mem_of_getElem? hi
  have ha := h.apr _ hmem
  refine ⟨h.sd.upd i hi hu hr, RfAt.keep h.rf (fun k hk => hu.block k (RfAt.lt h.rf k hk) (fun e => ha (e ▸ hk))), h.new, h.ap, fun r' hr' => ?_⟩
  rcases List.mem_or_eq_of_mem_set hr' with h1 | h1
  · exact h.apr r' h1
  · subst h1
    exact ha
set_option maxRecDepth 100000 in
theorem Pl.turned (h : Pl w0 w g mb kv q a b c d e rows) (i : Nat) {r : Nat} {l l' : List Value} {t : TypeId} (hi : rows[i]? = some (r, l, t)) (hq : Mem w [r] w' [(r, l', t)]) : Pl w0 w' g mb kv q a b c d e (rows.set i (r, l', t)) := h.upd i hi hq.toUpd (hq.get 0 rfl)
set_option maxRecDepth 100000 in
theorem Pl.congr (h : Pl w0 w g mb kv q a b c d e rows) (h1 : d = d') (h2 : e = e') : Pl w0 w g mb kv q a b c d' e' rows := h1 ▸ h2 ▸ h
set_option maxRecDepth 100000 in
theorem Pl.slA (h : Pl w0 w g mb kv q a b c d e rows) {v : Value} {cs : List Int} (ho : SlOld w0 v cs) : SlA w (foot g mb kv) v cs ∧ SlA w [q, a, b, c] v cs := ⟨SlA.of_old ho h.sd.mem h.sd.new, SlA.of_old ho h.sd.mem h.new⟩
end
set_option maxRecDepth 100000 in
theorem read_dk (g mb : Nat) (kv : Value) (d : Dk) (i : Int) (w : World) (hd : DkAt w g mb kv d) :
    Calls Try.prog 20 #[.pointer (some ⟨g, 0, none⟩), .int .i64 i] w fun e w' => ∃ v, e = .returned (.tuple #[v, .int .i64 (d.rcode i)]) ∧ SlOld w' v (d.read i) ∧ Below w.heap.size w w' := by
  unfold Dk.rcode Dk.read
  have hnil : ∀ W : World, SlOld W (.slice none 0 0) [] := fun W => ⟨none, 0, rfl, Nat.le_refl _, fun h => absurd h (by simp)⟩
  cases ho : d.off with
  | true =>
    rw [if_pos rfl, if_pos rfl]
    refine (read_off g mb kv d i ho w hd).mono ?_
    rintro e w' ⟨rfl, hw⟩
    subst hw
    exact ⟨_, rfl, hnil _, Below.refl _ _⟩
  | false =>
    cases hh : d.has i with
    | false =>
      simp only [Bool.false_eq_true, if_false]
      refine (read_bad g mb kv d i ho hh w hd).mono ?_
      rintro e w' ⟨rfl, hw⟩
      subst hw
      exact ⟨_, rfl, hnil _, Below.refl _ _⟩
    | true =>
      simp only [Bool.false_eq_true, if_false, if_true]
      have h2 : 0 ≤ i ∧ i < d.n := by simpa [Dk.has] using hh
      obtain ⟨k, rfl⟩ : ∃ k : Nat, i = (k : Int) := ⟨i.toNat, by omega⟩
      have hk : k < d.n := by omega
      refine (read_good g mb kv d k ho hk w hd).mono ?_
      rintro e w' ⟨q, rfl, h3, h4, h5⟩
      have hl := hd.ok.now hk
      exact ⟨_, rfl, ⟨_, 64, by rw [Int.toNat_natCast, hl], by rw [Int.toNat_natCast, hl]; exact Nat.le_refl _, fun _ => ⟨q, 0, rfl, Seg.row h4⟩⟩, h5⟩
end Go.Proofs.Ytbaijhlkkeongaa
