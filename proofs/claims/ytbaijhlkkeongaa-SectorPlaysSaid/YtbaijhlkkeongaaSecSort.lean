/- The numbers of the pending sectors, sorted. -/
import Derived.Test.YtbaijhlkkeongaaSecFlush
import Derived.Test.YtbaijhlkkeongaaSecLays
namespace Go.Proofs.Ytbaijhlkkeongaa
open Go Go.RowKit Go.Maps
open Go.Sort Go.Shelf
set_option maxRecDepth 100000 in
theorem sortsA (m : Nat) : AnyZI.SortsIn Try.prog sortedA_ren Fence.wide m :=
  ⟨fun blk off cap ss W hH hblk hsz => callsIn_wide.2 (AnyM.slices_Sort_int sortA blk off cap ss W hH hblk hsz),
   fun p cap W => callsIn_wide.2 (AnyM.slices_Sort_int_none sortA p cap W)⟩
def Ints (w : World) (base : Nat) (v : Value) (ks : List Nat) : Prop :=
  ∃ p cap, v = .slice p ks.length cap ∧ (0 < ks.length → ∃ b, p = some ⟨b, 0, none⟩ ∧ base ≤ b ∧ b < w.heap.size ∧ ∀ (j i : Nat), ks[j]? = some i → w.cell? ⟨b, j, none⟩ = some (.int .i64 (i : Int)))
set_option maxRecDepth 100000 in
theorem Ints.upd {w w' : World} {base : Nat} {v : Value} {ks : List Nat} {L : List Nat} (h : Ints w base v ks) (hu : UpdS L w w') (hL : ∀ k ∈ L, k < base) : Ints w' base v ks := by
  obtain ⟨p, cap, rfl, h2⟩ := h
  refine ⟨p, cap, rfl, fun h0 => ?_⟩
  obtain ⟨b, rfl, hb, hlt, hc⟩ := h2 h0
  refine ⟨b, rfl, hb, Nat.lt_of_lt_of_le hlt hu.size, fun j i hj => ?_⟩
  rw [World.cell?_of_block (w := w) (a := ⟨b, j, none⟩) (hu.block b hlt (fun hh => by have := hL b hh; omega))]
  exact hc j i hj
set_option maxRecDepth 100000 in
theorem keys_call (mb : Option Nat) (W : World) : Calls Try.prog 27 #[.map mb] W fun e w' => e = .returned (.func (.func 35) #[] #[.pointer (some ⟨W.heap.size, 0, none⟩)]) ∧ w' = W.alloc (.cells #[.map mb] 45) :=
  callsIn_wide.1 (AnyZI.keys_in keysA Fence.wide 5 trivial rfl mb W)
set_option maxRecDepth 100000 in
theorem sorted_disk (g mb : Nat) (kv : Value) (d : Dk) (w : World) (hd : DkAt w g mb kv d) :
    Calls Try.prog 26 #[.func (.func 35) #[] #[.pointer (some ⟨w.heap.size, 0, none⟩)]] (w.alloc (.cells #[.map (some mb)] 45)) fun e w' => ∃ v, e = .returned v ∧ Ints w' w.heap.size v (d.pens d.n) ∧ Below w.heap.size w w' := by
  obtain ⟨q, D, hown, pm⟩ := hd.map
  have hbl := hown.lt
  have hsz := pm.size hd.ok hown
  have hrk := d.rank_le d.n
  have hn := hd.ok.n
  have hseq : SeqGives Fence.wide 2 Try.prog 35 #[.pointer (some ⟨w.heap.size, 0, none⟩)] encZ (fun ss => ss.Perm (intKeys D)) (Maps.size D) (w.alloc (.cells #[.map (some mb)] 45)) :=
    AnyZI.keys_gives (ρ := keysA_ren) { keysA with } Fence.wide _ trivial rfl (by omega) w.heap.size mb q D _ (by simp) (by simp) (by
      obtain ⟨es, clock, hb, Ft, hs, hD⟩ := hown
      exact ⟨es, clock, (Below.heap_alloc _ _ mb hbl).trans hb, Ft, hs, hD⟩)
  have cS := AnyZI.sorted_in sortedA Fence.wide 5 trivial trivial trivial trivial rfl (by omega) (sortsA _) (enters_of Try.func34 (by kernel_rfl) rfl) 35 #[.pointer (some ⟨w.heap.size, 0, none⟩)] trivial (enters_of Try.func35 (by kernel_rfl) rfl) _ _ (by unfold maxLen; omega) (by omega) _ hseq
  change CallsIn _ _ Try.prog 26 _ _ _ at cS
  refine (callsIn_wide.1 cS).mono ?_
  rintro e w' ⟨v, ss, rfl, hS, hrow, _, hb⟩
  have hbw : Below w.heap.size w (w.alloc (.cells #[.map (some mb)] 45)) := (Below.refl _ w).alloc (Nat.le_refl _) _
  refine ⟨v, rfl, ?_, hbw.trans (hb.mono (by simp))⟩
  rw [pm.sorted hd.ok hown hS] at hrow
  have hlen : ss.length = (d.pens d.n).length := by
    have h1 := hS.length_eq
    have h2 := (pm.perm hd.ok hown).length_eq
    rw [List.length_map] at h2
    omega
  rw [hlen] at hrow
  have hr0 := hrow
  rcases hrow.2 with ⟨rfl, hz⟩ | ⟨gb, cap, cur, rfl, hbase, hgb, r1, r2, r3, r4⟩
  · exact ⟨none, 0, by rw [hz], fun h => absurd h (by omega)⟩
  · refine ⟨_, cap, rfl, fun _ => ⟨gb, rfl, by simp at hbase; omega, (Array.getElem?_eq_some_iff.1 hgb).1, fun j i hj => ?_⟩⟩
    have := World.ownsRow.cells hr0 rfl j (.int .i64 (i : Int)) (by simp [hj])
    rw [add_at, Nat.zero_add] at this
    exact this
end Go.Proofs.Ytbaijhlkkeongaa
