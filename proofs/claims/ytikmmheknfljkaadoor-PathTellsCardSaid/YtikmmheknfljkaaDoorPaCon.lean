/- The library's functions on strings, as package path calls them. -/
import Derived.Test.YtikmmheknfljkaaDoorPaSeg
import Derived.Test.YtikmmheknfljkaaDoorPaLays
namespace Go.Proofs.YtikmmheknfljkaaDoor
open Go Go.RowKit
def MaxL (w : World) : Prop := ∃ m, w.cell? ⟨0, 0, none⟩ = some (.int .i64 m)
set_option maxRecDepth 100000 in
theorem MaxL.below {w w' : World} (h : MaxL w) (hb : Below w.heap.size w w') : MaxL w' := by
  obtain ⟨m, hm⟩ := h
  exact ⟨m, by rw [hb.cell (p := ⟨0, 0, none⟩) (block_lt_of_cell hm)]; exact hm⟩
set_option maxRecDepth 100000 in
theorem SlS.of_row {w : World} {g n cap : Nat} {xs : List ByteArray} {r : List Value} {t : TypeId} (h : Row w g (strs xs ++ r) t) (hn : xs.length = n) (hc : n ≤ cap) : SlS w (.slice (some ⟨g, 0, none⟩) n cap) xs := by
  subst hn
  refine ⟨_, cap, rfl, hc, by simp [strs], fun _ => ⟨g, 0, rfl, fun j u hu => ?_⟩⟩
  rw [Nat.zero_add, h.cell j, List.getElem?_append_left (List.getElem?_eq_some_iff.1 hu).1]
  exact hu
set_option maxRecDepth 100000 in
theorem splitn_any (c : UInt8) (s : ByteArray) (w : World) (hs : s.size ≤ 1000) (hM : MaxL w) :
    Calls Tryd.prog 43 #[.string s, .string ⟨#[c]⟩, .int .i64 4] w fun e w' => ∃ v, e = .returned v ∧ SlS w' v (Lib.splitB (mkS [c]) 0 (min 4 (s.size + 1) - 1) s) ∧ Below w.heap.size w w' := by
  obtain ⟨m, hm⟩ := hM
  have hle := Lib.splitB_length_le (mkS [c]) 0 (min 4 (s.size + 1) - 1) s
  refine (Any.strings_SplitN splitA made_str s (mkS [c]) 4 m w (by omega) hm (by rw [mkS_size]; simp) (by omega) (by omega)).mono ?_
  rintro e w' ⟨rfl, rfl⟩
  refine ⟨_, rfl, ?_, Below.alloc (Below.refl _ _) (Nat.le_refl _) _⟩
  refine SlS.of_row (t := 9) (r := List.replicate (min 4 (s.size + 1) - (Lib.splitB (mkS [c]) 0 (min 4 (s.size + 1) - 1) s).length) (Value.string ByteArray.empty)) ?_ rfl (by omega)
  exact Row.new w _ _
set_option maxHeartbeats 1000000 in
set_option maxRecDepth 100000 in
theorem sclone_any (s : ByteArray) (w : World) (hs : s.size ≤ 1000) : Calls Tryd.prog 42 #[.string s] w fun e w' => e = .returned (.string s) ∧ Below w.heap.size w w' := by
  go_enter Tryd.func42, Tryd.ntmps42
  go_wp2_with (first | (go_at_call 50; refine (AnyPu.stringslite_Clone scloneA s _ (by omega)).mono ?_; rintro e w' ⟨he, hb⟩; subst he))
  go_ret
  exact ⟨rfl, hb⟩
set_option maxRecDepth 100000 in
theorem plv_cell {w : World} {g : Nat} {ks : List ByteArray} {t : TypeId} (hr : Row w g (plv ks) t) : ∀ j, j < [ks.getD 0 noStr, ks.getD 1 noStr, ks.getD 2 noStr].length → w.cell? ⟨g, 0 + j, none⟩ = some (.string ([ks.getD 0 noStr, ks.getD 1 noStr, ks.getD 2 noStr].getD j ByteArray.empty)) := by
  intro j hj
  rw [Nat.zero_add, hr.cell j]
  simp only [List.length_cons, List.length_nil] at hj
  rcases (show j = 0 ∨ j = 1 ∨ j = 2 by omega) with rfl | rfl | rfl <;> rfl
set_option maxRecDepth 100000 in
theorem idx_any {ks : List ByteArray} (h : PlOk ks) {g : Nat} {t : TypeId} (w : World) (hr : Row w g (plv ks) t) :
    Calls Tryd.prog 45 #[.slice (some ⟨g, 0, none⟩) 3 3, .string ⟨#[]⟩] w fun e w' => e = .returned (.int .i64 (if ks.length = 3 then -1 else (ks.length : Int))) ∧ w' = w := by
  rw [← idx_pl h]
  exact Any.slices_Index_string indexA g 0 3 3 [ks.getD 0 noStr, ks.getD 1 noStr, ks.getD 2 noStr] noStr w (by simp) (by omega) (plv_cell hr)
set_option maxRecDepth 100000 in
theorem take3 {ks : List ByteArray} (h : ks.length ≤ 3) : [ks.getD 0 noStr, ks.getD 1 noStr, ks.getD 2 noStr].take ks.length = ks := by
  match ks, h with
  | [], _ => rfl
  | [a], _ => rfl
  | [a, b], _ => rfl
  | [a, b, c], _ => rfl
set_option maxRecDepth 100000 in
theorem clone_any {ks : List ByteArray} (h : PlOk ks) {g n cap : Nat} {t : TypeId} (hn : n = ks.length) (w : World) (hr : Row w g (plv ks) t) :
    Calls Tryd.prog 44 #[.slice (some ⟨g, 0, none⟩) n cap] w fun e w' => ∃ v, e = .returned v ∧ w'.ownsRow w.heap.size 9 1 v n (strs ks) ∧ Below w.heap.size w w' := by
  subst hn
  have hl := h.len
  have c := Any.slices_Clone_string cloneA g 0 ks.length cap [ks.getD 0 noStr, ks.getD 1 noStr, ks.getD 2 noStr] w (by simpa using hl) (by omega) (plv_cell hr)
  rw [take3 hl] at c
  refine c.mono ?_
  rintro e w' ⟨v, he, ho, _, hb⟩
  exact ⟨v, he, ho, hb⟩
set_option maxRecDepth 100000 in
theorem bex : Builder.Extra Tryd.prog joinA_ren := { sizeBuilder := by kernel_rfl, liesBuilder := by kernel_rfl, t5 := Tryd.underlying5, a5 := Tryd.isAgg5, z5 := Tryd.sizeOf5, v5 := Tryd.zeroValue5, infoByte := by kernel_rfl, cellsByte := by kernel_rfl, sizeByte := by kernel_rfl, neB5 := by decide }
set_option maxRecDepth 100000 in
theorem join_any (xs : List ByteArray) (v : Value) (w : World) (hv : SlS w v xs) (hl : xs.length ≤ 10) (hs : ∀ x ∈ xs, x.size ≤ 10) :
    Calls Tryd.prog 40 #[v, .string ⟨#[47]⟩] w fun e w' => e = .returned (.string (mkS (jn 47 (xs.map bs)))) ∧ Below w.heap.size w w' := by
  obtain ⟨p, cap, rfl, hcap, _, hseg⟩ := hv
  by_cases h0 : xs = []
  · subst h0
    refine (Any.strings_Join_none joinA bex p cap ⟨#[47]⟩ w).mono ?_
    rintro e w' ⟨rfl, rfl⟩
    exact ⟨rfl, Below.refl _ _⟩
  · obtain ⟨b, off, rfl, hc⟩ := hseg (List.length_pos_iff.2 h0)
    have hcells : ∀ (j : Nat) x, xs[j]? = some x → w.cell? ⟨b, off + j, none⟩ = some (.string x) := fun j x hx => hc j _ (by simp [strs, hx])
    have hb : b < w.heap.size := by
      have := hcells 0 (xs[0]'(List.length_pos_iff.2 h0)) (by simp)
      exact block_lt_of_cell this
    have hlen : (Lib.join (xs.map (·.data.toList)) [47]).length ≤ 140737488355328 := by
      have := jn_len 47 (ks := xs.map bs) (fun k hk => by obtain ⟨x, hx, rfl⟩ := List.mem_map.1 hk; rw [bs_length]; exact hs x hx)
      rw [List.length_map] at this
      show (jn 47 (xs.map bs)).length ≤ _
      omega
    exact Any.strings_Join joinA bex b off cap xs ⟨#[47]⟩ w hcells hb (by omega) hcap hlen
def last0 (l : List UInt8) : Bool := decide (l.getLast? = some 0)
set_option maxRecDepth 100000 in
theorem suffix0 (l : List UInt8) : Lib.hasSuffix l [0] = last0 l := by
  unfold Lib.hasSuffix last0
  rw [Bool.eq_iff_iff, List.isSuffixOf_iff_suffix, decide_eq_true_eq, List.getLast?_eq_some_iff]
  constructor
  · rintro ⟨t, ht⟩; exact ⟨t, ht.symm⟩
  · rintro ⟨t, ht⟩; exact ⟨t, ht.symm⟩
set_option maxRecDepth 100000 in
theorem cuts_any (s : ByteArray) (w : World) (hs : s.size ≤ 1000) :
    Calls Tryd.prog 31 #[.string s, .string ⟨#[0]⟩] w fun e w' => e = .returned (.tuple #[.string (mkS (if last0 (bs s) then (bs s).dropLast else bs s)), .bool (last0 (bs s))]) ∧ w' = w := by
  refine (Any.strings_CutSuffix cutsA s ⟨#[0]⟩ w (by omega)).mono ?_
  rintro e w' ⟨he, hw⟩
  refine ⟨?_, hw⟩
  rw [he]
  show Ending.returned (.tuple #[.string (mkS (if Lib.hasSuffix (bs s) [0] then (bs s).take ((bs s).length - [0].length) else bs s)), .bool (Lib.hasSuffix (bs s) [0])]) = _
  rw [suffix0]
  by_cases h : last0 (bs s) = true
  · rw [if_pos h, if_pos h, List.dropLast_eq_take]; rfl
  · rw [if_neg h, if_neg h]
end Go.Proofs.YtikmmheknfljkaaDoor
