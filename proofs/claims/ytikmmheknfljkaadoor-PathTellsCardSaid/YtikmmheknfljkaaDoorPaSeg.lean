/- Segments, as the program tells them. -/
import Derived.Test.YtikmmheknfljkaaDoorPaSl
import Derived.Test.YtikmmheknfljkaaDoorPaCut
import Derived.Test.YtikmmheknfljkaaDoorChecked
namespace Go.Proofs.YtikmmheknfljkaaDoor
open Go Go.RowKit
set_option maxHeartbeats 1000000 in
set_option maxRecDepth 100000 in
theorem sod_any (x : Int) (w : World) : Calls Tryd.prog 36 #[.int .u8 x] w fun e w' => e = .returned (.bool (okc x)) ∧ w' = w := by
  by_cases h1 : 97 ≤ x <;> by_cases h2 : x ≤ 122 <;> by_cases h3 : 48 ≤ x <;> by_cases h4 : x ≤ 57 <;>
  · go_enter Tryd.func36, Tryd.ntmps36
    go_wp2
    go_ret
    exact ⟨by simp [okc, h1, h2, h3, h4], rfl⟩
set_option maxRecDepth 100000 in
theorem byte_at (s : ByteArray) (k : Nat) (h : k < s.size) : ∃ b, s.data[k]? = some b ∧ (bs s)[k]? = some b := by
  have h' : k < s.data.size := h
  exact ⟨s.data[k], by simp, by simp [bs]⟩
set_option maxHeartbeats 1000000 in
set_option maxRecDepth 100000 in
theorem segment_long (s : ByteArray) (w : World) (h : s.size < 1 ∨ 10 < s.size) : Calls Tryd.prog 13 #[.string s] w fun e w' => e = .returned (.bool false) ∧ w' = w := by
  obtain ⟨n, hn⟩ : ∃ n : Nat, n = s.size := ⟨_, rfl⟩
  rw [← hn] at h
  go_enter Tryd.func13, Tryd.ntmps13
  rcases h with h | h
  · have h1 : (s.size : Int) < 1 := by omega
    go_wp2
    go_ret
    exact ⟨rfl, rfl⟩
  · have h1 : ¬ (s.size : Int) < 1 := by omega
    have h2 : (10 : Int) < (s.size : Int) := by omega
    go_wp2
    go_ret
    exact ⟨rfl, rfl⟩
set_option maxRecDepth 100000 in
theorem all_take {l : List UInt8} {k : Nat} {b : UInt8} (h : (l.take k).all okU = true) (hb : l[k]? = some b) (ho : okU b = true) : (l.take (k + 1)).all okU = true := by
  rw [List.take_add_one, hb]
  simp [List.all_append, h, ho]
set_option maxHeartbeats 2000000 in
set_option maxRecDepth 100000 in
theorem segment_any (s : ByteArray) (w : World) : Calls Tryd.prog 13 #[.string s] w fun e w' => e = .returned (.bool (seg (bs s))) ∧ w' = w := by
  by_cases hlen : s.size < 1 ∨ 10 < s.size
  · refine (segment_long s w hlen).mono ?_
    rintro e w' ⟨he, hw⟩
    refine ⟨?_, hw⟩
    rw [he]
    have : seg (bs s) = false := by
      unfold seg
      rw [bs_length]
      rcases hlen with h | h
      · rw [decide_eq_false (by omega)]; rfl
      · rw [decide_eq_false (show ¬ s.size ≤ 10 by omega)]; simp
    rw [this]
  · have h1 : ¬ (s.size : Int) < 1 := by omega
    have h2 : ¬ (10 : Int) < (s.size : Int) := by omega
    have HL : Hid (∀ _ : Unit, 1 ≤ s.size ∧ s.size ≤ 10) := fun _ => by omega
    obtain ⟨n, hn⟩ : ∃ n : Nat, n = s.size := ⟨_, rfl⟩
    have HN : Hid (∀ _ : Unit, n = s.size) := fun _ => hn
    have hn10 : n ≤ 10 := by omega
    clear hlen hn
    go_enter Tryd.func13, Tryd.ntmps13
    go_wp2_with fail
    go_loopw [14] (fun vi wr => ∃ k : Nat, k ≤ n ∧ vi = .int .i64 (k : Int) ∧ Hid (((bs s).take k).all okU = true) ∧ wr = w) (fun vi _ => n - (intOf vi).toNat)
    case atStart => exact ⟨0, by omega, rfl, rfl, rfl⟩
    case round =>
      obtain ⟨k, hk, rfl, HA, rfl⟩ := hrel
      by_cases hlt : k < n
      · have hki : (k : Int) < (s.size : Int) := by have := HN.out (); omega
        obtain ⟨b, hb, hb2⟩ := byte_at s k (by have := HN.out (); omega)
        obtain ⟨r, hr⟩ : ∃ r, r = okU b := ⟨_, rfl⟩
        have HB : Hid (∀ _ : Unit, ∃ c, s.data[k]? = some c ∧ (c.toNat : Int) = (b.toNat : Int)) := fun _ => ⟨b, hb, rfl⟩
        have HB2 : Hid (∀ _ : Unit, (bs s)[k]? = some b ∧ r = okU b) := fun _ => ⟨hb2, hr⟩
        obtain ⟨x, hx⟩ : ∃ x : Int, x = (b.toNat : Int) := ⟨_, rfl⟩
        rw [← hx] at HB
        have HX : Hid (∀ _ : Unit, okc x = r) := fun _ => by rw [hr, hx]; rfl
        clear hb hb2 hr hx
        cases r with
        | true =>
          go_wp2_with (first
            | ((with_reducible refine at_op (some 19) (.index 9 (.tmp 17) (.tmp 18)) ?_); refine wpl_ixs un_strT s k x rfl rfl rfl (HB.out ()) ?_)
            | (go_at_call 36; refine (sod_any x _).mono ?_; rintro e w' ⟨he, hw⟩; rw [HX.out ()] at he; subst he; subst hw))
          go_roundw
          case rel => exact ⟨k + 1, by omega, by go_num, all_take HA.out (HB2.out ()).1 (HB2.out ()).2.symm, by first | rfl | trivial⟩
          case measure => simp [intOf]; omega
        | false =>
          go_wp2_with (first
            | ((with_reducible refine at_op (some 19) (.index 9 (.tmp 17) (.tmp 18)) ?_); refine wpl_ixs un_strT s k x rfl rfl rfl (HB.out ()) ?_)
            | (go_at_call 36; refine (sod_any x _).mono ?_; rintro e w' ⟨he, hw⟩; rw [HX.out ()] at he; subst he; subst hw))
          go_ret
          refine ⟨?_, rfl⟩
          have : seg (bs s) = false := by
            have hall : (bs s).all okU = false := by
              rw [List.all_eq_false]
              exact ⟨b, List.mem_of_getElem? (HB2.out ()).1, by rw [← (HB2.out ()).2]; simp⟩
            unfold seg
            rw [hall]; simp
          rw [this]
          rfl
      · have hki : ¬ (k : Int) < (s.size : Int) := by have := HN.out (); omega
        go_wp2_with fail
        go_ret
        refine ⟨?_, rfl⟩
        have hlen := HL.out ()
        have hall : (bs s).all okU = true := by
          have := HA.out
          rw [List.take_of_length_le (by rw [bs_length]; have := HN.out (); omega)] at this
          exact this
        have : seg (bs s) = true := by
          unfold seg
          rw [hall, bs_length, decide_eq_true hlen.1, decide_eq_true hlen.2]; rfl
        rw [this]
        rfl
set_option maxHeartbeats 1000000 in
set_option maxRecDepth 100000 in
theorem root_any (w : World) : Calls Tryd.prog 28 #[] w fun e w' => e = .returned (.agg (plv []).toArray) ∧ Below w.heap.size w w' := by
  have hm := Mem.start w
  go_enter Tryd.func28, Tryd.ntmps28
  go_wp2_with (first
    | ((with_reducible refine at_op (some 0) (.alloc 42) ?_); refine wpl_alloc _ zero_pl hm ?_; clear hm; intro w1 g1 hm)
    | ((with_reducible refine at_op (some 1) (.build 42 #[]) ?_); refine wpl_build [.string ByteArray.empty, .string ByteArray.empty, .string ByteArray.empty] [] rfl (by kernel_rfl) ?_)
    | ((with_reducible refine at_op none (.store 42 (.tmp 0) (.tmp 1)) ?_); refine wpl_stw 0 [.string ByteArray.empty, .string ByteArray.empty, .string ByteArray.empty] hm rfl rfl rfl 3 sz_pl (by rfl) (by rfl) (by decide) ?_; clear hm; intro w2 hm))
  refine ret_cell 0 hm rfl Tryd.results28 rfl _ un_pl rfl 3 sz_pl rfl rfl ?_
  exact ⟨rfl, hm.below⟩
end Go.Proofs.YtikmmheknfljkaaDoor
