/- The contract of Copy. -/
import Derived.Test.YtonbfbcbmdnelaaDoorEqs
import Derived.Test.YtonbfbcbmdnelaaDoorApp2
namespace Go.Proofs.YtonbfbcbmdnelaaDoor
open Go Go.RowKit

theorem ag_bs : ∀ w, (isAgg 22).run Tryd.prog w = .ok false w := by intro w; simp [go_sem]
theorem ag_bool : ∀ w, (isAgg 4).run Tryd.prog w = .ok false w := by intro w; simp [go_sem]
theorem hrow_one (ws rs : List Int) (n : Int) : ∀ v ∈ hrow ws rs n, v.oneCell' = true := by
  intro v hv
  simp only [hrow, List.mem_append, List.mem_cons, List.not_mem_nil, or_false] at hv
  rcases hv with h | h | rfl
  · exact u32s_one _ v h
  · exact u8s_one _ v h
  · rfl
set_option maxHeartbeats 400000 in
theorem copy_any (g : Nat) (ws rs : List Int) (n : Int) (hws : ws.length = 8) (hrs : rs.length = 64) (w : World) (hr : Row w g (hrow ws rs n) 66) :
    Calls Tryd.prog 25 #[.pointer (some ⟨g, 0, none⟩)] w fun e w' => ∃ g', e = .returned (.pointer (some ⟨g', 0, none⟩)) ∧ w.heap.size ≤ g' ∧ Row w' g' (hrow ws rs n) 66 ∧ Below w.heap.size w w' := by
  have hm := Mem.start w
  have hln : (hrow ws rs n).length = 73 := hrow_length _ _ _ hws hrs
  have HLN : Hid _ := hln
  have HR : Hid (Row w g (hrow ws rs n) 66) := hr
  clear hln hr
  go_enter Tryd.func25, Tryd.ntmps25
  go_wp2_with (first
    | ((with_reducible refine at_op (some 6) (.load 66 (.tmp 5)) ?_); refine wpl_execG (.agg (hrow ws rs n).toArray) rfl (exec_ldsG 0 _ (Row.below' HR.out hm.below) rfl _ un_hash rfl 73 sz_hash (by rw [HLN.out]; omega) (by rw [List.drop_zero, List.take_of_length_le (Nat.le_of_eq HLN.out)])) ?_)
    | ((with_reducible refine at_op (some 3) (.alloc 66) ?_); refine wpl_alloc _ zero_hash hm ?_; clear hm; intro w1 g1 hm)
    | ((with_reducible refine at_op none (.store 66 (.tmp 3) (.tmp 6)) ?_); refine wpl_stw 0 (hrow ws rs n) hm rfl rfl rfl 73 sz_hash (rfl) (HLN.out) (hrow_one _ _ _) ?_; clear hm; intro w2 hm))
  go_ret
  have hf := hm.fresh _ (List.mem_cons_self ..)
  exact ⟨g1, rfl, by simpa using hf, hm.get 0 rfl, hm.below⟩
end Go.Proofs.YtonbfbcbmdnelaaDoor
