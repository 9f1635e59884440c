/- Two equal arrays of 32 bytes are equal. -/
import Derived.Test.YtonbfbcbmdnelaaDoorTop
import Derived.Test.YtonbfbcbmdnelaaDoorAny2
namespace Go.Proofs.YtonbfbcbmdnelaaDoor
open Go Go.RowKit
theorem eq_two32 (l l' : List Int) (h : l.length = 32) (h' : l'.length = 32) : ∀ W, (Op.equalIn 10000 23 (.agg (u8s l).toArray) (.agg (u8s l').toArray)).run Tryd.prog W = .ok (decide (l = l')) W := by
  intro W
  exact run_eqa (P := Tryd.prog) W 9998 23 5 32 .u8 un_b32 un_u8 sz_u8 l l' h h'
theorem eq_self32 (l : List Int) (h : l.length = 32) : ∀ W, (Op.equalIn 10000 23 (.agg (u8s l).toArray) (.agg (u8s l).toArray)).run Tryd.prog W = .ok true W := by
  intro W
  have e : decide (l = l) = true := decide_eq_true rfl
  rw [eq_two32 l l h h W, e]
end Go.Proofs.YtonbfbcbmdnelaaDoor
