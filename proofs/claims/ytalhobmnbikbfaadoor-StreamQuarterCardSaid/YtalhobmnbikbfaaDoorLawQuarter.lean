/- The walk of the law StreamQuarter. -/
import Derived.Test.YtalhobmnbikbfaaDoorStKnown
namespace Go.Proofs.YtalhobmnbikbfaaDoor
open Go Go.RowKit

set_option maxHeartbeats 400000 in
theorem back_any (x n : Int) (w : World) (hn0 : 0 ≤ n) (hn1 : n < 32) :
    Calls Tryd.prog 15 #[.int .u32 x, .int .u64 n] w fun e w' => e = .returned (.int .u32 (rotr x n)) ∧ w' = w := by
  go_enter Tryd.func15, Tryd.ntmps15
  go_wp2
  go_ret
  exact ⟨rfl, rfl⟩
set_option maxHeartbeats 1000000 in
theorem streamQuarter_walk (a b c d : Int) (ha : Word a) (hb : Word b) (hc : Word c) (hd : Word d) (w : World) (ht : QTab w) :
    Calls Tryd.prog 5 #[.int .u32 a, .int .u32 b, .int .u32 c, .int .u32 d] w fun e w' => e = .returned (.bool true) ∧ Below w.heap.size w w' := by
  obtain ⟨a1, b1, c1, d1, a2, b2, c2, d2, hq, e1, e2, e3, e4, e5, e6, e7, e8⟩ := quart_steps ha hb hc hd
  have hm := Mem.start w
  have HT : Hid _ := ht
  have HQ : Hid _ := hq
  clear ht ha hb hc hd hq
  go_enter Tryd.func5, Tryd.ntmps5
  go_wp2_with (first
    | (go_at_call 8; refine (known4_any _ (QTab.mem HT.out hm (by simp))).mono ?_; rintro e w3 ⟨rfl, hb⟩; replace hm := hm.call hb; clear hb)
    | (go_at_call 9; refine (quarter_at _ _ _ _ a2 b2 c2 d2 HQ.out _).mono ?_; rintro e w4 ⟨rfl, hw⟩; replace hw := hw.symm; subst hw)
    | (go_at_call 15; refine (back_any _ _ _ (by omega) (by omega)).mono ?_; rintro e w5 ⟨rfl, hw⟩; replace hw := hw.symm; subst hw))

  go_ret
  exact ⟨rfl, hm.below⟩
end Go.Proofs.YtalhobmnbikbfaaDoor
