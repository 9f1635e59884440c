/- Package node: sizes and keys that fit. -/
import Derived.Test.YtnahflppggoplaaNdSl
import Derived.Test.YtnahflppggoplaaNdGetText
namespace Go.Proofs.Ytnahflppggoplaa
open Go Go.RowKit
set_option maxHeartbeats 1000000 in
set_option maxRecDepth 100000 in
theorem textSize_any (s : ByteArray) (hs : s.size ≤ 1152921504606846976) (w : World) :
    Calls Try.prog 31 #[.string s] w fun e w' => e = .returned (.int .i64 (2 + (s.size : Int))) ∧ w' = w := by
  go_enter Try.func31, Try.ntmps31
  go_wp2
  go_ret
  exact ⟨rfl, rfl⟩
set_option maxHeartbeats 1000000 in
set_option maxRecDepth 100000 in
theorem fitKey_any (k : ByteArray) (w : World) :
    Calls Try.prog 39 #[.string k] w fun e w' => e = .returned (.bool (fitK k)) ∧ w' = w := by
  unfold fitK
  by_cases h1 : 1 ≤ k.size
  · have h1i : (1 : Int) ≤ (k.size : Int) := by omega
    by_cases h2 : k.size ≤ 60
    · have h2i : (k.size : Int) ≤ 60 := by omega
      rw [decide_eq_true h1, decide_eq_true h2]
      go_enter Try.func39, Try.ntmps39
      go_wp2
      go_ret
      exact ⟨rfl, rfl⟩
    · have h2i : ¬ (k.size : Int) ≤ 60 := by omega
      rw [decide_eq_true h1, decide_eq_false h2]
      go_enter Try.func39, Try.ntmps39
      go_wp2
      go_ret
      exact ⟨rfl, rfl⟩
  · have h1i : ¬ (1 : Int) ≤ (k.size : Int) := by omega
    rw [decide_eq_false h1]
    go_enter Try.func39, Try.ntmps39
    go_wp2
    go_ret
    exact ⟨rfl, rfl⟩
end Go.Proofs.Ytnahflppggoplaa
