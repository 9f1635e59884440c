/- The walk of the law MacBegins. -/
import Derived.Test.YtonbfbcbmdnelaaDoorLawBeginsL
import Derived.Test.YtonbfbcbmdnelaaDoorLawBeginsE
import Derived.Test.YtonbfbcbmdnelaaDoorLawBeginsG
import Derived.Test.YtonbfbcbmdnelaaDoorAnyG
namespace Go.Proofs.YtonbfbcbmdnelaaDoor
open Go Go.RowKit
set_option maxHeartbeats 1000000 in
theorem macBegins_walk (ks info : List Int) (v : Value) (n m : Int) (hn : 0 ≤ n ∧ n ≤ 255) (hm0 : 0 ≤ m ∧ m ≤ 255) (hkl : ks.length = 32) (hkb : Bytes ks) (hib : Bytes info) (w : World) (ht : Tab w) (hv : SlOld w v info) :
    Calls Tryd.prog 4 #[.agg (u8s ks).toArray, v, .int .u8 n, .int .u8 m] w fun e w' => e = .returned (.bool true) ∧ Below w.heap.size w w' := by
  by_cases h50 : info.length ≤ 50
  · obtain ⟨NA, rfl⟩ : ∃ k : Nat, n = (k : Int) := ⟨n.toNat, by omega⟩
    obtain ⟨NB, rfl⟩ : ∃ k : Nat, m = (k : Int) := ⟨m.toNat, by omega⟩
    rcases Nat.lt_trichotomy NA NB with h | h | h
    · exact macBegins_L ks info v NA NB (by omega) (by omega) h h50 hkl hkb hib w ht hv
    · subst h
      exact macBegins_E ks info v NA (by omega) h50 hkl hkb hib w ht hv
    · exact macBegins_G ks info v NA NB (by omega) (by omega) h h50 hkl hkb hib w ht hv
  · obtain ⟨pi, ci, rfl, _⟩ := hv.len
    have hm := Mem.start w
    have HT : Hid _ := ht
    have h5i : (50 : Int) < (info.length : Int) := by omega
    clear ht hkb hib hv
    go_enter Tryd.func4, Tryd.ntmps4
    go_wp2_with (first
      | ((with_reducible refine at_op (some 4) (.box 24 (.tmp 0)) ?_); refine wpl_box (u8s ks) rfl hm ?_; clear hm; intro w1 g4 hm)
      | (go_at_call 6; refine (known_any _ (Tab.mem HT.out hm (by simp))).mono ?_; rintro e w3 ⟨rfl, hb⟩; replace hm := hm.call hb; clear hb))
    go_ret
    exact ⟨rfl, hm.below⟩
end Go.Proofs.YtonbfbcbmdnelaaDoor
