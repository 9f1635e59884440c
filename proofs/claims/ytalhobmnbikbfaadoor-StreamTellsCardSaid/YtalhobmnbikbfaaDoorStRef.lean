/- The reference's turning, quarter round, and reading of a word. -/
import Derived.Test.YtalhobmnbikbfaaDoorStXor
import Derived.Test.YtalhobmnbikbfaaDoorAnyG
namespace Go.Proofs.YtalhobmnbikbfaaDoor
open Go Go.RowKit

theorem and31p : ∀ n : Fin 32, bits .and .i64 ((n.val : Nat) : Int) 31 = ((n.val : Nat) : Int) := by decide +kernel
set_option maxHeartbeats 400000 in
theorem rotlRefP_any (x n : Int) (w : World) (hn0 : 0 ≤ n) (hn1 : n < 32) :
    Calls Tryd.prog 17 #[.int .u32 x, .int .i64 n] w fun e w' => e = .returned (.int .u32 (rotl x n)) ∧ w' = w := by
  have ha : bits .and .i64 n 31 = n := by
    have h := and31p ⟨n.toNat, by omega⟩
    rw [show ((n.toNat : Nat) : Int) = n by omega] at h
    exact h
  go_enter Tryd.func17, Tryd.ntmps17
  go_wp2
  go_ret
  exact ⟨rfl, rfl⟩
set_option maxHeartbeats 400000 in
theorem quarterRef_any (a b c d : Int) (w : World) :
    Calls Tryd.prog 10 #[.int .u32 a, .int .u32 b, .int .u32 c, .int .u32 d] w fun e w' => e = .returned (quartV a b c d) ∧ w' = w := by
  go_enter Tryd.func10, Tryd.ntmps10
  go_wp2_with (go_at_call 17; refine (rotlRefP_any _ _ _ (by omega) (by omega)).mono ?_; rintro e w' ⟨rfl, rfl⟩)
  exact bodyPost_ret (results_tmp4 Tryd.results10 _ _ _) rfl ⟨rfl, rfl⟩
theorem quarterRef_at (a b c d ya yb yc yd : Int) (hq : quart a b c d = (ya, yb, yc, yd)) (w : World) :
    Calls Tryd.prog 10 #[.int .u32 a, .int .u32 b, .int .u32 c, .int .u32 d] w fun e w' => e = .returned (.tuple #[.int .u32 ya, .int .u32 yb, .int .u32 yc, .int .u32 yd]) ∧ w' = w := by
  have h := quarterRef_any a b c d w
  unfold quartV at h
  rw [hq] at h
  exact h
theorem lit4_sum {a b c d : Int} (ha : 0 ≤ a ∧ a < 256) (hb : 0 ≤ b ∧ b < 256) (hc : 0 ≤ c ∧ c < 256) (hd : 0 ≤ d ∧ d < 256) : lit4 a b c d = d * 16777216 + c * 65536 + b * 256 + a := by
  unfold lit4
  rw [or_sum 24 (d * 16777216) (c * 65536) ⟨by omega, by omega⟩ (by omega) (by omega) (by omega) (by omega),
    or_sum 16 _ (b * 256) ⟨by omega, by omega⟩ (by omega) (by omega) (by omega) (by omega), or_sum 8 _ a ⟨by omega, by omega⟩ (by omega) (by omega) (by omega) (by omega)]
theorem lit_up {a b c d : Int} (ha : 0 ≤ a ∧ a < 256) (hb : 0 ≤ b ∧ b < 256) (hc : 0 ≤ c ∧ c < 256) (hd : 0 ≤ d ∧ d < 256) :
    bits .or .u32 (bits .or .u32 (bits .or .u32 (bits .or .u32 0 a) (b * 256)) (c * 65536)) (d * 16777216) = lit4 a b c d := by
  rw [lit4_sum ha hb hc hd, or_comm32 0 a, or_sum 0 a 0 ⟨by omega, by omega⟩ (by omega) (by omega) (by omega) (by omega),
    or_comm32 (a + 0), or_sum 8 (b * 256) (a + 0) ⟨by omega, by omega⟩ (by omega) (by omega) (by omega) (by omega),
    or_comm32 (b * 256 + (a + 0)), or_sum 16 (c * 65536) _ ⟨by omega, by omega⟩ (by omega) (by omega) (by omega) (by omega),
    or_comm32 (c * 65536 + (b * 256 + (a + 0))), or_sum 24 (d * 16777216) _ ⟨by omega, by omega⟩ (by omega) (by omega) (by omega) (by omega)]
  omega
set_option maxHeartbeats 800000 in
theorem littleRef_any (b off cap : Nat) (c0 c1 c2 c3 : Int) (w : World) (hc : Seg w b off [c0, c1, c2, c3]) (h0 : 0 ≤ c0 ∧ c0 < 256) (h1 : 0 ≤ c1 ∧ c1 < 256) (h2 : 0 ≤ c2 ∧ c2 < 256) (h3 : 0 ≤ c3 ∧ c3 < 256) :
    Calls Tryd.prog 21 #[.slice (some ⟨b, off, none⟩) 4 cap] w fun e w' => e = .returned (.int .u32 (lit4 c0 c1 c2 c3)) ∧ w' = w := by
  have HV : Hid _ := lit_up h0 h1 h2 h3
  obtain ⟨h00, h01⟩ := h0
  obtain ⟨h10, h11⟩ := h1
  obtain ⟨h20, h21⟩ := h2
  obtain ⟨h30, h31⟩ := h3
  have k0 : w.cell? ⟨b, off, none⟩ = some (.int .u8 c0) := hc 0 (by simp)
  have k1 : w.cell? ⟨b, off + 1, none⟩ = some (.int .u8 c1) := hc 1 (by simp)
  have k2 : w.cell? ⟨b, off + 2, none⟩ = some (.int .u8 c2) := hc 2 (by simp)
  have k3 : w.cell? ⟨b, off + 3, none⟩ = some (.int .u8 c3) := hc 3 (by simp)
  clear hc
  go_enter Tryd.func21, Tryd.ntmps21
  go_wp2_with fail
  refine wp_loop_rounds 5 ?_
  iterate 5 (rw [rounds_succ]; go_wp2_with fail)
  go_ret
  exact ⟨congrArg (fun z => Ending.returned (.int .u32 z)) HV.out, rfl⟩
end Go.Proofs.YtalhobmnbikbfaaDoor
