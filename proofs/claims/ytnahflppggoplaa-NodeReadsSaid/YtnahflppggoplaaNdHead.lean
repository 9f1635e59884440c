/- Package node: Kind, headed, count; bytes.Equal. -/
import Derived.Test.YtnahflppggoplaaNdBits
import Derived.Test.YtnahflppggoplaaNdSl
namespace Go.Proofs.Ytnahflppggoplaa
open Go Go.RowKit
def kindOf (b : List Int) : Int := if 0 < b.length ∧ (b.getD 0 0 = 1 ∨ b.getD 0 0 = 2) then b.getD 0 0 else 0
set_option maxRecDepth 100000 in
theorem ofInt_i64 (a : Nat) (h : a < 18446744073709551616) : (BitVec.ofInt 64 (a : Int)).toNat = a := by
  rw [BitVec.toNat_ofInt]; omega
set_option maxRecDepth 100000 in
theorem or_two {x y : Int} (hx : 0 ≤ x ∧ x < 256) (hy : 0 ≤ y ∧ y < 256) : Go.bits .or .i64 (x * 256) y = x * 256 + y := by
  obtain ⟨A, rfl⟩ := Int.eq_ofNat_of_zero_le hx.1
  obtain ⟨B, rfl⟩ := Int.eq_ofNat_of_zero_le hy.1
  have e : ((A : Int) * 256) = ((A * 256 : Nat) : Int) := by omega
  rw [e]
  show IntKind.i64.wrap ((BitVec.ofInt 64 ((A * 256 : Nat) : Int) ||| BitVec.ofInt 64 (B : Int)).toNat : Int) = _
  rw [BitVec.toNat_or, ofInt_i64 _ (by omega), ofInt_i64 _ (by omega), nat_join 8 _ _ (by omega) (by omega), wrapi _ (by omega) (by omega)]
  omega
set_option maxHeartbeats 1000000 in
set_option maxRecDepth 100000 in
theorem kind_one (b off n cap : Nat) (c : Int) (h0 : 0 < n) (h1 : c = 1) (w : World) (hc : w.cell? ⟨b, off, none⟩ = some (.int .u8 c)) :
    Calls Try.prog 11 #[.slice (some ⟨b, off, none⟩) n cap] w fun e w' => e = .returned (.int .i64 1) ∧ w' = w := by
  have h0i : (n : Int) > 0 := by omega
  subst h1
  go_enter Try.func11, Try.ntmps11
  go_wp2
  go_ret
  exact ⟨rfl, rfl⟩
set_option maxHeartbeats 1000000 in
set_option maxRecDepth 100000 in
theorem kind_two (b off n cap : Nat) (c : Int) (h0 : 0 < n) (h1 : c = 2) (w : World) (hc : w.cell? ⟨b, off, none⟩ = some (.int .u8 c)) :
    Calls Try.prog 11 #[.slice (some ⟨b, off, none⟩) n cap] w fun e w' => e = .returned (.int .i64 2) ∧ w' = w := by
  have h0i : (n : Int) > 0 := by omega
  subst h1
  go_enter Try.func11, Try.ntmps11
  go_wp2
  go_ret
  exact ⟨rfl, rfl⟩
set_option maxHeartbeats 1000000 in
set_option maxRecDepth 100000 in
theorem kind_no (b off n cap : Nat) (c : Int) (h0 : 0 < n) (h1 : ¬ c = 1) (h2 : ¬ c = 2) (w : World) (hc : w.cell? ⟨b, off, none⟩ = some (.int .u8 c)) :
    Calls Try.prog 11 #[.slice (some ⟨b, off, none⟩) n cap] w fun e w' => e = .returned (.int .i64 0) ∧ w' = w := by
  have h0i : (n : Int) > 0 := by omega
  have hb1 : (c == 1) = false := by simpa using h1
  have hb2 : (c == 2) = false := by simpa using h2
  go_enter Try.func11, Try.ntmps11
  go_wp2
  go_ret
  exact ⟨rfl, rfl⟩
set_option maxHeartbeats 1000000 in
set_option maxRecDepth 100000 in
theorem kind_none (cap : Nat) (p : Option Addr) (w : World) :
    Calls Try.prog 11 #[.slice p 0 cap] w fun e w' => e = .returned (.int .i64 0) ∧ w' = w := by
  go_enter Try.func11, Try.ntmps11
  go_wp2
  go_ret
  exact ⟨rfl, rfl⟩
set_option maxRecDepth 100000 in
theorem kind_any (cs : List Int) (v : Value) (w : World) (hv : SlOld w v cs) :
    Calls Try.prog 11 #[v] w fun e w' => e = .returned (.int .i64 (kindOf cs)) ∧ w' = w := by
  obtain ⟨p, cap, rfl, hcap, hs⟩ := hv
  unfold kindOf
  by_cases h0 : 0 < cs.length
  · obtain ⟨b, off, rfl, hseg⟩ := hs h0
    have hc := hseg 0 h0
    rw [Nat.add_zero] at hc
    by_cases h1 : cs.getD 0 0 = 1
    · rw [if_pos ⟨h0, Or.inl h1⟩, h1]
      exact kind_one b off _ cap _ h0 h1 w hc
    · by_cases h2 : cs.getD 0 0 = 2
      · rw [if_pos ⟨h0, Or.inr h2⟩, h2]
        exact kind_two b off _ cap _ h0 h2 w hc
      · rw [if_neg (by rintro ⟨_, h3 | h3⟩; exact h1 h3; exact h2 h3)]
        exact kind_no b off _ cap _ h0 h1 h2 w hc
  · rw [if_neg (fun h => h0 h.1), show cs.length = 0 by omega]
    exact kind_none cap p w
set_option maxHeartbeats 1000000 in
set_option maxRecDepth 100000 in
theorem headed_kind (cs : List Int) (p : Option Addr) (n cap : Nat) (kd : Int) (hk : ¬ kindOf cs = kd) (w : World) (hv : SlOld w (.slice p n cap) cs) :
    Calls Try.prog 15 #[.slice p n cap, .int .i64 kd] w fun e w' => e = .returned (.bool false) ∧ w' = w := by
  have HV : Hid (SlOld w (.slice p n cap) cs) := hv
  obtain ⟨x, hx⟩ : ∃ x, x = kindOf cs := ⟨_, rfl⟩
  have HX : Hid (∀ _ : Unit, kindOf cs = x) := fun _ => hx.symm
  have hxk : ¬ x = kd := by rw [hx]; exact hk
  clear hx
  clear hv hk
  go_enter Try.func15, Try.ntmps15
  go_wp2_with (first
    | (go_at_call 11; refine (kind_any cs _ _ HV.out).mono ?_; rintro e w2 ⟨he, rfl⟩; rw [HX.out ()] at he; subst he))
  go_ret
  refine ⟨?_, rfl⟩
  first | rfl | (simp; omega)
set_option maxHeartbeats 1000000 in
set_option maxRecDepth 100000 in
theorem headed_short (cs : List Int) (p : Option Addr) (n cap : Nat) (kd : Int) (hk : kindOf cs = kd) (h3 : ¬ 3 ≤ n) (w : World) (hv : SlOld w (.slice p n cap) cs) :
    Calls Try.prog 15 #[.slice p n cap, .int .i64 kd] w fun e w' => e = .returned (.bool false) ∧ w' = w := by
  have HV : Hid (SlOld w (.slice p n cap) cs) := hv
  have HK : Hid (kindOf cs = kd) := hk
  have h3i : ¬ ((3 : Int) ≤ (n : Int)) := by omega
  clear hv hk
  go_enter Try.func15, Try.ntmps15
  go_wp2_with (first
    | (go_at_call 11; refine (kind_any cs _ _ HV.out).mono ?_; rintro e w2 ⟨he, rfl⟩; rw [HK.out] at he; subst he))
  go_ret
  refine ⟨?_, rfl⟩
  first | rfl | (simp; omega)
set_option maxHeartbeats 1000000 in
set_option maxRecDepth 100000 in
theorem headed_long (cs : List Int) (p : Option Addr) (n cap : Nat) (kd : Int) (hk : kindOf cs = kd) (_h3 : 3 ≤ n) (h4 : ¬ n ≤ 480) (w : World) (hv : SlOld w (.slice p n cap) cs) :
    Calls Try.prog 15 #[.slice p n cap, .int .i64 kd] w fun e w' => e = .returned (.bool false) ∧ w' = w := by
  have HV : Hid (SlOld w (.slice p n cap) cs) := hv
  have HK : Hid (kindOf cs = kd) := hk
  have h3i : (3 : Int) ≤ (n : Int) := by omega
  have h4i : ¬ ((n : Int) ≤ 480) := by omega
  clear hv hk
  go_enter Try.func15, Try.ntmps15
  go_wp2_with (first
    | (go_at_call 11; refine (kind_any cs _ _ HV.out).mono ?_; rintro e w2 ⟨he, rfl⟩; rw [HK.out] at he; subst he))
  go_ret
  refine ⟨?_, rfl⟩
  first | rfl | (simp; omega)
set_option maxHeartbeats 1000000 in
set_option maxRecDepth 100000 in
theorem headed_good (cs : List Int) (p : Option Addr) (n cap : Nat) (kd : Int) (hk : kindOf cs = kd) (h3 : 3 ≤ n) (h4 : n ≤ 480) (w : World) (hv : SlOld w (.slice p n cap) cs) :
    Calls Try.prog 15 #[.slice p n cap, .int .i64 kd] w fun e w' => e = .returned (.bool true) ∧ w' = w := by
  have HV : Hid (SlOld w (.slice p n cap) cs) := hv
  have HK : Hid (kindOf cs = kd) := hk
  have h3i : (3 : Int) ≤ (n : Int) := by omega
  have h4i : (n : Int) ≤ 480 := by omega
  clear hv hk
  go_enter Try.func15, Try.ntmps15
  go_wp2_with (first
    | (go_at_call 11; refine (kind_any cs _ _ HV.out).mono ?_; rintro e w2 ⟨he, rfl⟩; rw [HK.out] at he; subst he))
  go_ret
  refine ⟨?_, rfl⟩
  first | rfl | (simp; omega)
set_option maxRecDepth 100000 in
theorem headed_any (cs : List Int) (p : Option Addr) (n cap : Nat) (kd : Int) (hn : cs.length = n) (hkd : kd = 1 ∨ kd = 2) (w : World) (hv : SlOld w (.slice p n cap) cs) :
    Calls Try.prog 15 #[.slice p n cap, .int .i64 kd] w fun e w' => e = .returned (.bool (headB cs kd)) ∧ w' = w := by
  unfold headB
  by_cases hk : kindOf cs = kd
  · by_cases h3 : 3 ≤ n
    · have h0 : cs.getD 0 0 = kd := by
        unfold kindOf at hk
        split at hk
        · exact hk
        · omega
      by_cases h4 : n ≤ 480
      · rw [decide_eq_true (by rw [hn]; exact ⟨h3, h4, h0⟩)]
        exact headed_good cs p n cap kd hk h3 h4 w hv
      · rw [decide_eq_false (by rw [hn]; exact fun h => h4 h.2.1)]
        exact headed_long cs p n cap kd hk h3 h4 w hv
    · rw [decide_eq_false (by rw [hn]; exact fun h => h3 h.1)]
      exact headed_short cs p n cap kd hk h3 w hv
  · rw [decide_eq_false]
    · exact headed_kind cs p n cap kd hk w hv
    · rintro ⟨h1, _, h2⟩
      refine hk ?_
      unfold kindOf
      rw [if_pos ⟨by omega, by rw [h2]; exact hkd⟩, h2]
set_option maxHeartbeats 1000000 in
set_option maxRecDepth 100000 in
theorem count_any (cs : List Int) (b off n cap : Nat) (hn : cs.length = n) (h3 : 3 ≤ n) (hcb : Bytes cs) (w : World) (hs : Seg w b off cs) :
    Calls Try.prog 16 #[.slice (some ⟨b, off, none⟩) n cap] w fun e w' => e = .returned (.int .i64 (cnt cs : Nat)) ∧ Below w.heap.size w w' := by
  have c1 := hs 1 (by omega)
  have c2 := hs 2 (by omega)
  obtain ⟨h10, h11⟩ := Bytes.get hcb 1
  obtain ⟨h20, h21⟩ := Bytes.get hcb 2
  have HC : Hid (Go.bits .or .i64 (cs.getD 1 0 * 256) (cs.getD 2 0) = (cnt cs : Nat)) := by
    show _ = _
    rw [or_two ⟨h10, h11⟩ ⟨h20, h21⟩]
    unfold cnt
    omega
  generalize cs.getD 1 0 = x1 at *
  generalize cs.getD 2 0 = x2 at *
  obtain ⟨N, hN⟩ : ∃ N, N = cnt cs := ⟨_, rfl⟩
  rw [← hN] at HC ⊢
  have h1i : (1 : Int) < (n : Int) := by omega
  have h2i : (2 : Int) < (n : Int) := by omega
  have hm := Mem.start w
  clear hN hs hcb hn
  go_enter Try.func16, Try.ntmps16
  go_wp2_with fail
  go_quiet (fail)
  obtain ⟨wc, hwc⟩ : ∃ v, v = World.drewN w nq := ⟨_, rfl⟩
  replace hm := Mem.drewN hm nq
  rw [← hwc] at hm ⊢
  clear hwc c1 c2
  go_wp2_with fail
  go_ret
  exact ⟨by rw [← HC.out]; rfl, hm.below⟩
set_option maxHeartbeats 1000000 in
set_option maxRecDepth 100000 in
theorem equal_any (xs ys : List Int) (u v : Value) (hx : Bytes xs) (hy : Bytes ys) (w : World) (hu : SlOld w u xs) (hv : SlOld w v ys) :
    Calls Try.prog 18 #[u, v] w fun e w' => e = .returned (.bool (decide (xs = ys))) ∧ w' = w := by
  obtain ⟨p, cap, rfl, _⟩ := hu.len
  obtain ⟨q, cap2, rfl, _⟩ := hv.len
  have HU : Hid (SlOld w (.slice p xs.length cap) xs) := hu
  have HV : Hid (SlOld w (.slice q ys.length cap2) ys) := hv
  have HE : Hid ((strOf xs == strOf ys) = decide (xs = ys)) := strOf_eq hx hy
  clear hu hv hx hy
  go_enter Try.func18, Try.ntmps18
  go_wp2_with (first
    | ((with_reducible refine at_op (some 6) (.convert 22 9 (.tmp 5)) ?_); go_must (refine wpl_execG (.string (strOf xs)) rfl (exec_tostr un_bs un_u8 un_strT xs rfl HU.out) ?_))
    | ((with_reducible refine at_op (some 8) (.convert 22 9 (.tmp 7)) ?_); go_must (refine wpl_execG (.string (strOf ys)) rfl (exec_tostr un_bs un_u8 un_strT ys rfl HV.out) ?_))
    | ((with_reducible refine at_op (some 9) (.binOp .eql 9 (.tmp 6) (.tmp 8) 9) ?_); go_must (refine wpl_execG (.bool (decide (xs = ys))) rfl (exec_eqsB (strOf xs) (strOf ys) _ rfl rfl HE.out) ?_)))
  go_ret
  exact ⟨rfl, rfl⟩
end Go.Proofs.Ytnahflppggoplaa
