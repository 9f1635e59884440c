/- What the walk of the law NodeBack holds. -/
import Derived.Test.YtcfmpidibbbehaaNdOpen
namespace Go.Proofs.Ytcfmpidibbbehaa
open Go Go.RowKit
structure Bk (W : World) (v1 v2 v3 u1 u2 u3 u4 : Value) (x1 x2 x3 : List Int) (l m : List (ByteArray × ByteArray)) (ks : List ByteArray) (kids : List Int) : Prop where
  a : SlOld W v1 x1
  b : SlOld W v2 x2
  c : SlOld W v3 x3
  l : SlP W u1 l
  m : SlP W u2 m
  k : SlS W u3 ks
  i : SlU W u4 kids
set_option maxRecDepth 100000 in
theorem Bk.below {W W' : World} {v1 v2 v3 u1 u2 u3 u4 : Value} {x1 x2 x3 : List Int} {l m : List (ByteArray × ByteArray)} {ks : List ByteArray} {kids : List Int} (h : Bk W v1 v2 v3 u1 u2 u3 u4 x1 x2 x3 l m ks kids) (hb : Below W.heap.size W W') : Bk W' v1 v2 v3 u1 u2 u3 u4 x1 x2 x3 l m ks kids :=
  ⟨h.a.below hb, h.b.below hb, h.c.below hb, SlV.below h.l hb, SlV.below h.m hb, SlV.below h.k hb, SlV.below h.i hb⟩
set_option maxRecDepth 100000 in
theorem AnsIs.is_true {e : Ending} {p : Prop} (h : AnsIs e p) (hp : p) : e = .returned (.bool true) := by
  obtain ⟨r, he, hr⟩ := h
  rw [he, hr.2 hp]
set_option maxRecDepth 100000 in
theorem AnsIs.is_false {e : Ending} {p : Prop} (h : AnsIs e p) (hp : ¬ p) : e = .returned (.bool false) := by
  obtain ⟨r, he, hr⟩ := h
  cases r with
  | false => exact he
  | true => exact absurd (hr.1 rfl) hp
set_option maxHeartbeats 1000000 in
set_option maxRecDepth 100000 in
theorem back_out_a (mo : Int) (q1 q2 q3 q4 : Option Addr) (n1 n2 n3 n4 d1 d2 d3 d4 : Nat) (h1 : 40 < n1) (w : World) :
    Calls Try.prog 5 #[.slice q1 n1 d1, .slice q2 n2 d2, .slice q3 n3 d3, .slice q4 n4 d4, .int .u8 mo] w fun e w' => e = .returned (.bool true) ∧ Below w.heap.size w w' := by
  have hm := Mem.start w
  have i1 : (n1 : Int) > 40 := by omega
  go_enter Try.func5, Try.ntmps5
  go_wp2_with (first
    | (go_at_call 9; refine (known_any _).mono ?_; rintro e wk ⟨rfl, hb⟩; replace hm := hm.call hb; clear hb))
  go_ret
  exact ⟨rfl, hm.below⟩
set_option maxHeartbeats 1000000 in
set_option maxRecDepth 100000 in
theorem back_out_b (mo : Int) (q1 q2 q3 q4 : Option Addr) (n1 n2 n3 n4 d1 d2 d3 d4 : Nat) (h1 : n1 ≤ 40) (h2 : 40 < n2) (w : World) :
    Calls Try.prog 5 #[.slice q1 n1 d1, .slice q2 n2 d2, .slice q3 n3 d3, .slice q4 n4 d4, .int .u8 mo] w fun e w' => e = .returned (.bool true) ∧ Below w.heap.size w w' := by
  have hm := Mem.start w
  have i1 : ¬ (n1 : Int) > 40 := by omega
  have i2 : (n2 : Int) > 40 := by omega
  go_enter Try.func5, Try.ntmps5
  go_wp2_with (first
    | (go_at_call 9; refine (known_any _).mono ?_; rintro e wk ⟨rfl, hb⟩; replace hm := hm.call hb; clear hb))
  go_ret
  exact ⟨rfl, hm.below⟩
set_option maxHeartbeats 1000000 in
set_option maxRecDepth 100000 in
theorem back_out_c (mo : Int) (q1 q2 q3 q4 : Option Addr) (n1 n2 n3 n4 d1 d2 d3 d4 : Nat) (h1 : n1 ≤ 40) (h2 : n2 ≤ 40) (h3 : 40 < n3) (w : World) :
    Calls Try.prog 5 #[.slice q1 n1 d1, .slice q2 n2 d2, .slice q3 n3 d3, .slice q4 n4 d4, .int .u8 mo] w fun e w' => e = .returned (.bool true) ∧ Below w.heap.size w w' := by
  have hm := Mem.start w
  have i1 : ¬ (n1 : Int) > 40 := by omega
  have i2 : ¬ (n2 : Int) > 40 := by omega
  have i3 : (n3 : Int) > 40 := by omega
  go_enter Try.func5, Try.ntmps5
  go_wp2_with (first
    | (go_at_call 9; refine (known_any _).mono ?_; rintro e wk ⟨rfl, hb⟩; replace hm := hm.call hb; clear hb))
  go_ret
  exact ⟨rfl, hm.below⟩
set_option maxHeartbeats 1000000 in
set_option maxRecDepth 100000 in
theorem back_out_d (mo : Int) (q1 q2 q3 q4 : Option Addr) (n1 n2 n3 n4 d1 d2 d3 d4 : Nat) (h1 : n1 ≤ 40) (h2 : n2 ≤ 40) (h3 : n3 ≤ 40) (h4 : 41 < n4) (w : World) :
    Calls Try.prog 5 #[.slice q1 n1 d1, .slice q2 n2 d2, .slice q3 n3 d3, .slice q4 n4 d4, .int .u8 mo] w fun e w' => e = .returned (.bool true) ∧ Below w.heap.size w w' := by
  have hm := Mem.start w
  have i1 : ¬ (n1 : Int) > 40 := by omega
  have i2 : ¬ (n2 : Int) > 40 := by omega
  have i3 : ¬ (n3 : Int) > 40 := by omega
  have i4 : (n4 : Int) > 41 := by omega
  go_enter Try.func5, Try.ntmps5
  go_wp2_with (first
    | (go_at_call 9; refine (known_any _).mono ?_; rintro e wk ⟨rfl, hb⟩; replace hm := hm.call hb; clear hb))
  go_ret
  exact ⟨rfl, hm.below⟩
end Go.Proofs.Ytcfmpidibbbehaa
