/- The look at two known sums comes out true. -/
import Derived.Test.YtiioicjihcipmaaDoorTop
import Derived.Lib.SlBytesConst
namespace Go.Proofs.YtiioicjihcipmaaDoor
open Go Go.RowKit

theorem str_nothing : strOf (hexOf (shaOf [])) = { data := #[101, 51, 98, 48, 99, 52, 52, 50, 57, 56, 102, 99, 49, 99, 49, 52, 57, 97, 102, 98, 102, 52, 99, 56, 57, 57, 54, 102, 98, 57, 50, 52, 50, 55, 97, 101, 52, 49, 101, 52, 54, 52, 57, 98, 57, 51, 52, 99, 97, 52, 57, 53, 57, 57, 49, 98, 55, 56, 53, 50, 98, 56, 53, 53] } := by rw [sum_nothing]; rfl
theorem str_abc : strOf (hexOf (shaOf [97, 98, 99])) = { data := #[98, 97, 55, 56, 49, 54, 98, 102, 56, 102, 48, 49, 99, 102, 101, 97, 52, 49, 52, 49, 52, 48, 100, 101, 53, 100, 97, 101, 50, 50, 50, 51, 98, 48, 48, 51, 54, 49, 97, 51, 57, 54, 49, 55, 55, 97, 57, 99, 98, 52, 49, 48, 102, 102, 54, 49, 102, 50, 48, 48, 49, 53, 97, 100] } := by rw [sum_abc]; rfl
theorem bytes_abc : Bytes [97, 98, 99] := by
  intro x hx
  simp only [List.mem_cons, List.not_mem_nil, or_false] at hx
  omega
theorem bytes_ab : Bytes [97, 98] := by
  intro x hx
  simp only [List.mem_cons, List.not_mem_nil, or_false] at hx
  omega
theorem bytes_c : Bytes [99] := by
  intro x hx
  simp only [List.mem_cons, List.not_mem_nil, or_false] at hx
  omega
theorem bytes_none : Bytes [] := by intro x hx; cases hx
set_option maxHeartbeats 2000000 in
set_option maxRecDepth 100000 in
theorem known_any (w : World) (ht : Tab w) :
    Calls Tryd.prog 8 #[] w fun e w' => e = .returned (.bool true) ∧ Below w.heap.size w w' := by
  have hm := Mem.start w
  have HT : Hid _ := ht
  clear ht
  have kc := fun (w : World) (C : Array Value) (n c : Nat) => Lib.run_convert_bytes_const (P := Tryd.prog) w 22 5 C n c Tryd.underlying22 Tryd.underlying5
  go_enter Tryd.func8, Tryd.ntmps8
  go_wp2_with (first
    | (go_at_call 11; refine (new_any _).mono ?_; rintro e w2 ⟨g, rfl, hge, hr, hb⟩; rw [new_row] at hr; have HGT : Hid _ := Nat.ne_of_lt (Nat.lt_of_lt_of_le (Tab.lt (Tab.mem HT.out hm (by simp))) hge); replace hm := hm.callNew hb hr hge; clear hb hr hge))

  refine (write_any g [] [97, 98] _ bytes_none bytes_ab (by simp) _ (Tab.mem HT.out (hm.allocO _) (by simp)) HGT.out ((hm.allocO _).get 0 rfl) (slNew w2 [97, 98] 5 (2, 3) g (hm.get 0 rfl).lt)).mono ?_
  rintro e w3 ⟨rfl, hr, hu⟩
  replace hm : Mem w [] w3 [(g, hrow (wsOf [97, 98]) (restOf [97, 98]) (([97, 98] : List Int).length : Int), 49)] := (hm.allocO _).upd 0 rfl hu hr
  clear hr hu
  go_wp2_with fail
  refine (write_any g [97, 98] [99] _ bytes_ab bytes_c (by simp) _ (Tab.mem HT.out (hm.allocO _) (by simp)) HGT.out ((hm.allocO _).get 0 rfl) (slNew w3 [99] 5 (1, 2) g (hm.get 0 rfl).lt)).mono ?_
  rintro e w4 ⟨rfl, hr, hu⟩
  replace hm : Mem w [] w4 [(g, hrow (wsOf [97, 98, 99]) (restOf [97, 98, 99]) (([97, 98, 99] : List Int).length : Int), 49)] := (hm.allocO _).upd 0 rfl hu hr
  clear hr hu
  go_wp2_with fail
  refine (sum_any [] _ bytes_none (by simp) _ (Tab.mem HT.out hm (by simp)) ⟨none, 0, rfl, Nat.le_refl _, fun h => absurd h (by simp)⟩).mono ?_
  rintro e w5 ⟨rfl, hb⟩
  replace hm := hm.call hb
  clear hb
  go_wp2_with fail
  refine (hex_any (shaOf []) (shaOf_length _) (shaOf_bytes _) _).mono ?_
  rintro e w6 ⟨rfl, hb⟩
  replace hm := hm.call hb
  clear hb
  rw [str_nothing]
  go_wp2_with fail
  refine (hashSum_any g [97, 98, 99] bytes_abc (by simp) _ (Tab.mem HT.out hm (by simp)) (hm.get 0 rfl)).mono ?_
  rintro e w7 ⟨rfl, hb⟩
  replace hm := hm.call hb
  clear hb
  go_wp2_with fail
  refine (hex_any (shaOf [97, 98, 99]) (shaOf_length _) (shaOf_bytes _) _).mono ?_
  rintro e w8 ⟨rfl, hb⟩
  replace hm := hm.call hb
  clear hb
  rw [str_abc]
  go_wp2_with fail
  refine (len_any g (wsOf [97, 98, 99]) (restOf [97, 98, 99]) _ (wsOf_length _) (restOf_length _) _ (hm.get 0 rfl)).mono ?_
  rintro e w9 ⟨rfl, rfl⟩
  go_wp2_with fail
  go_ret
  exact ⟨rfl, hm.below⟩
end Go.Proofs.YtiioicjihcipmaaDoor
