/- Contracts of the smaller functions of package sha, and of bits.Put. -/
import Derived.Test.YtonbfbcbmdnelaaDoorMixed
import Derived.Test.YtonbfbcbmdnelaaDoorMore
import Derived.Test.YtonbfbcbmdnelaaDoorPlain
namespace Go.Proofs.YtonbfbcbmdnelaaDoor
open Go Go.RowKit

theorem info_hash : (Tryd.prog.info? 66).map (fun i => (i.zero, i.size)) = some (some (.agg (hrow (List.replicate 8 0) (List.replicate 64 0) 0).toArray), 73) := by kernel_rfl
theorem sz_hash : (Tryd.prog.info? 66).map (·.size) = some 73 := (zero_of_info info_hash).2
theorem zero_hash : ∀ w, (zeroValue 66).run Tryd.prog w = .ok (.agg (hrow (List.replicate 8 0) (List.replicate 64 0) 0).toArray) w := (zero_of_info info_hash).1
theorem sz_int : (Tryd.prog.info? 3).map (·.size) = some 1 := by kernel_rfl
theorem ag_int : ∀ w, (isAgg 3).run Tryd.prog w = .ok false w := by intro w; simp [go_sem]
theorem made_u8 : (Tryd.prog.info? 5).map (fun i => (i.zero, i.size, i.bytes)) = some (some (.int .u8 0), 1, 1) := by kernel_rfl
theorem built_new : Tryd.prog.built 66 [(0, .agg (u32s firstW).toArray)] = some (hrow firstW (List.replicate 64 0) 0).toArray := by kernel_rfl
theorem built_b64 : Tryd.prog.built 44 [] = some (u8s (List.replicate 64 0)).toArray := by kernel_rfl

set_option maxHeartbeats 400000 in
theorem firstWords_any (w : World) :
    Calls Tryd.prog 40 #[] w fun e w' => e = .returned (.agg (u32s firstW).toArray) ∧ Below w.heap.size w w' := by
  go_enter Tryd.func40, Tryd.ntmps40
  go_wp2
  refine bodyPost_ret (v := .agg (u32s firstW).toArray) (by simp [results, Tryd.results40, go_sem, u32s, firstW]) rfl ⟨rfl, ?_⟩
  exact (Below.refl _ _).alloc (Nat.le_refl _) _
set_option maxHeartbeats 400000 in
theorem begun_first (g : Nat) (rs : List Int) (n : Int) (hrs : rs.length = 64) (hn : n < 64) (w : World) (hr : Row w g (hrow firstW rs n) 66) :
    Calls Tryd.prog 33 #[.pointer (some ⟨g, 0, none⟩)] w fun e w' => e = .returned (.agg (u32s firstW).toArray) ∧ Below w.heap.size w w' := by
  have hc : w.cell? ⟨g, 72, none⟩ = some (.int .i64 n) := by rw [hr.cell, hrow_size firstW rs n rfl hrs]
  have hg : g < w.heap.size := hr.lt
  have c0 : w.cell? ⟨g, 0, none⟩ = some (.int .u32 1779033703) := hr.cell 0
  have c1 : w.cell? ⟨g, 1, none⟩ = some (.int .u32 3144134277) := hr.cell 1
  have c2 : w.cell? ⟨g, 2, none⟩ = some (.int .u32 1013904242) := hr.cell 2
  have c3 : w.cell? ⟨g, 3, none⟩ = some (.int .u32 2773480762) := hr.cell 3
  have c4 : w.cell? ⟨g, 4, none⟩ = some (.int .u32 1359893119) := hr.cell 4
  have c5 : w.cell? ⟨g, 5, none⟩ = some (.int .u32 2600822924) := hr.cell 5
  have c6 : w.cell? ⟨g, 6, none⟩ = some (.int .u32 528734635) := hr.cell 6
  have c7 : w.cell? ⟨g, 7, none⟩ = some (.int .u32 1541459225) := hr.cell 7
  clear hr
  have heq : ∀ W, (Op.equalIn 10000 59 (.agg #[.int .u32 1779033703, .int .u32 3144134277, .int .u32 1013904242, .int .u32 2773480762, .int .u32 1359893119, .int .u32 2600822924, .int .u32 528734635, .int .u32 1541459225]) (.agg #[.int .u32 0, .int .u32 0, .int .u32 0, .int .u32 0, .int .u32 0, .int .u32 0, .int .u32 0, .int .u32 0])).run Tryd.prog W = .ok false W := by
    intro W
    have := run_eqa (P := Tryd.prog) W 9998 59 25 8 .u32 un_w8 Tryd.underlying25 sz_u32 firstW (List.replicate 8 0) rfl rfl
    exact this
  go_enter Tryd.func33, Tryd.ntmps33
  go_wp2
  refine bodyPost_ret (v := .agg (u32s firstW).toArray) (by simp [results, Tryd.results33, go_sem, u32s, firstW]) rfl ⟨rfl, ?_⟩
  exact (Below.refl _ _).alloc (Nat.le_refl _) _
set_option maxHeartbeats 400000 in
theorem begun_later (g : Nat) (ws rs : List Int) (n : Int) (hws : ws.length = 8) (hrs : rs.length = 64) (hn : 64 ≤ n) (w : World) (hr : Row w g (hrow ws rs n) 66) :
    Calls Tryd.prog 33 #[.pointer (some ⟨g, 0, none⟩)] w fun e w' => e = .returned (.agg (u32s ws).toArray) ∧ Below w.heap.size w w' := by
  have hc : w.cell? ⟨g, 72, none⟩ = some (.int .i64 n) := by rw [hr.cell, hrow_size ws rs n hws hrs]
  match ws, hws with
  | [x0, x1, x2, x3, x4, x5, x6, x7], _ =>
  have hg : g < w.heap.size := hr.lt
  have c0 : w.cell? ⟨g, 0, none⟩ = some (.int .u32 x0) := hr.cell 0
  have c1 : w.cell? ⟨g, 1, none⟩ = some (.int .u32 x1) := hr.cell 1
  have c2 : w.cell? ⟨g, 2, none⟩ = some (.int .u32 x2) := hr.cell 2
  have c3 : w.cell? ⟨g, 3, none⟩ = some (.int .u32 x3) := hr.cell 3
  have c4 : w.cell? ⟨g, 4, none⟩ = some (.int .u32 x4) := hr.cell 4
  have c5 : w.cell? ⟨g, 5, none⟩ = some (.int .u32 x5) := hr.cell 5
  have c6 : w.cell? ⟨g, 6, none⟩ = some (.int .u32 x6) := hr.cell 6
  have c7 : w.cell? ⟨g, 7, none⟩ = some (.int .u32 x7) := hr.cell 7
  clear hr
  go_enter Tryd.func33, Tryd.ntmps33
  go_wp2
  refine bodyPost_ret (v := .agg (u32s [x0, x1, x2, x3, x4, x5, x6, x7]).toArray) (by simp [results, Tryd.results33, go_sem, u32s]) rfl ⟨rfl, ?_⟩
  exact (Below.refl _ _).alloc (Nat.le_refl _) _
theorem begun_any (g : Nat) (ws rs : List Int) (n : Int) (hws : ws.length = 8) (hrs : rs.length = 64) (hn : n < 64 → ws = firstW) (w : World) (hr : Row w g (hrow ws rs n) 66) :
    Calls Tryd.prog 33 #[.pointer (some ⟨g, 0, none⟩)] w fun e w' => e = .returned (.agg (u32s ws).toArray) ∧ Below w.heap.size w w' := by
  by_cases h : n < 64
  · have := hn h
    subst this
    exact begun_first g rs n hrs h w hr
  · exact begun_later g ws rs n hws hrs (by omega) w hr
set_option maxHeartbeats 400000 in
theorem new_any (w : World) :
    Calls Tryd.prog 32 #[] w fun e w' => ∃ g, e = .returned (.pointer (some ⟨g, 0, none⟩)) ∧ w.heap.size ≤ g ∧ Row w' g (hrow firstW (List.replicate 64 0) 0) 66 ∧ Below w.heap.size w w' := by
  have hm := Mem.start w
  go_enter Tryd.func32, Tryd.ntmps32
  go_wp2_with (first
    | (go_at_call 40; refine (firstWords_any _).mono ?_; rintro e w1 ⟨rfl, hb⟩; replace hm := hm.call hb; clear hb)
    | ((with_reducible refine at_op (some 2) (.build 66 #[(0, .tmp 1)]) ?_); go_must (refine wpl_build (hrow firstW (List.replicate 64 0) 0) [(0, .agg (u32s firstW).toArray)] rfl built_new ?_))
    | ((with_reducible refine at_op (some 3) (.box 66 (.tmp 2)) ?_); refine wpl_box (hrow firstW (List.replicate 64 0) 0) rfl hm ?_; clear hm; intro w2 g hm))
  go_ret
  have hf := hm.fresh _ (List.mem_cons_self ..)
  exact ⟨g, rfl, by simpa using hf, hm.get 0 rfl, hm.below⟩
set_option maxHeartbeats 400000 in
theorem held_eight (w : World) :
    Calls Tryd.prog 29 #[.int .i64 8] w fun e w' => e = .returned (.int .i64 8) ∧ w' = w := by
  go_enter Tryd.func29, Tryd.ntmps29
  go_wp2
  go_ret
  exact ⟨rfl, rfl⟩
set_option maxHeartbeats 400000 in
theorem longer_nil (w : World) :
    Calls Tryd.prog 30 #[.slice none 0 0, .int .i64 8] w fun e w' => ∃ g, e = .returned (.slice (some ⟨g, 0, none⟩) 8 8) ∧ w.heap.size ≤ g ∧ Row w' g (u8s (List.replicate 8 0)) 5 ∧ Below w.heap.size w w' := by
  have hm := Mem.start w
  have hcp : ∀ (g : Nat) (W : World), (Builtin.copy_ #[22, 22] 3 #[.slice (some ⟨g, 0, none⟩) 8 8, .slice none 0 0]).run Tryd.prog W = .ok (goInt 0) W := fun g W => run_copy_nil (P := Tryd.prog) W _ _ _ _ _ 8 8 un_bs (by rw [sz_u8]; rfl)
  go_enter Tryd.func30, Tryd.ntmps30
  go_wp2_with (first
    | ((with_reducible refine at_op (some 10) (.makeSlice 22 (.tmp 9) (.tmp 9)) ?_); refine wpl_make _ un_bs _ made_u8 rfl 8 rfl rfl rfl rfl (by omega) hm ?_; clear hm; intro w1 g hm))
  go_ret
  have hf := hm.fresh _ (List.mem_cons_self ..)
  exact ⟨g, rfl, by simpa using hf, hm.get 0 rfl, hm.below⟩
end Go.Proofs.YtonbfbcbmdnelaaDoor
