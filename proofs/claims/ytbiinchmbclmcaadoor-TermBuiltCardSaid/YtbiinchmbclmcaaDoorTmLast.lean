/- Package term: the last of a class, where nothing leads on; two classes joined. -/
import Derived.Test.YtbiinchmbclmcaaDoorTmKey
namespace Go.Proofs.YtbiinchmbclmcaaDoor
open Go Go.RowKit
set_option maxRecDepth 100000 in
theorem sz_classes : (Tryd.prog.info? 43).map (·.size) = some 1 := by kernel_rfl
set_option maxRecDepth 100000 in
theorem KeysAt.below {w w' : World} {m : Nat} {ks : List Ky} (h : KeysAt w m ks) (hb : Below w.heap.size w w') : KeysAt w' m ks := by
  obtain ⟨es, c, h1, h2⟩ := h
  exact ⟨es, c, by rw [hb.block m (Array.getElem?_eq_some_iff.1 h1).1]; exact h1, h2⟩
set_option maxRecDepth 100000 in
theorem PlainKeys.below {w w' : World} {ks : List Ky} (h : PlainKeys w ks) (hb : Below w.heap.size w w') : PlainKeys w' ks := by
  intro q hq
  obtain ⟨c, t, h1⟩ := h q hq
  exact ⟨c, t, by rw [hb.block q.1 (Array.getElem?_eq_some_iff.1 h1).1]; exact h1⟩
/-- A block of cells, one or more. -/
def Filled (w : World) (b : Nat) : Prop := ∃ c t fr, w.heap[b]? = some (.cells c t fr) ∧ 0 < c.size
set_option maxRecDepth 100000 in
theorem Filled.below {w w' : World} {b : Nat} (h : Filled w b) (hb : Below w.heap.size w w') : Filled w' b := by
  obtain ⟨c, t, fr, h1, h2⟩ := h
  exact ⟨c, t, fr, by rw [hb.block b (Array.getElem?_eq_some_iff.1 h1).1]; exact h1, h2⟩
set_option maxHeartbeats 4000000 in
set_option maxRecDepth 100000 in
theorem last_no (m : Nat) (ks : List Ky) (k : Ky) (w : World) (hk : KeysAt w m ks) (hp : PlainKeys w ks) (hf : Filled w k.1) (hn : ∀ q ∈ ks, k.1 ≠ q.1) :
    Calls Tryd.prog 27 #[.map (some m), kyv k] w fun e w' => e = .returned (kyv k) ∧ Below w.heap.size w w' := by
  have hm := Mem.start w
  have HLK : Hid (∀ W, Below w.heap.size w W → (Instr.lookup 43 (.map (some m)) (.agg (kyc k).toArray) true).run Tryd.prog W = .ok (.tuple #[.agg [.pointer none, .int .i64 0].toArray, .bool false]) W) := fun W hW => by
    obtain ⟨c, t, fr, h1, h2⟩ := hf.below hW
    exact (hk.below hW).lookNo (hp.below hW) h1 h2 hn
  clear hk hp hf hn
  show Calls Tryd.prog 27 #[.map (some m), .agg (kyc k).toArray] w _
  go_enter Tryd.func27, Tryd.ntmps27
  go_wp2_with (first
    | ((with_reducible refine at_op (some 3) (.box 49 (.tmp 1)) ?_); go_must (refine wpl_box (kyc k) rfl hm ?_); clear hm; intro w1 g1 hm)
    | ((with_reducible refine at_op (some 4) (.alloc 49) ?_); go_must (refine wpl_alloc _ zero_list hm ?_); clear hm; intro w2 g2 hm))
  have HM0 : Hid (Mem w [] w2 [(g2, [.pointer none, .int .i64 0], 49), (g1, kyc k, 49)]) := hm
  go_simp
  go_loopw [] (fun wr => Hid (Mem w [] wr [(g2, [.pointer none, .int .i64 0], 49), (g1, kyc k, 49)])) (fun _ => 0)
  case atStart => exact hm
  case round =>
    clear hm HM0
    have hm := hrel.out
    clear hrel
    go_wp2_with (first
      | ((with_reducible refine at_op (some 11) (.load 49 (.tmp 3)) ?_); go_must (refine wpl_ldw 1 hm rfl rfl _ Tryd.underlying49 rfl 2 sz_list rfl ?_))
      | ((with_reducible refine at_op (some 12) (.lookup 43 (.tmp 10) (.tmp 11) true) ?_); go_must (refine wpl_execG (.tuple #[.agg [.pointer none, .int .i64 0].toArray, .bool false]) rfl (exec_look (HLK.out _ hm.below) rfl rfl) ?_))
      | ((with_reducible refine at_op (some 5) (.alloc 49) ?_); go_must (refine wpl_alloc _ zero_list hm ?_); clear hm; intro w3 g3 hm)
      | ((with_reducible refine at_op none (.store 49 (.tmp 5) (.tmp 13)) ?_); go_must (refine wpl_stw 0 ([.pointer none, .int .i64 0]) hm rfl rfl rfl 2 sz_list rfl rfl ((by intro v hv; simp only [List.mem_cons, List.not_mem_nil, or_false] at hv; rcases hv with rfl | rfl <;> rfl)) ?_); clear hm; intro w4 hm)
      | ((with_reducible refine at_op (some 17) (.load 49 (.tmp 3)) ?_); go_must (refine wpl_ldw 2 hm rfl rfl _ Tryd.underlying49 rfl 2 sz_list rfl ?_))
      | ((with_reducible refine at_op none (.store 49 (.tmp 4) (.tmp 17)) ?_); go_must (refine wpl_stw 1 ((kyc k)) hm rfl rfl rfl 2 sz_list rfl rfl (oneKyc _) ?_); clear hm; intro w5 hm))
    refine ret_cell 1 hm rfl Tryd.results27 rfl _ Tryd.underlying49 rfl 2 sz_list rfl rfl ?_
    exact ⟨rfl, hm.below⟩
end Go.Proofs.YtbiinchmbclmcaaDoor
