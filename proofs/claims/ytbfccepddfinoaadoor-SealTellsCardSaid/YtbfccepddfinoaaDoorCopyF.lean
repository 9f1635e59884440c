/- The contract of Hex. -/
import Derived.Test.YtbfccepddfinoaaDoorSum
import Derived.Test.YtbfccepddfinoaaDoorStr
import Derived.Test.YtbfccepddfinoaaDoorAny3
import Derived.Test.YtbfccepddfinoaaDoorApp3
namespace Go.Proofs.YtbfccepddfinoaaDoor
open Go Go.RowKit

theorem un_str : Tryd.prog.underlying 9 = some .string := Tryd.underlying9
theorem un_u8 : Tryd.prog.underlying 5 = some (.int .u8) := Tryd.underlying5
end Go.Proofs.YtbfccepddfinoaaDoor

namespace Go.Proofs.YtbfccepddfinoaaDoor
open Go Go.RowKit

theorem un_hash : Tryd.prog.underlying 99 = some (Tryd.prog.underlying 99).get! := by kernel_rfl
theorem Mem.callNew {w0 w w' : World} {S : List Nat} {rows : List (Nat × List Value × TypeId)} (hm : Mem w0 S w rows) (hb : Below w.heap.size w w') {g : Nat} {l : List Value} {t : TypeId} (hr : Row w' g l t) (hg : w.heap.size ≤ g) : Mem w0 S w' ((g, l, t) :: rows) := by
  have h := hm.call hb
  refine ⟨h.os, h.tape, h.output, h.size, h.block, ?_, ?_, ?_⟩
  · intro r hr'
    rcases List.mem_cons.1 hr' with rfl | hr'
    · exact hr
    · exact h.row r hr'
  · simp only [List.map_cons, List.nodup_cons]
    refine ⟨fun hc => ?_, h.nodup⟩
    obtain ⟨r, hr', he⟩ := List.mem_map.1 hc
    have := (hm.row r hr').lt
    omega
  · intro r hr'
    rcases List.mem_cons.1 hr' with rfl | hr'
    · exact Or.inr (Nat.le_trans hm.size hg)
    · exact h.fresh r hr'
/-- A slice of bytes that was there. -/
def SlOld (w : World) (v : Value) (cs : List Int) : Prop :=
  ∃ p cap, v = .slice p cs.length cap ∧ cs.length ≤ cap ∧ (0 < cs.length → ∃ b off, p = some ⟨b, off, none⟩ ∧ Seg w b off cs)
theorem SlOld.sl {w w' : World} {v : Value} {cs : List Int} (h : SlOld w v cs) (hb : Below w.heap.size w w') {g : Nat} (hg : w.heap.size ≤ g) : Sl w' g v cs := by
  obtain ⟨p, cap, hv, hc, hs⟩ := h
  refine ⟨p, cap, hv, hc, fun h0 => ?_⟩
  obtain ⟨b, off, hp, hseg⟩ := hs h0
  have := hseg.lt h0
  exact ⟨b, off, hp, by omega, hseg.below hb⟩
theorem SlOld.mem {w w' : World} {v : Value} {cs : List Int} {rows : List (Nat × List Value × TypeId)} (h : SlOld w v cs) (hm : Mem w [] w' rows) : SlOld w' v cs := by
  obtain ⟨p, cap, hv, hc, hs⟩ := h
  refine ⟨p, cap, hv, hc, fun h0 => ?_⟩
  obtain ⟨b, off, hp, hseg⟩ := hs h0
  exact ⟨b, off, hp, hseg.mem hm (by simp)⟩
theorem new_row : hrow firstW (List.replicate 64 0) 0 = hrow (wsOf []) (restOf []) (([] : List Int).length : Int) := rfl
set_option maxHeartbeats 1000000 in
set_option maxRecDepth 100000 in
theorem sum_any (cs : List Int) (v : Value) (hbc : Bytes cs) (hlen : cs.length ≤ 1099511627776) (w : World) (ht : Tab w) (hv : SlOld w v cs) :
    Calls Tryd.prog 50 #[v] w fun e w' => e = .returned (.agg (u8s (shaOf cs)).toArray) ∧ Below w.heap.size w w' := by
  have hm := Mem.start w
  have HT : Hid _ := ht
  have HB : Hid _ := hbc
  have HV : Hid _ := hv
  clear ht hbc hv
  go_enter Tryd.func50, Tryd.ntmps50
  go_wp2_with (first
    | ((with_reducible refine at_op (some 2) (.alloc 22) ?_); refine wpl_alloc _ zero_b32 hm ?_; clear hm; intro w1 g2 hm)
    | (go_at_call 59; refine (new_any _).mono ?_; rintro e w2 ⟨g, rfl, hge, hr, hb⟩; rw [new_row] at hr; have HSL : Hid _ := (SlOld.mem HV.out hm).sl hb hge; have hgt : 1 ≠ g := Nat.ne_of_lt (Nat.lt_of_lt_of_le (Tab.lt (Tab.mem HT.out hm (by simp))) hge); replace hm := hm.callNew hb hr hge; clear hb hr hge)
    | (go_at_call 52; refine (write_any g [] cs v (by intro x hx; cases hx) HB.out (by simpa using hlen) _ (Tab.mem HT.out hm (by simp)) hgt (hm.get 0 rfl) HSL.out).mono ?_; rintro e w3 ⟨rfl, hr, hu⟩; replace hm := hm.upd 0 rfl hu hr; clear hr hu)
    | (go_at_call 53; refine (hashSum_any g cs HB.out hlen _ (Tab.mem HT.out hm (by simp)) (hm.get 0 rfl)).mono ?_; rintro e w4 ⟨rfl, hb⟩; replace hm := hm.call hb; clear hb)
    | ((with_reducible refine at_op none (.store 22 (.tmp 2) (.tmp 9)) ?_); refine wpl_stw 1 (u8s (shaOf cs)) hm rfl rfl rfl 32 sz_b32 (rfl) (by rw [u8s_length]; exact shaOf_length _) (u8s_one _) ?_; clear hm; intro w5 hm))

  exact ret_cell 1 hm rfl Tryd.results50 rfl _ un_b32 rfl 32 sz_b32 (by rw [u8s_length]; exact shaOf_length _) rfl ⟨rfl, hm.below⟩
end Go.Proofs.YtbfccepddfinoaaDoor

namespace Go.Proofs.YtbfccepddfinoaaDoor
open Go Go.RowKit
theorem eq_two32 (l l' : List Int) (h : l.length = 32) (h' : l'.length = 32) : ∀ W, (Op.equalIn 10000 22 (.agg (u8s l).toArray) (.agg (u8s l').toArray)).run Tryd.prog W = .ok (decide (l = l')) W := by
  intro W
  exact run_eqa (P := Tryd.prog) W 9998 22 5 32 .u8 un_b32 un_u8 sz_u8 l l' h h'
theorem eq_self32 (l : List Int) (h : l.length = 32) : ∀ W, (Op.equalIn 10000 22 (.agg (u8s l).toArray) (.agg (u8s l).toArray)).run Tryd.prog W = .ok true W := by
  intro W
  have e : decide (l = l) = true := decide_eq_true rfl
  rw [eq_two32 l l h h W, e]
end Go.Proofs.YtbfccepddfinoaaDoor

namespace Go.Proofs.YtbfccepddfinoaaDoor
open Go Go.RowKit

theorem ag_bs : ∀ w, (isAgg 26).run Tryd.prog w = .ok false w := by intro w; simp [go_sem]
theorem ag_bool : ∀ w, (isAgg 4).run Tryd.prog w = .ok false w := by intro w; simp [go_sem]
theorem hrow_one (ws rs : List Int) (n : Int) : ∀ v ∈ hrow ws rs n, v.oneCell' = true := by
  intro v hv
  simp only [hrow, List.mem_append, List.mem_cons, List.not_mem_nil, or_false] at hv
  rcases hv with h | h | rfl
  · exact u32s_one _ v h
  · exact u8s_one _ v h
  · rfl
set_option maxHeartbeats 400000 in
set_option maxRecDepth 100000 in
theorem copy_any (g : Nat) (ws rs : List Int) (n : Int) (hws : ws.length = 8) (hrs : rs.length = 64) (w : World) (hr : Row w g (hrow ws rs n) 99) :
    Calls Tryd.prog 51 #[.pointer (some ⟨g, 0, none⟩)] w fun e w' => ∃ g', e = .returned (.pointer (some ⟨g', 0, none⟩)) ∧ w.heap.size ≤ g' ∧ Row w' g' (hrow ws rs n) 99 ∧ Below w.heap.size w w' := by
  have hm := Mem.start w
  have hln : (hrow ws rs n).length = 73 := hrow_length _ _ _ hws hrs
  have HLN : Hid _ := hln
  have HR : Hid (Row w g (hrow ws rs n) 99) := hr
  clear hln hr
  go_enter Tryd.func51, Tryd.ntmps51
  go_wp2_with (first
    | ((with_reducible refine at_op (some 6) (.load 99 (.tmp 5)) ?_); refine wpl_execG (.agg (hrow ws rs n).toArray) rfl (exec_ldsG 0 _ (Row.below' HR.out hm.below) rfl _ un_hash rfl 73 sz_hash (by rw [HLN.out]; omega) (by rw [List.drop_zero, List.take_of_length_le (Nat.le_of_eq HLN.out)])) ?_)
    | ((with_reducible refine at_op (some 3) (.alloc 99) ?_); refine wpl_alloc _ zero_hash hm ?_; clear hm; intro w1 g1 hm)
    | ((with_reducible refine at_op none (.store 99 (.tmp 3) (.tmp 6)) ?_); refine wpl_stw 0 (hrow ws rs n) hm rfl rfl rfl 73 sz_hash (rfl) (HLN.out) (hrow_one _ _ _) ?_; clear hm; intro w2 hm))
  go_ret
  have hf := hm.fresh _ (List.mem_cons_self ..)
  exact ⟨g1, rfl, by simpa using hf, hm.get 0 rfl, hm.below⟩
end Go.Proofs.YtbfccepddfinoaaDoor
