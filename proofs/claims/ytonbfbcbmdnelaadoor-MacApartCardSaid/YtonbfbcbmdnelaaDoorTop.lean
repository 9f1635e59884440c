/- The contracts of the function Sum, of Copy, and of the look at two known sums. -/
import Derived.Test.YtonbfbcbmdnelaaDoorHex
namespace Go.Proofs.YtonbfbcbmdnelaaDoor
open Go Go.RowKit

theorem un_hash : Tryd.prog.underlying 66 = some (Tryd.prog.underlying 66).get! := by kernel_rfl
theorem Mem.callNew {w0 w w' : World} {S : List Nat} {rows : List (Nat × List Value × TypeId)} (hm : Mem w0 S w rows) (hb : Below w.heap.size w w') {g : Nat} {l : List Value} {t : TypeId} (hr : Row w' g l t) (hg : w.heap.size ≤ g) : Mem w0 S w' ((g, l, t) :: rows) := by
  have h := hm.call hb
  refine ⟨h.os, h.tape, h.output, h.size, h.block, ?_, ?_, ?_⟩
  · intro r hr'
    rcases List.mem_cons.1 hr' with rfl | hr'
    · exact hr
    · exact h.row r hr'
  · simp only [List.map_cons, List.nodup_cons]
    refine ⟨fun hc => ?_, h.nodup⟩
    obtain ⟨r, hr', he⟩ := List.mem_map.1 hc
    have := (hm.row r hr').lt
    omega
  · intro r hr'
    rcases List.mem_cons.1 hr' with rfl | hr'
    · exact Or.inr (Nat.le_trans hm.size hg)
    · exact h.fresh r hr'
/-- A slice of bytes that was there. -/
def SlOld (w : World) (v : Value) (cs : List Int) : Prop :=
  ∃ p cap, v = .slice p cs.length cap ∧ cs.length ≤ cap ∧ (0 < cs.length → ∃ b off, p = some ⟨b, off, none⟩ ∧ Seg w b off cs)
theorem SlOld.sl {w w' : World} {v : Value} {cs : List Int} (h : SlOld w v cs) (hb : Below w.heap.size w w') {g : Nat} (hg : w.heap.size ≤ g) : Sl w' g v cs := by
  obtain ⟨p, cap, hv, hc, hs⟩ := h
  refine ⟨p, cap, hv, hc, fun h0 => ?_⟩
  obtain ⟨b, off, hp, hseg⟩ := hs h0
  have := hseg.lt h0
  exact ⟨b, off, hp, by omega, hseg.below hb⟩
theorem SlOld.mem {w w' : World} {v : Value} {cs : List Int} {rows : List (Nat × List Value × TypeId)} (h : SlOld w v cs) (hm : Mem w [] w' rows) : SlOld w' v cs := by
  obtain ⟨p, cap, hv, hc, hs⟩ := h
  refine ⟨p, cap, hv, hc, fun h0 => ?_⟩
  obtain ⟨b, off, hp, hseg⟩ := hs h0
  exact ⟨b, off, hp, hseg.mem hm (by simp)⟩
theorem new_row : hrow firstW (List.replicate 64 0) 0 = hrow (wsOf []) (restOf []) (([] : List Int).length : Int) := rfl
set_option maxHeartbeats 1000000 in
theorem sum_any (cs : List Int) (v : Value) (hbc : Bytes cs) (hlen : cs.length ≤ 1099511627776) (w : World) (ht : Tab w) (hv : SlOld w v cs) :
    Calls Tryd.prog 24 #[v] w fun e w' => e = .returned (.agg (u8s (shaOf cs)).toArray) ∧ Below w.heap.size w w' := by
  have hm := Mem.start w
  have HT : Hid _ := ht
  have HB : Hid _ := hbc
  have HV : Hid _ := hv
  clear ht hbc hv
  go_enter Tryd.func24, Tryd.ntmps24
  go_wp2_with (first
    | ((with_reducible refine at_op (some 2) (.alloc 23) ?_); refine wpl_alloc _ zero_b32 hm ?_; clear hm; intro w1 g2 hm)
    | (go_at_call 32; refine (new_any _).mono ?_; rintro e w2 ⟨g, rfl, hge, hr, hb⟩; rw [new_row] at hr; have HSL : Hid _ := (SlOld.mem HV.out hm).sl hb hge; have hgt : 0 ≠ g := Nat.ne_of_lt (Nat.lt_of_lt_of_le (Tab.lt (Tab.mem HT.out hm (by simp))) hge); replace hm := hm.callNew hb hr hge; clear hb hr hge)
    | (go_at_call 26; refine (write_any g [] cs v (by intro x hx; cases hx) HB.out (by simpa using hlen) _ (Tab.mem HT.out hm (by simp)) hgt (hm.get 0 rfl) HSL.out).mono ?_; rintro e w3 ⟨rfl, hr, hu⟩; replace hm := hm.upd 0 rfl hu hr; clear hr hu)
    | (go_at_call 27; refine (hashSum_any g cs HB.out hlen _ (Tab.mem HT.out hm (by simp)) (hm.get 0 rfl)).mono ?_; rintro e w4 ⟨rfl, hb⟩; replace hm := hm.call hb; clear hb)
    | ((with_reducible refine at_op none (.store 23 (.tmp 2) (.tmp 9)) ?_); refine wpl_stw 1 (u8s (shaOf cs)) hm rfl rfl rfl 32 sz_b32 (rfl) (by rw [u8s_length]; exact shaOf_length _) (u8s_one _) ?_; clear hm; intro w5 hm))

  exact ret_cell 1 hm rfl Tryd.results24 rfl _ un_b32 rfl 32 sz_b32 (by rw [u8s_length]; exact shaOf_length _) rfl ⟨rfl, hm.below⟩
end Go.Proofs.YtonbfbcbmdnelaaDoor
