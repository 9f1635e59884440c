/- The document's In: where it is there. -/
import Derived.Test.YtbiinchmbclmcaaDoorTmPl2
namespace Go.Proofs.YtbiinchmbclmcaaDoor
open Go Go.RowKit
set_option maxHeartbeats 4000000 in
set_option maxRecDepth 100000 in
theorem in_yes {F G : Nat → Prop} (l : List Tm) (u : Tm) (p : Option Addr) (n c : Nat) (s : Value) (w : World) (hn : n = l.length) (hn4 : n ≤ 100000) (hc : ∀ x ∈ l, cnt x ≤ 100000) (hl : SlT F w (.slice p n c) l) (hs : SlT G w s u.l) (hin : u ∈ l) :
    Calls Tryd.prog 11 #[.slice p n c, .agg (tcs u s).toArray] w fun e w' => e = .returned (.bool true) ∧ Below w.heap.size w w' := by
  have hm := Mem.start w
  have HN : Hid (∀ _ : Unit, n = l.length) := fun _ => hn
  have HCN : Hid (∀ x ∈ l, cnt x ≤ 100000) := hc
  have HLL : Hid (SlT F w (.slice p n c) l) := hl
  have HS : Hid (SlT G w s u.l) := hs
  have HIN : Hid (u ∈ l) := hin
  clear hn hc hl hs hin
  go_enter Tryd.func11, Tryd.ntmps11
  go_wp2_with (first
    | ((with_reducible refine at_op (some 3) (.box 24 (.tmp 1)) ?_); go_must (refine wpl_box (tcs u s) rfl hm ?_); clear hm; intro w1 g1 hm))
  have HMM0 : Hid (Mem w [] w1 [(g1, tcs u s, 24)]) := hm
  go_loopw [5] (fun vk wr => ∃ k : Nat, vk = .int .i64 (k : Int) ∧ k ≤ n ∧ Hid (Mem w [] wr [(g1, tcs u s, 24)]) ∧ Hid (∀ j, j < k → l[j]? ≠ some u)) (fun vk _ => n - (intOf vk).toNat)
  case atStart => exact ⟨0, rfl, Nat.zero_le _, hm, fun j hj => absurd hj (by omega)⟩
  case round =>
    clear hm HMM0
    obtain ⟨k, rfl, hkm, HMM, HNO⟩ := hrel
    have hlt : k < n := by
      refine Nat.lt_of_not_le fun hle => ?_
      obtain ⟨j, hj, he⟩ := List.getElem_of_mem HIN.out
      have hjn : j < n := by rw [HN.out ()]; exact hj
      exact HNO.out j (by omega) (by rw [List.getElem?_eq_getElem hj, he])
    obtain ⟨x, hx⟩ : ∃ x, l[k]? = some x := ⟨_, List.getElem?_eq_getElem (by rw [← HN.out ()]; exact hlt)⟩
    obtain ⟨b1, o1, hp1⟩ := HLL.out.at (by omega)
    subst hp1
    obtain ⟨px, mx, cx, a0, a1, a2, hmx, hsx⟩ := HLL.out.cells hx
    have HA : Hid (∀ W, Below w.heap.size w W → W.cell? ⟨b1, o1 + k * 3, none⟩ = some (.int .i64 x.k) ∧ W.cell? ⟨b1, o1 + k * 3 + 1, none⟩ = some (.int .i64 x.n) ∧ W.cell? ⟨b1, o1 + k * 3 + 2, none⟩ = some (.slice px mx cx)) := fun W hW => ⟨(hW.cell (p := ⟨b1, _, none⟩) (block_lt_of_cell a0)).trans a0, (hW.cell (p := ⟨b1, _, none⟩) (block_lt_of_cell a1)).trans a1, (hW.cell (p := ⟨b1, _, none⟩) (block_lt_of_cell a2)).trans a2⟩
    have HSX : Hid (SlT F w (.slice px mx cx) x.l) := hsx
    have HMX : Hid (x ∈ l) := List.mem_of_getElem? hx
    have HX : Hid (l[k]? = some x) := hx
    have HLT : Hid (k < n) := hlt
    have hki : (k : Int) < (n : Int) := by omega
    have hkb : k ≤ 100000 := by omega
    have hm := HMM.out
    clear hx a0 a1 a2 hmx hsx HMM
    by_cases hxu : x = u
    · have HCALL : Hid (∀ W, Below w.heap.size w W → Calls Tryd.prog 21 #[.agg (tcs x (.slice px mx cx)).toArray, .agg (tcs u s).toArray] W fun e w' => e = .returned (.bool true) ∧ Below W.heap.size W w') := fun W hW => same_any x (HCN.out x HMX.out) u _ _ true W (HSX.out.below hW) (HS.out.below hW) (by simp [hxu])
      clear hxu
      go_wp2_with fail
      refine wp_ends0 ?_
      refine anyH_startB (T := fun W => Mem w [] W [(g1, tcs u s, 24)]) (by kernel_rfl) hm ?_
      intro wc hbw hmw
      replace hm : Mem w [] wc [(g1, tcs u s, 24)] := hmw
      clear hbw hmw
      refine anyH_take 0 (v := .slice (some ⟨b1, o1, none⟩) n c) rfl (by kernel_rfl) (by kernel_rfl) (by kernel_rfl) rfl (fun W _ => by go_simp) hm ?_
      go_simp
      refine anyH_take 1 (v := .int .i64 (k : Int)) rfl (by kernel_rfl) (by kernel_rfl) (by kernel_rfl) rfl (fun W _ => by go_simp) hm ?_
      go_simp
      refine anyH_take 2 (v := .pointer (some ⟨b1, o1 + k * 3, none⟩)) rfl (by kernel_rfl) (by kernel_rfl) (by kernel_rfl) rfl (fun W _ => exec_ixT k rfl rfl rfl HLT.out) hm ?_
      go_simp
      refine anyH_take 3 (v := .agg (tcs x (.slice px mx cx)).toArray) rfl (by kernel_rfl) (by kernel_rfl) (by kernel_rfl) rfl (fun W hW => exec_ldT rfl (HA.out W hW.below).1 (HA.out W hW.below).2.1 (HA.out W hW.below).2.2) hm ?_
      go_simp
      refine anyH_take 4 (v := .agg (tcs u s).toArray) rfl (by kernel_rfl) (by kernel_rfl) (by kernel_rfl) rfl (fun W hW => exec_ldsG 0 (tcs u s) (Mem.get hW 0 rfl) rfl _ Tryd.underlying24 rfl 3 sz_term (Nat.le_refl _) rfl) hm ?_
      go_simp
      refine wpAnyH_all (rs := [5]) (by kernel_rfl) (by simp) ?_
      intro i hi
      simp only [List.mem_cons, List.not_mem_nil, or_false] at hi
      subst hi
      refine anyH_opW 5 rfl rfl ?_
      intro K hK
      go_wp2_with (go_at_call 21; refine (HCALL.out _ hm.below).mono ?_; rintro e w' ⟨he, hb⟩; subst he; replace hm := hm.call hb; clear hb)
      refine hK _ _ hm ?_
      clear hK K
      go_simp
      refine wpAnyH_done (by kernel_rfl) ?_ _
      simp only [endsIn]
      go_wp2_with fail
      go_ret
      exact ⟨rfl, hm.below⟩
    · have HCALL : Hid (∀ W, Below w.heap.size w W → Calls Tryd.prog 21 #[.agg (tcs x (.slice px mx cx)).toArray, .agg (tcs u s).toArray] W fun e w' => e = .returned (.bool false) ∧ Below W.heap.size W w') := fun W hW => same_any x (HCN.out x HMX.out) u _ _ false W (HSX.out.below hW) (HS.out.below hW) (by simp [hxu])
      have HNO2 : Hid (∀ j, j < k + 1 → l[j]? ≠ some u) := fun j hj => by
        by_cases h : j = k
        · subst h; rw [HX.out]; intro he; exact hxu (Option.some.inj he)
        · exact HNO.out j (by omega)
      clear hxu
      go_wp2_with fail
      refine wp_ends0 ?_
      refine anyH_startB (T := fun W => Mem w [] W [(g1, tcs u s, 24)]) (by kernel_rfl) hm ?_
      intro wc hbw hmw
      replace hm : Mem w [] wc [(g1, tcs u s, 24)] := hmw
      clear hbw hmw
      refine anyH_take 0 (v := .slice (some ⟨b1, o1, none⟩) n c) rfl (by kernel_rfl) (by kernel_rfl) (by kernel_rfl) rfl (fun W _ => by go_simp) hm ?_
      go_simp
      refine anyH_take 1 (v := .int .i64 (k : Int)) rfl (by kernel_rfl) (by kernel_rfl) (by kernel_rfl) rfl (fun W _ => by go_simp) hm ?_
      go_simp
      refine anyH_take 2 (v := .pointer (some ⟨b1, o1 + k * 3, none⟩)) rfl (by kernel_rfl) (by kernel_rfl) (by kernel_rfl) rfl (fun W _ => exec_ixT k rfl rfl rfl HLT.out) hm ?_
      go_simp
      refine anyH_take 3 (v := .agg (tcs x (.slice px mx cx)).toArray) rfl (by kernel_rfl) (by kernel_rfl) (by kernel_rfl) rfl (fun W hW => exec_ldT rfl (HA.out W hW.below).1 (HA.out W hW.below).2.1 (HA.out W hW.below).2.2) hm ?_
      go_simp
      refine anyH_take 4 (v := .agg (tcs u s).toArray) rfl (by kernel_rfl) (by kernel_rfl) (by kernel_rfl) rfl (fun W hW => exec_ldsG 0 (tcs u s) (Mem.get hW 0 rfl) rfl _ Tryd.underlying24 rfl 3 sz_term (Nat.le_refl _) rfl) hm ?_
      go_simp
      refine wpAnyH_all (rs := [5]) (by kernel_rfl) (by simp) ?_
      intro i hi
      simp only [List.mem_cons, List.not_mem_nil, or_false] at hi
      subst hi
      refine anyH_opW 5 rfl rfl ?_
      intro K hK
      go_wp2_with (go_at_call 21; refine (HCALL.out _ hm.below).mono ?_; rintro e w' ⟨he, hb⟩; subst he; replace hm := hm.call hb; clear hb)
      refine hK _ _ hm ?_
      clear hK K
      go_simp
      refine wpAnyH_done (by kernel_rfl) ?_ _
      simp only [endsIn]
      go_wp2_with fail
      go_roundw
      case rel => exact ⟨k + 1, by go_num, by omega, hm, HNO2.out⟩
      case measure => simp [intOf]; omega
end Go.Proofs.YtbiinchmbclmcaaDoor
