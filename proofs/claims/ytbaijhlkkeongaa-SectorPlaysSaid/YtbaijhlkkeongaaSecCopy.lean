/- The contract of Copy. -/
import Derived.Test.YtbaijhlkkeongaaSecAlike
import Derived.Shelf.SlMaps.Clone
import Derived.Laws.Cover3
namespace Go.Proofs.Ytbaijhlkkeongaa
open Go Go.RowKit Go.Maps
open Go.Shelf
set_option maxRecDepth 100000 in
theorem un_dsk : Try.prog.underlying 47 = some (.struct (match Try.prog.underlying 47 with | some (.struct fs) => fs | _ => #[])) := by kernel_rfl
set_option maxRecDepth 100000 in
theorem info_dsk : (Try.prog.info? 47).map (fun i => (i.zero, i.size)) = some (some (.agg [Value.slice none 0 0, .map none, .int .i64 0, .int .i64 0, .bool false].toArray), 5) := by kernel_rfl
set_option maxRecDepth 100000 in
theorem zero_dsk : ∀ w, (zeroValue 47).run Try.prog w = .ok (.agg [Value.slice none 0 0, .map none, .int .i64 0, .int .i64 0, .bool false].toArray) w := (zero_of_info info_dsk).1
set_option maxRecDepth 100000 in
theorem sz_dsk : (Try.prog.info? 47).map (·.size) = some 5 := (zero_of_info info_dsk).2
set_option maxRecDepth 100000 in
theorem run_eqlS {P : Program} (w : World) (t e : TypeId) (p : Option Addr) (n cap : Nat) (hu : P.underlying t = some (.slice e)) : (binOp .eql t (.slice p n cap) (.slice none 0 0)).run P w = .ok (.bool p.isNone) w := by
  simp only [binOp]
  simp [run_equal_slice_nil w t e p n cap hu]
set_option maxRecDepth 100000 in
theorem KeptAt.own {w : World} {base n : Nat} {v : Value} {ds : Nat → List Int} (h : w.ownsRow base 54 64 v n (u8s (flatK ds n))) : KeptAt w v n ds ∧ ∀ k ∈ kbOf v, base ≤ k := by
  obtain ⟨_, h2⟩ := h
  rcases h2 with ⟨rfl, hn⟩ | ⟨q, cap, cur, rfl, hb, hh, hc, _, hs, ht⟩
  · exact ⟨⟨none, 0, by rw [hn], by omega, fun h0 => absurd h0 (by omega)⟩, fun k hk => by simp [kbOf] at hk⟩
  · refine ⟨⟨_, cap, rfl, hc, fun _ => ⟨q, cur.toList.drop (n * 64), rfl, ?_⟩⟩, fun k hk => ?_⟩
    · unfold Row
      rw [← ht, List.take_append_drop]
      simpa using hh
    · simp only [kbOf] at hk
      split at hk
      · cases hk
      · simp at hk; omega
set_option maxRecDepth 100000 in
theorem KeptAt.below' {w w' : World} {kv : Value} {n : Nat} {ds : Nat → List Int} (h : KeptAt w kv n ds) (hb : Below w.heap.size w w') : KeptAt w' kv n ds := h.keep (fun k hk => hb.block k (h.lt k hk))
section
variable {ops : Array Oper} {rest : List Oper} {a : Act} {w w0 w' : World} {Q : Exit → Act → World → Prop} {dst : Option Tmp} {typ : TypeId} {pos : String} {aft : Array Edge} {gd : Option (Nat × Bool)} {S : List Nat} {rows : List (Nat × List Value × TypeId)} {g mb : Nat} {kv : Value} {d : Dk}
set_option maxRecDepth 100000 in
theorem wpl_clK {s x : Operand} {n cap : Nat} {p : Addr} {ds : Nat → List Int} (hn4 : n ≤ 4000) (hl : ∀ i, i < n → (ds i).length = 64) (hk : KeptAt w0 (.slice (some p) n cap) n ds) (hs : a.eval s = .slice (some ⟨w0.heap.size, 0, none⟩) 0 0) (hx : a.eval x = .slice (some p) n cap)
    (h : ∀ v' w', KeptAt w' v' n ds → (∀ k ∈ kbOf v', w0.heap.size ≤ k) → Below w0.heap.size w0 w' → wpList Try.prog ops Q rest (a.put dst v') w') :
    wpList Try.prog ops Q ({ dst := dst, op := .call { callee := .builtin .append, args := #[s, x], argTypes := #[44, 44] }, type := typ, pos := pos, after := aft, guard := none } :: rest) a (w0.alloc (.cells #[] 54)) := by
  have hi := made_con
  cases hq : Try.prog.info? 54 with
  | none => simp [hq] at hi
  | some i =>
    simp only [hq, Option.map_some, Option.some.injEq, Prod.mk.injEq] at hi
    obtain ⟨hz, h1, h2⟩ := hi
    have hb0 : Below w0.heap.size w0 (w0.alloc (.cells #[] 54)) := (Below.refl _ _).alloc (Nat.le_refl _) _
    have hown : (w0.alloc (.cells #[] 54)).ownsRow w0.heap.size 54 64 (.slice (some ⟨w0.heap.size, 0, none⟩) 0 0) 0 [] :=
      ⟨by simp, Or.inr ⟨w0.heap.size, 0, #[], rfl, Nat.le_refl _, heap_alloc_new w0 _, Nat.le_refl _, by unfold maxLen; omega, by simp, by simp⟩⟩
    have hfl := flatK_length ds n hl
    have hcell : ∀ j u, (u8s (flatK ds n))[j]? = some u → (w0.alloc (.cells #[] 54)).cell? (p.add j) = some u := by
      intro j u hu
      have hj : j < n * 64 := by
        have := (List.getElem?_eq_some_iff.1 hu).1
        rw [u8s_length, hfl] at this
        exact this
      have hk2 := hk.below' hb0
      obtain ⟨kb, c2, tl, he, hc, hr⟩ := hk2.some (by omega)
      simp only [Value.slice.injEq, Option.some.injEq] at he
      obtain ⟨rfl, _, _⟩ := he
      rw [add_at, Nat.zero_add, hr.cell, List.getElem?_append_left (by rw [u8s_length, hfl]; exact hj)]
      exact hu
    obtain ⟨v', w', hr, ho, hg, _, hv⟩ := run_append_own_at (P := Try.prog) _ w0.heap.size 44 typ 54 i _ 64 64 un_cons hq hz h1 h2 (by simp [Value.cells, u8s_length, zeroK_length]) (by omega) _ 0 [] hown p n cap (u8s (flatK ds n)) (by rw [u8s_length, hfl]) hcell (u8s_one _) (by unfold maxLen; omega) (by omega) (by simp)
    rw [Nat.zero_add, List.nil_append] at ho
    obtain ⟨h3, h4⟩ := KeptAt.own ho
    refine wpList_plain rfl fun K hK => ?_
    have hh := hK _ _ (h v' w' h3 h4 ⟨hg.os.trans hb0.os, hg.tape.trans hb0.tape, hg.output.trans hb0.output, Nat.le_trans hb0.size hg.size, fun k hk => (hg.block k (Nat.lt_of_lt_of_le hk hb0.size) (fun e => by simp [Value.ownBlock] at e; omega)).trans (hb0.block k hk)⟩)
    unfold Oper.wp execOp
    simp only [resolve, invoke, builtin, Sem.run_bind, Sem.run_pure, Result.andThen_ok, List.map_toArray, List.map_cons, List.map_nil, hs, hx, hr]
    exact hh
end
set_option maxHeartbeats 2000000 in
set_option maxRecDepth 100000 in
theorem cloneK (kv : Value) (n : Nat) (ds : Nat → List Int) (hn4 : n ≤ 4000) (hl : ∀ j, j < n → (ds j).length = 64) (w : World) (hk : KeptAt w kv n ds) :
    Calls Try.prog 31 #[kv] w fun e w' => ∃ v, e = .returned v ∧ KeptAt w' v n ds ∧ (∀ k ∈ kbOf v, w.heap.size ≤ k) ∧ Below w.heap.size w w' := by
  obtain ⟨p, cap, hkv, hc, h2⟩ := hk.ex
  have HK : Hid (KeptAt w kv n ds) := hk
  subst hkv
  have HL : Hid (∀ j, j < n → (ds j).length = 64) := hl
  cases p with
  | none =>
    have hn : n = 0 := by
      rcases Nat.eq_zero_or_pos n with h | h
      · exact h
      · obtain ⟨kb, tl, h3, _⟩ := h2 h
        cases h3
    subst hn
    clear h2 hk hl
    have hnil := fun w => run_eqlS (P := Try.prog) w 44 54 none 0 cap un_cons
    go_enter Try.func31, Try.ntmps31
    go_wp2_with fail
    go_ret
    refine ⟨_, rfl, ⟨none, 0, rfl, by omega, fun h0 => absurd h0 (by omega)⟩, fun k hk => by simp [kbOf] at hk, Below.refl _ _⟩
  | some x =>
    clear h2 hk hl
    have hnil := fun w => run_eqlS (P := Try.prog) w 44 54 (some x) n cap un_cons
    go_enter Try.func31, Try.ntmps31
    go_wp2_with ((with_reducible refine at_op (some 7) (.call { callee := .builtin .append, args := #[.tmp 5, .tmp 6], argTypes := #[44, 44] }) ?_); go_must (refine wpl_clK hn4 HL.out HK.out rfl rfl ?_); intro v1 w1 hk1 hf1 hb1)
    go_ret
    exact ⟨v1, rfl, hk1, hf1, hb1⟩
set_option maxHeartbeats 2000000 in
set_option maxRecDepth 100000 in
theorem cloneM (mb : Nat) (es : Array MapEntry) (clock : Nat) (w : World) (hb : w.heap[mb]? = some (.map es clock)) :
    Calls Try.prog 32 #[.map (some mb)] w fun e w' => e = .returned (.map (some w.heap.size)) ∧ w' = w.alloc (.map es clock) := by
  have hq := fun w => run_eql_map_nil_sl (P := Try.prog) w 45 _ _ (some mb) un_cmap
  go_enter Try.func32, Try.ntmps32
  go_wp2_with fail
  rw [run_callFunc_extern Try.func36 (by kernel_rfl) (by kernel_rfl) (by kernel_rfl) (e := Extern.MapsClone.clone) (by kernel_rfl), run_maps_clone_sl w 45 hb]
  simp only [Result.andThen]
  rw [Oper.upon_value]
  go_wp2_with fail
  rw [run_typeAssert_map_sl _ 45 _ _ _ _ un_cmap]
  simp only [Result.andThen]
  rw [Oper.upon_value]
  go_wp2_with fail
  go_ret
  exact ⟨rfl, rfl⟩
set_option maxHeartbeats 2000000 in
set_option maxRecDepth 100000 in
theorem copy_any (g mb : Nat) (kv : Value) (d : Dk) (w : World) (hd : DkAt w g mb kv d) :
    Calls Try.prog 18 #[.pointer (some ⟨g, 0, none⟩)] w fun e w' => ∃ g' mb' v, e = .returned (.pointer (some ⟨g', 0, none⟩)) ∧ DkAt w' g' mb' v d ∧ (∀ k ∈ foot g' mb' v, w.heap.size ≤ k) ∧ Below w.heap.size w w' := by
  have hm := Mem.start w
  have HD : Hid (DkAt w g mb kv d) := hd
  obtain ⟨n, hn⟩ : ∃ n, n = d.n := ⟨_, rfl⟩
  obtain ⟨s, hs⟩ : ∃ s, s = d.steps := ⟨_, rfl⟩
  obtain ⟨l, hl⟩ : ∃ l, l = d.left := ⟨_, rfl⟩
  obtain ⟨o, ho⟩ : ∃ o, o = d.off := ⟨_, rfl⟩
  have hr := hd.row
  rw [← hs, ← hl, ← ho] at hr
  have HR : Hid (Row w g (drow kv mb s l o) 47) := hr
  have HN : Hid (∀ _ : Unit, d.n = n ∧ d.steps = s ∧ d.left = l ∧ d.off = o) := fun _ => ⟨hn.symm, hs.symm, hl.symm, ho.symm⟩
  have HO : Hid (∀ v ∈ drow kv mb s l o, v.oneCell' = true) := by
    obtain ⟨p, cap, h1⟩ := hd.kept.slice
    show ∀ v ∈ drow kv mb s l o, v.oneCell' = true
    intro v hv
    simp only [drow, List.mem_cons, List.not_mem_nil, or_false] at hv
    rcases hv with rfl | rfl | rfl | rfl | rfl
    · rw [h1]; rfl
    · rfl
    · rfl
    · rfl
    · rfl
  clear hd hr hn hs hl ho
  go_enter Try.func18, Try.ntmps18
  go_wp2_with (first
    | ((with_reducible refine at_op (some 6) (.load 47 (.tmp 5)) ?_); go_must (refine wpl_ldw 0 (Mem.enter HR.out) rfl rfl _ un_dsk rfl 5 sz_dsk rfl ?_))
    | ((with_reducible refine at_op (some 3) (.alloc 47) ?_); go_must (refine wpl_alloc _ zero_dsk hm ?_); intro w1 g' hq; clear hm; have hm := hq; clear hq)
    | ((with_reducible refine at_op none (.store 47 (.tmp 3) (.tmp 6)) ?_); go_must (refine wpl_stw 0 (drow kv mb s l o) hm rfl rfl rfl 5 sz_dsk rfl rfl HO.out ?_); intro w2 hq; clear hm; have hm : Mem w [] w2 [(g', drow kv mb s l o, 47)] := hq; clear hq)
    | ((with_reducible refine at_op (some 10) (.load 44 (.tmp 9)) ?_); go_must (refine wpl_ldr 0 kv (DkAt.row (DkAt.mem HD.out hm)) rfl ag_cons rfl ?_)))
  go_at_call 31
  refine (cloneK kv d.n d.kept HD.out.ok.n HD.out.ok.kept _ (DkAt.kept (DkAt.mem HD.out hm))).mono ?_
  rintro e w3 ⟨v, he, hk3, hf3, hb3⟩
  have hg2 := (hm.get 0 rfl).lt
  have hw2 := hm.size
  have HV : Hid (∃ p c, v = .slice p d.n c) := hk3.slice
  obtain ⟨p3, c3, hv3⟩ := HV.out
  clear HV
  rw [(HN.out ()).1] at hv3
  have HK3 : Hid (KeptAt w3 v d.n d.kept) := hk3
  have HF3 : Hid (∀ k ∈ kbOf v, w.heap.size ≤ k ∧ k ≠ g') := fun k hk => by have := hf3 k hk; exact ⟨by omega, by omega⟩
  have HV3 : Hid (∀ _ : Unit, v.cells = #[v] ∧ v.oneCell' = true) := fun _ => by rw [hv3]; exact ⟨rfl, rfl⟩
  replace hm := hm.call hb3
  subst he
  clear hk3 hf3 hb3 hv3 hg2 hw2
  go_wp2_with (first
    | ((with_reducible refine at_op none (.store 44 (.tmp 12) (.tmp 11)) ?_); go_must (refine wpl_stc 0 0 v (Mem.enter (hm.get 0 rfl)) rfl rfl rfl sz_cons (by simp [drow]) (HV3.out ()).1 (HV3.out ()).2 ?_); intro w4 hq; have HK4 : Hid (KeptAt w4 v d.n d.kept) := KeptAt.keep HK3.out (fun k hk => hq.toUpd.block k (KeptAt.lt HK3.out k hk) (HF3.out k hk).2); have hm4 := hm.upd 0 rfl hq.toUpd (hq.get 0 rfl); clear hm; have hm : Mem w [] w4 [(g', drow v mb s l o, 47)] := hm4; clear hq HK3 hm4)
    | ((with_reducible refine at_op (some 16) (.load 45 (.tmp 15)) ?_); go_must (refine wpl_ldr 1 (.map (some mb)) (DkAt.row (DkAt.mem HD.out hm)) rfl ag_cmap rfl ?_)))
  obtain ⟨qn, D, hown, pm⟩ := (DkAt.mem HD.out hm).map
  have HPM : Hid (PM D d.pend) := pm
  obtain ⟨es, ck, hb, F, hs, hD⟩ := hown
  have HOW : Hid (∀ V : World, ∀ m : Nat, V.heap[m]? = some (.map es ck) → V.ownsMap Try.prog 3 rdV m qn D) := fun V m hV => ⟨es, ck, hV, F, hs, hD⟩
  clear pm F hs hD
  go_at_call 32
  refine (cloneM mb es ck _ hb).mono ?_
  rintro e w5 ⟨he, hw5⟩
  obtain ⟨m', hm'⟩ : ∃ x, x = w4.heap.size := ⟨_, rfl⟩
  rw [← hm'] at he
  have hb5 : Below w4.heap.size w4 w5 := by rw [hw5]; exact (Below.refl _ _).alloc (Nat.le_refl _) _
  have H5 : Hid (w5.heap[m']? = some (.map es ck)) := by show _ = _; rw [hw5, hm']; exact (MapKept.heap_alloc w4 _).1
  have hgm : g' < m' := by rw [hm']; exact (hm.get 0 rfl).lt
  have hwm : w.heap.size ≤ m' := by rw [hm']; exact hm.size
  have HK5 : Hid (KeptAt w5 v d.n d.kept) := KeptAt.below' HK4.out hb5
  replace hm := hm.call hb5
  subst he
  clear hb hb5 hw5 hm' HK4
  go_wp2_with (first
    | ((with_reducible refine at_op none (.store 45 (.tmp 18) (.tmp 17)) ?_); go_must (refine wpl_stc 0 1 (.map (some m')) (Mem.enter (hm.get 0 rfl)) rfl rfl rfl sz_cmap (by simp [drow]) rfl rfl ?_); intro w6 hq; have HK6 : Hid (KeptAt w6 v d.n d.kept) := KeptAt.keep HK5.out (fun k hk => hq.toUpd.block k (KeptAt.lt HK5.out k hk) (HF3.out k hk).2); have H6 : Hid (w6.heap[m']? = some (.map es ck)) := (hq.toUpd.block m' (Array.getElem?_eq_some_iff.1 H5.out).1 (by omega)).trans H5.out; have hm6 := hm.upd 0 rfl hq.toUpd (hq.get 0 rfl); clear hm; have hm : Mem w [] w6 [(g', drow v m' s l o, 47)] := hm6; clear hq HK5 H5 hm6))
  go_ret
  refine ⟨g', m', v, rfl, ⟨HD.out.ok, ?_, HK6.out, qn, D, HOW.out _ _ H6.out, HPM.out⟩, ?_, hm.below⟩
  · rw [(HN.out ()).2.1, (HN.out ()).2.2.1, (HN.out ()).2.2.2]
    exact hm.get 0 rfl
  · intro k hk
    have hf := hm.fresh _ (List.mem_cons_self ..)
    simp only [List.not_mem_nil, false_or] at hf
    simp only [foot, List.mem_cons] at hk
    rcases hk with rfl | rfl | hk
    · exact hf
    · exact hwm
    · exact (HF3.out k hk).1
end Go.Proofs.Ytbaijhlkkeongaa
