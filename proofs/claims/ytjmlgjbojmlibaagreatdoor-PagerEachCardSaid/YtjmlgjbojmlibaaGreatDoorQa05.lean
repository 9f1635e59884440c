import Derived.Test.YtjmlgjbojmlibaaGreatDoorQa04
import Derived.Test.YtjmlgjbojmlibaaGreatDoorQa01
set_option maxRecDepth 100000
namespace Go.Proofs.YtjmlgjbojmlibaaGreatDoor
open Go Go.RowKit
theorem info_key : (Tryz.prog.info? 44).map (fun i => (i.zero, i.size)) = some (some (.agg (u8s (List.replicate 32 0)).toArray), 32) := by kernel_rfl
theorem zero_key : ∀ w, (zeroValue 44).run Tryz.prog w = .ok (.agg (u8s (List.replicate 32 0)).toArray) w := (zero_of_info info_key).1
theorem sz_key : (Tryz.prog.info? 44).map (·.size) = some 32 := (zero_of_info info_key).2
theorem un_key : Tryz.prog.underlying 44 = some (.array 32 5) := Tryz.underlying44
theorem info_beg : (Tryz.prog.info? 217).map (fun i => (i.zero, i.size)) = some (some (.agg ([.pointer none, .pointer none] : List Value).toArray), 2) := by kernel_rfl
theorem zero_beg : ∀ w, (zeroValue 217).run Tryz.prog w = .ok (.agg ([.pointer none, .pointer none] : List Value).toArray) w := (zero_of_info info_beg).1
theorem sz_beg : (Tryz.prog.info? 217).map (·.size) = some 2 := (zero_of_info info_beg).2
theorem un_beg : Tryz.prog.underlying 217 = some (Tryz.prog.underlying 217).get! := by kernel_rfl
theorem ag_hp : ∀ w, (isAgg 215).run Tryz.prog w = .ok false w := by intro w; simp [go_sem]
theorem un_bss : Tryz.prog.underlying 71 = some (.slice 29) := Tryz.underlying71
theorem info_bs : (Tryz.prog.info? 29).map (fun i => (i.zero, i.size)) = some (some (.slice none 0 0), 1) := by kernel_rfl
theorem info_u8 : (Tryz.prog.info? 5).map (fun i => (i.zero, i.size)) = some (some (.int .u8 0), 1) := by kernel_rfl
theorem sl_all {w : World} {g r n cap : Nat} {l : List Int} {t : TypeId} (hr : Row w r (u8s l) t) (hne : r ≠ g) (hn : l.length = n) (h2 : n ≤ cap) : Sl w g (.slice (some ⟨r, 0, none⟩) n cap) l :=
  ⟨_, cap, by rw [hn], by rw [hn]; exact h2, fun _ => ⟨r, 0, rfl, hne, Seg.row hr⟩⟩
theorem old_all {w : World} {r n cap : Nat} {l : List Int} {t : TypeId} (hr : Row w r (u8s l) t) (hn : l.length = n) (h2 : n ≤ cap) : SlOld w (.slice (some ⟨r, 0, none⟩) n cap) l :=
  ⟨_, cap, by rw [hn], by rw [hn]; exact h2, fun _ => ⟨r, 0, rfl, Seg.row hr⟩⟩
theorem SlOld.len {w : World} {v : Value} {cs : List Int} (h : SlOld w v cs) : ∃ p cap, v = .slice p cs.length cap ∧ cs.length ≤ cap := by
  obtain ⟨p, cap, h1, h2, _⟩ := h
  exact ⟨p, cap, h1, h2⟩
theorem SlOld.below {w w' : World} {v : Value} {cs : List Int} (h : SlOld w v cs) (hb : Below w.heap.size w w') : SlOld w' v cs := by
  obtain ⟨p, cap, hv, hc, hs⟩ := h
  refine ⟨p, cap, hv, hc, fun h0 => ?_⟩
  obtain ⟨b, off, hp, hseg⟩ := hs h0
  exact ⟨b, off, hp, hseg.below hb⟩
theorem SlOld.src0 {w : World} {p : Option Addr} {n c : Nat} {cs : List Int} (h : SlOld w (.slice p n c) cs) : n = cs.length ∧ n ≤ c ∧ (0 < cs.length → ∃ b off, p = some ⟨b, off, none⟩ ∧ Seg w b off cs) := by
  obtain ⟨q, d, hv, hd, hs⟩ := h
  simp only [Value.slice.injEq] at hv
  obtain ⟨rfl, rfl, rfl⟩ := hv
  exact ⟨rfl, hd, hs⟩
section
variable {P : Program} {ops : Array Oper} {rest : List Oper} {a : Act} {w w0 : World} {Q : Exit → Act → World → Prop} {dst : Option Tmp} {typ : TypeId} {pos : String} {aft : Array Edge} {gd : Option (Nat × Bool)} {S : List Nat} {rows : List (Nat × List Value × TypeId)}
/-- Bytes copied into a row of the call's own, out of a slice that may be empty. -/
theorem wpl_cp {d s : Operand} {dT sT : TypeId} (i : Nat) {g : Nat} {l : List Value} {t : TypeId} {off dLen dCap : Nat} {p : Option Addr} {sLen sCap : Nat} (cs : List Int) (n : Nat) (new : List Value) (hm : Mem w0 S w rows) (hi : rows[i]? = some (g, l, t))
    (hd : a.eval d = .slice (some ⟨g, off, none⟩) dLen dCap) (hs : a.eval s = .slice p sLen sCap) (elem : TypeId) (hu : P.underlying dT = some (.slice elem)) (hsz : (P.info? elem).map (·.size) = some 1)
    (hold : SlOld w (.slice p sLen sCap) cs) (hn : n = Nat.min sLen dLen) (hfit : off + n ≤ l.length) (hnew : splice l off (u8s (cs.take n)) = new)
    (h : ∀ w', Mem w0 S w' (rows.set i (g, new, t)) → wpList P ops Q rest (a.put dst (.int .i64 n)) w') :
    wpList P ops Q ({ dst := dst, op := .call { callee := .builtin .copy, args := #[d, s], argTypes := #[dT, sT] }, type := typ, pos := pos, after := aft, guard := none } :: rest) a w := by
  obtain ⟨hl, hc, hsrc⟩ := hold.src0
  have hle : n ≤ cs.length := by rw [hn, ← hl]; exact Nat.min_le_left _ _
  have htl : (cs.take n).length = n := by simp; omega
  by_cases h0 : 0 < n
  · obtain ⟨b, o, rfl, hseg⟩ := hsrc (by omega)
    exact wpl_copyN i off dLen dCap ⟨b, o, none⟩ sLen sCap (u8s (cs.take n)) n new hm hi hd hs elem hu hsz (by rw [u8s_length, htl]) hn (hseg.take n).src hfit (u8s_one _) hnew h
  · have hn0 : n = 0 := by omega
    subst hn0
    have hnew' : l = new := by rw [← hnew]; simp [splice, u8s]
    subst hnew'
    have hset : rows.set i (g, l, t) = rows := by
      have hlt : i < rows.length := (List.getElem?_eq_some_iff.1 hi).1
      have hge : rows[i] = (g, l, t) := (List.getElem?_eq_some_iff.1 hi).2
      rw [← hge, List.set_getElem_self]
    rw [hset] at h
    refine wpList_plain rfl fun K hK => ?_
    have hh := hK _ _ (h _ hm)
    have hrun : (Builtin.copy_ #[dT, sT] typ #[.slice (some ⟨g, off, none⟩) dLen dCap, .slice p sLen sCap]).run P w = .ok (goInt 0) w := by
      have hz : Nat.min sLen dLen = 0 := hn.symm
      have hld : ∀ a : Addr, (loadCells a 0).run P w = .ok #[] w := fun a => rfl
      cases hq : P.info? elem with
      | none => simp [hq] at hsz
      | some q =>
        cases p <;> simp [Builtin.copy_, run_underlying hu, Builtin.lenOf, Builtin.firstCells, sizeOf, typeInfo, hq, storeCells, hz, hld]
    unfold Oper.wp execOp
    simp only [resolve, invoke, builtin, Sem.run_bind, Sem.run_pure, Result.andThen_ok, List.map_toArray, List.map_cons, List.map_nil, hd, hs, hrun]
    exact hh
theorem run_bsl1 (w : World) {t elem : TypeId} (z v : Value) (hu : P.underlying t = some (.slice elem)) (hi : (P.info? elem).map (fun i => (i.zero, i.size)) = some (some z, 1)) (hz : z.cells = #[z]) (hv : v.cells = #[v]) :
    (Instr.buildSlice t 1 #[(0, v)]).run P w = .ok (.slice (some ⟨w.heap.size, 0, none⟩) 1 1) (w.alloc (.cells [v].toArray elem)) := by
  obtain ⟨hz1, hs1⟩ := zero_of_info hi
  cases hq : P.info? elem with
  | none => simp [hq] at hi
  | some q =>
    have hs : q.size = 1 := by simpa [hq] using hs1
    have e : Array.map (fun x => ([z][x % 1]?).getD default) (Array.range 1) = #[z] := by
      apply Array.ext
      · simp
      · intro i h1 h2
        have h3 : i = 0 := by simpa using h2
        subst h3
        simp
    simp [Instr.buildSlice, run_underlying hu, sizeOf, typeInfo, hq, hs, hz1, hz, Instr.fill, hv, newRow, newObj]
    rw [e]
    rfl
theorem run_bsl3 (w : World) {t elem : TypeId} (z v0 v1 v2 : Value) (hu : P.underlying t = some (.slice elem)) (hi : (P.info? elem).map (fun i => (i.zero, i.size)) = some (some z, 1)) (hz : z.cells = #[z]) (h0 : v0.cells = #[v0]) (h1 : v1.cells = #[v1]) (h2 : v2.cells = #[v2]) :
    (Instr.buildSlice t 3 #[(0, v0), (1, v1), (2, v2)]).run P w = .ok (.slice (some ⟨w.heap.size, 0, none⟩) 3 3) (w.alloc (.cells [v0, v1, v2].toArray elem)) := by
  obtain ⟨hz1, hs1⟩ := zero_of_info hi
  cases hq : P.info? elem with
  | none => simp [hq] at hi
  | some q =>
    have hs : q.size = 1 := by simpa [hq] using hs1
    have e : Array.map (fun x => ([z][x % 1]?).getD default) (Array.range 3) = #[z, z, z] := by
      apply Array.ext
      · simp
      · intro i h1 h2
        have h3 : i = 0 ∨ i = 1 ∨ i = 2 := by
          have : i < 3 := by simpa using h2
          omega
        rcases h3 with rfl | rfl | rfl <;> simp
    simp [Instr.buildSlice, run_underlying hu, sizeOf, typeInfo, hq, hs, hz1, hz, Instr.fill, h0, h1, h2, newRow, newObj]
    rw [e]
    rfl
theorem wpl_bsl1 {t elem : TypeId} {x : Operand} (hw : Region.wanted { dst := dst, op := .buildSlice t 1 #[(0, x)], type := typ, pos := pos, after := aft, guard := gd } (yielded ops a.tmps) = true) (z v : Value) (hu : P.underlying t = some (.slice elem)) (hi : (P.info? elem).map (fun i => (i.zero, i.size)) = some (some z, 1)) (hz : z.cells = #[z]) (hx : a.eval x = v) (hv : v.cells = #[v]) (hm : Mem w0 S w rows)
    (h : ∀ w' g, Below w.heap.size w w' → Mem w0 S w' ((g, [v], elem) :: rows) → wpList P ops Q rest (a.put dst (.slice (some ⟨g, 0, none⟩) 1 1)) w') :
    wpList P ops Q ({ dst := dst, op := .buildSlice t 1 #[(0, x)], type := typ, pos := pos, after := aft, guard := gd } :: rest) a w := by
  refine wpList_step fun K hK => ?_
  rw [if_pos hw]
  have hh := hK _ _ (h _ _ ((Below.refl _ _).alloc (Nat.le_refl _) _) (hm.alloc [v] elem))
  unfold Oper.wp execOp
  simp only [List.map_toArray, List.map_cons, List.map_nil, hx, run_bsl1 (P := P) w z v hu hi hz hv, Sem.run_bind, Sem.run_pure, Result.andThen_ok]
  exact hh
theorem wpl_bsl3 {t elem : TypeId} {x y u : Operand} (z v0 v1 v2 : Value) (hu : P.underlying t = some (.slice elem)) (hi : (P.info? elem).map (fun i => (i.zero, i.size)) = some (some z, 1)) (hz : z.cells = #[z]) (hx : a.eval x = v0) (hy : a.eval y = v1) (hv : a.eval u = v2) (h0 : v0.cells = #[v0]) (h1 : v1.cells = #[v1]) (h2 : v2.cells = #[v2]) (hm : Mem w0 S w rows)
    (h : ∀ w' g, Below w.heap.size w w' → Mem w0 S w' ((g, [v0, v1, v2], elem) :: rows) → wpList P ops Q rest (a.put dst (.slice (some ⟨g, 0, none⟩) 3 3)) w') :
    wpList P ops Q ({ dst := dst, op := .buildSlice t 3 #[(0, x), (1, y), (2, u)], type := typ, pos := pos, after := aft, guard := none } :: rest) a w := by
  refine wpList_plain rfl fun K hK => ?_
  have hh := hK _ _ (h _ _ ((Below.refl _ _).alloc (Nat.le_refl _) _) (hm.alloc [v0, v1, v2] elem))
  unfold Oper.wp execOp
  simp only [List.map_toArray, List.map_cons, List.map_nil, hx, hy, hv, run_bsl3 (P := P) w z v0 v1 v2 hu hi hz h0 h1 h2, Sem.run_bind, Sem.run_pure, Result.andThen_ok]
  exact hh
end
theorem wpl_stwV {P : Program} {ops : Array Oper} {rest : List Oper} {a : Act} {w : World} {typ : TypeId} {pos : String} {aft : Array Edge} {Q : Exit → Act → World → Prop} {w0 : World} {S : List Nat} {rows : List (Nat × List Value × TypeId)} {ty : TypeId} {x y : Operand} (i : Nat) {g : Nat} {l : List Value} {t : TypeId} (l' : List Value) (hm : Mem w0 S w rows) (hi : rows[i]? = some (g, l, t)) (hx : a.eval x = .pointer (some ⟨g, 0, none⟩))
    (hy : a.eval y = .agg l'.toArray) (n : Nat) (hs : (P.info? ty).map (·.size) = some n) (hn : l.length = n) (hn' : l'.length = n) (h1 : ∀ v ∈ l', v.oneCell' = true)
    (h : ∀ w', Upd g w w' → Mem w0 S w' (rows.set i (g, l', t)) → wpList P ops Q rest a w') :
    wpList P ops Q ({ dst := none, op := .store ty x y, type := typ, pos := pos, after := aft, guard := none } :: rest) a w := by
  refine wpList_plain rfl fun K hK => ?_
  have hr := hm.get i hi
  have hh := hK _ _ (h _ (Upd.setRow g w l'.toArray) (hm.upd i hi (Upd.setRow g w l'.toArray) (hr.setRow l')))
  unfold Oper.wp execOp
  simp only [hx, hy, Instr.storeAt, Instr.sureAddr, Sem.run_bind, Sem.run_pure, Result.andThen_ok,
    run_storeVar_row w g t ty l.toArray l'.toArray hr (by rw [hs]; simp [hn']) (by simp [hn, hn']) (by simpa using h1)]
  exact hh
theorem Mem.callNew2 {w0 w w' : World} {S : List Nat} {rows : List (Nat × List Value × TypeId)} (hm : Mem w0 S w rows) (hb : Below w.heap.size w w') {g h : Nat} {l k : List Value} {t u : TypeId} (hr : Row w' g l t) (hq : Row w' h k u) (hg : w.heap.size ≤ g) (hh : w.heap.size ≤ h) (hne : g ≠ h) : Mem w0 S w' ((g, l, t) :: (h, k, u) :: rows) := by
  have h1 := hm.callNew hb hq hh
  refine ⟨h1.os, h1.tape, h1.output, h1.size, h1.block, ?_, ?_, ?_⟩
  · intro r hr'
    rcases List.mem_cons.1 hr' with rfl | hr'
    · exact hr
    · exact h1.row r hr'
  · simp only [List.map_cons, List.nodup_cons]
    refine ⟨fun hc => ?_, by simpa using h1.nodup⟩
    rcases List.mem_cons.1 hc with hc | hc
    · exact hne hc
    · obtain ⟨r, hr', he⟩ := List.mem_map.1 hc
      have := (hm.row r hr').lt
      omega
  · intro r hr'
    rcases List.mem_cons.1 hr' with rfl | hr'
    · exact Or.inr (Nat.le_trans hm.size hg)
    · exact h1.fresh r hr'
theorem splice_zeros (cs : List Int) (n : Nat) : splice (u8s (List.replicate n 0)) 0 (u8s cs) = u8s (cs ++ List.replicate (n - cs.length) 0) := by
  simp [splice, u8s, List.drop_replicate]
theorem splice_zero (cs : List Int) : splice (u8s (List.replicate 64 0)) 0 (u8s (cs.take cs.length)) = u8s (cs ++ List.replicate (64 - cs.length) 0) := by
  rw [List.take_of_length_le (Nat.le_refl _)]
  exact splice_zeros cs 64
set_option maxHeartbeats 1000000 in
theorem filled_any (cs : List Int) (v : Value) (hbc : Bytes cs) (hlen : cs.length ≤ 1099511627776) (w : World) (ht : Tab w) (hv : SlOld w v cs) :
    Calls Tryz.prog 168 #[v] w fun e w' => e = .returned (.agg (u8s (fillOf cs)).toArray) ∧ Below w.heap.size w w' := by
  obtain ⟨p, cap, rfl, hcap⟩ := hv.len
  have hm := Mem.start w
  have HT : Hid _ := ht
  have HB : Hid _ := hbc
  have HV : Hid (SlOld w (.slice p cs.length cap) cs) := hv
  have hfl : (u8s (fillOf cs)).length = 64 := by rw [u8s_length, fillOf_length]
  have HFL : Hid _ := hfl
  clear ht hbc hv hfl
  by_cases h64 : cs.length ≤ 64
  · have h64i : (cs.length : Int) ≤ 64 := by omega
    have hne : splice (u8s (List.replicate 64 0)) 0 (u8s (cs.take cs.length)) = u8s (fillOf cs) := by rw [splice_zero cs, fillOf, keyCut, if_pos h64]
    have HNE : Hid _ := hne
    clear hne
    go_enter Tryz.func168, Tryz.ntmps168
    go_wp2_with (first
      | ((with_reducible refine at_op (some 2) (.alloc 112) ?_); refine wpl_alloc _ zero_b64 hm ?_; clear hm; intro w1 g2 hm)
      | ((with_reducible refine at_op (some 3) (.alloc 112) ?_); refine wpl_alloc _ zero_b64 hm ?_; clear hm; intro w2 g3 hm)
      | ((with_reducible refine at_op (some 10) (.call { callee := .builtin .copy, args := #[.tmp 8, .tmp 9], argTypes := #[29, 29] }) ?_); refine wpl_cp 0 cs cs.length (u8s (fillOf cs)) hm rfl rfl rfl _ un_bs sz_u8 (SlOld.mem HV.out hm) (Nat.min_eq_left h64).symm (by simp [u8s_length]; omega) HNE.out ?_; clear hm; intro w3 hm)
      | ((with_reducible refine at_op (some 11) (.load 112 (.tmp 3)) ?_); refine wpl_ldw 0 hm rfl rfl _ un_b64 rfl 64 sz_b64 (HFL.out) ?_)
      | ((with_reducible refine at_op none (.store 112 (.tmp 2) (.tmp 11)) ?_); refine wpl_stw 1 (u8s (fillOf cs)) hm rfl rfl rfl 64 sz_b64 (by simp [u8s_length]) (HFL.out) (u8s_one _) ?_; clear hm; intro w4 hm))
    exact ret_cell 1 hm rfl Tryz.results168 rfl _ un_b64 rfl 64 sz_b64 HFL.out rfl ⟨rfl, hm.below⟩
  · have h64i : ¬ (cs.length : Int) ≤ 64 := by omega
    have hne : splice (u8s (List.replicate 64 0)) 0 (u8s ((shaOf cs).take 32)) = u8s (fillOf cs) := by
      have := splice_zero (shaOf cs)
      rw [shaOf_length] at this
      rw [this, fillOf, keyCut, if_neg h64, shaOf_length]
    have HNE : Hid _ := hne
    clear hne
    go_enter Tryz.func168, Tryz.ntmps168
    go_wp2_with (first
      | ((with_reducible refine at_op (some 2) (.alloc 112) ?_); refine wpl_alloc _ zero_b64 hm ?_; clear hm; intro w1 g2 hm)
      | ((with_reducible refine at_op (some 3) (.alloc 112) ?_); refine wpl_alloc _ zero_b64 hm ?_; clear hm; intro w2 g3 hm)
      | (go_at_call 184; refine (sum_any cs _ HB.out hlen _ (Tab.mem HT.out hm (by simp)) (SlOld.mem HV.out hm)).mono ?_; rintro e w3 ⟨rfl, hb⟩; replace hm := hm.call hb; clear hb)
      | ((with_reducible refine at_op (some 4) (.alloc 43) ?_); refine wpl_alloc _ zero_b32 hm ?_; clear hm; intro w4 g4 hm)
      | ((with_reducible refine at_op none (.store 43 (.tmp 4) (.tmp 13)) ?_); refine wpl_stw 0 (u8s (shaOf cs)) hm rfl rfl rfl 32 sz_b32 (by simp [u8s_length]) (by rw [u8s_length, shaOf_length]) (u8s_one _) ?_; clear hm; intro w5 hm))

    refine wp_tail 2 (by kernel_rfl) (by kernel_rfl) hm ?_
    clear hm
    intro w6 hm
    simp only [List.take_succ_cons, List.take_zero, List.drop_succ_cons, List.drop_zero]
    still_step
    still_step
    refine wpStill_nil ?_
    go_wp2_with (first
      | ((with_reducible refine at_op (some 16) (.call { callee := .builtin .copy, args := #[.tmp 14, .tmp 15], argTypes := #[29, 29] }) ?_); refine wpl_cp 1 (shaOf cs) 32 (u8s (fillOf cs)) hm rfl rfl rfl _ un_bs sz_u8 (old_all (hm.get 0 rfl) (shaOf_length _) (Nat.le_refl _)) rfl (by simp [u8s_length]) HNE.out ?_; clear hm; intro w7 hm)
      | ((with_reducible refine at_op (some 17) (.load 112 (.tmp 3)) ?_); refine wpl_ldw 1 hm rfl rfl _ un_b64 rfl 64 sz_b64 (HFL.out) ?_)
      | ((with_reducible refine at_op none (.store 112 (.tmp 2) (.tmp 17)) ?_); refine wpl_stw 2 (u8s (fillOf cs)) hm rfl rfl rfl 64 sz_b64 (by simp [u8s_length]) (HFL.out) (u8s_one _) ?_; clear hm; intro w8 hm))
    exact ret_cell 2 hm rfl Tryz.results168 rfl _ un_b64 rfl 64 sz_b64 HFL.out rfl ⟨rfl, hm.below⟩
set_option maxHeartbeats 1000000 in
theorem hashOf_any (b : List Int) (p : Int) (hbl : b.length = 64) (hbb : Bytes b) (hp : 0 ≤ p ∧ p < 256) (w : World) (ht : Tab w) :
    Calls Tryz.prog 183 #[.agg (u8s b).toArray, .int .u8 p] w fun e w' => ∃ g, e = .returned (.pointer (some ⟨g, 0, none⟩)) ∧ w.heap.size ≤ g ∧ Row w' g (hrow (wsOf (xorB b p)) (restOf (xorB b p)) ((xorB b p).length : Int)) 254 ∧ Below w.heap.size w w' := by
  have hm := Mem.start w
  have HT : Hid _ := ht
  have HB : Hid _ := hbb
  have HL : Hid _ := hbl
  have HX : Hid _ := xorB_bytes hbb hp
  clear ht hbb hbl
  go_enter Tryz.func183, Tryz.ntmps183
  go_wp2_with (first
    | ((with_reducible refine at_op (some 2) (.box 112 (.tmp 0)) ?_); refine wpl_box (u8s b) rfl hm ?_; clear hm; intro w1 g2 hm))

  go_loopw [7] (fun vi wr => ∃ k : Nat, k ≤ 64 ∧ vi = .int .i64 k ∧ Mem w [] wr [(g2, u8s (xorUpto b p k), 112)]) (fun vi _ => 64 - (intOf vi).toNat)
  case atStart => exact ⟨0, by omega, rfl, hm⟩
  case round =>
    clear hm
    obtain ⟨k, hk, rfl, hm⟩ := hrel
    by_cases hlt : k < 64
    · obtain ⟨c, hc⟩ : ∃ c, c = b.getD k 0 := ⟨_, rfl⟩
      have hln : (u8s (xorUpto b p k)).length = 64 := by rw [u8s_length, xorUpto_length, HL.out]
      have hvc : (u8s (xorUpto b p k))[k]? = some (.int .u8 c) := by rw [u8s_get _ _ (by rw [xorUpto_length, HL.out]; exact hlt), xorUpto_get _ _ _ (by rw [HL.out]; exact hlt), hc]
      have hst : (u8s (xorUpto b p k)).set k (.int .u8 (bits .xor .u8 c p)) = u8s (xorUpto b p (k + 1)) := by rw [u8s_set, hc, xorUpto_set _ _ _ (by rw [HL.out]; exact hlt)]
      have HV : Hid _ := hvc
      have HS : Hid _ := hst
      have HLN : Hid _ := hln
      clear hvc hst hln hc
      go_wp2_with (first
        | ((with_reducible refine at_op (some 12) (.load 5 (.tmp 11)) ?_); refine wpl_ldc 0 k (.int .u8 c) hm rfl rfl ag_u8 (HV.out) ?_)
        | ((with_reducible refine at_op none (.store 5 (.tmp 15) (.tmp 14)) ?_); refine wpl_stc 0 k (.int .u8 (bits .xor .u8 c p)) hm rfl (rfl) rfl sz_u8 (by rw [HLN.out]; omega) rfl rfl ?_; clear hm; intro w3 hm))

      have hn : Mem w [] w3 [(g2, u8s (xorUpto b p (k + 1)), 112)] := by
        rw [HS.out] at hm
        exact hm
      clear hm
      go_roundw
      case rel => exact ⟨k + 1, by omega, by go_num, hn⟩
      case measure => simp [intOf]; omega
    · have hk64 : k = 64 := by omega
      subst hk64
      rw [xorUpto_full b p 64 (by rw [HL.out]; omega)] at hm
      have hxl : (xorB b p).length = 64 := by rw [xorB_length, HL.out]
      have HXL : Hid _ := hxl
      clear hxl
      go_wp2_with (first
        | (go_at_call 195; refine (new_any _).mono ?_; rintro e w4 ⟨g, rfl, hge, hr, hb⟩; rw [new_row] at hr; have HGT : Hid _ := Nat.ne_of_lt (Nat.lt_of_lt_of_le (Tab.lt (Tab.mem HT.out hm (by simp))) hge); replace hm := hm.callNew hb hr hge; clear hb hr hge)
        | (go_at_call 174; refine (write_any g [] (xorB b p) _ bytes_none HX.out (by have := HXL.out; simp; omega) _ (Tab.mem HT.out hm (by simp)) HGT.out (hm.get 0 rfl) (sl_all (hm.get 1 rfl) (fun h => hm.ne 0 rfl h.symm) HXL.out (Nat.le_refl _))).mono ?_; rintro e w5 ⟨rfl, hr, hu⟩; replace hm := hm.upd 0 rfl hu hr; clear hr hu))

      go_ret
      have hf := hm.fresh _ (List.mem_cons_self ..)
      exact ⟨g, rfl, by simpa using hf, hm.get 0 rfl, hm.below⟩
end Go.Proofs.YtjmlgjbojmlibaaGreatDoor
namespace Go.Proofs.YtjmlgjbojmlibaaGreatDoor
open Go Go.RowKit
def begV (gi go : Nat) : List Value := [.pointer (some ⟨gi, 0, none⟩), .pointer (some ⟨go, 0, none⟩)]
set_option maxHeartbeats 1000000 in
theorem begin_any (b : List Int) (hbl : b.length = 64) (hbb : Bytes b) (w : World) (ht : Tab w) :
    Calls Tryz.prog 167 #[.agg (u8s b).toArray] w fun e w' => ∃ gi go, e = .returned (.agg (begV gi go).toArray) ∧ w.heap.size ≤ gi ∧ w.heap.size ≤ go ∧ gi ≠ go ∧ Row w' gi (hrow (wsOf (xorB b 54)) (restOf (xorB b 54)) ((xorB b 54).length : Int)) 254 ∧ Row w' go (hrow (wsOf (xorB b 92)) (restOf (xorB b 92)) ((xorB b 92).length : Int)) 254 ∧ Below w.heap.size w w' := by
  have hm := Mem.start w
  have HT : Hid _ := ht
  have HB : Hid _ := hbb
  have HL : Hid _ := hbl
  clear ht hbb hbl
  go_enter Tryz.func167, Tryz.ntmps167
  go_wp2_with (first
    | ((with_reducible refine at_op (some 1) (.box 112 (.tmp 0)) ?_); refine wpl_box (u8s b) rfl hm ?_; clear hm; intro w1 g1 hm)
    | ((with_reducible refine at_op (some 2) (.alloc 217) ?_); refine wpl_alloc _ zero_beg hm ?_; clear hm; intro w2 g2 hm))

  refine wp_ends0 ?_
  refine anyH_start (T := fun W => Mem w [] W [(g1, u8s b, 112)]) (by kernel_rfl) hm ?_
  clear hm
  intro w3 hm
  refine anyH_take 0 (v := .agg (u8s b).toArray) rfl (by kernel_rfl) (by kernel_rfl) (by kernel_rfl) rfl (fun W hW => exec_lds 0 _ (Mem.get hW 0 rfl) rfl _ un_b64 rfl 64 sz_b64 (by rw [u8s_length, HL.out]; omega) (by rw [List.drop_zero, List.take_of_length_le (by rw [u8s_length]; exact Nat.le_of_eq HL.out)])) hm.tail ?_
  go_simp
  refine anyH_take 2 (v := .agg (u8s b).toArray) rfl (by kernel_rfl) (by kernel_rfl) (by kernel_rfl) rfl (fun W hW => exec_lds 0 _ (Mem.get hW 0 rfl) rfl _ un_b64 rfl 64 sz_b64 (by rw [u8s_length, HL.out]; omega) (by rw [List.drop_zero, List.take_of_length_le (by rw [u8s_length]; exact Nat.le_of_eq HL.out)])) hm.tail ?_
  go_simp
  refine wpAnyH_all (rs := [1]) (by kernel_rfl) (by simp) ?_
  intro i hi
  simp only [List.mem_cons, List.not_mem_nil, or_false] at hi
  subst hi
  refine anyH_op 1 rfl rfl ?_
  intro K hK
  go_wp2_with (go_at_call 183; refine (hashOf_any b 54 HL.out HB.out (by omega) _ (Tab.mem HT.out hm (by simp))).mono ?_; rintro e w4 ⟨gi, rfl, hgi, hri, hb⟩; replace hm := hm.callNew hb hri hgi; clear hb hgi hri)
  refine hK _ _ hm.tail.tail ?_
  clear hK K
  refine wpAnyH_all (rs := [3]) (by kernel_rfl) (by simp) ?_
  intro i hi
  simp only [List.mem_cons, List.not_mem_nil, or_false] at hi
  subst hi
  refine anyH_op 3 rfl rfl ?_
  intro K hK
  go_wp2_with (go_at_call 183; refine (hashOf_any b 92 HL.out HB.out (by omega) _ (Tab.mem HT.out hm (by simp))).mono ?_; rintro e w5 ⟨go, rfl, hgo, hro, hb⟩; replace hm := hm.callNew hb hro hgo; clear hb hgo hro)
  refine hK _ _ hm.tail.tail.tail ?_
  clear hK K
  refine wpAnyH_all (rs := [4]) (by kernel_rfl) (by simp) ?_
  intro i hi
  simp only [List.mem_cons, List.not_mem_nil, or_false] at hi
  subst hi
  refine anyH_op 4 rfl rfl ?_
  intro K hK
  refine wpl_build (pl := [(0, .tmp 4), (1, .tmp 6)]) (begV gi go) [(0, .pointer (some ⟨gi, 0, none⟩)), (1, .pointer (some ⟨go, 0, none⟩))] rfl (by kernel_rfl) ?_
  refine wpList_nil ?_
  refine hK _ _ hm.tail.tail.tail ?_
  clear hK K
  refine wpAnyH_all (rs := [5]) (by kernel_rfl) (by simp) ?_
  intro i hi
  simp only [List.mem_cons, List.not_mem_nil, or_false] at hi
  subst hi
  refine anyH_op 5 rfl rfl ?_
  intro K hK
  refine wpl_stw 2 (begV gi go) hm rfl rfl rfl 2 sz_beg rfl rfl (by intro v hv; simp [begV] at hv; rcases hv with rfl | rfl <;> rfl) ?_
  clear hm
  intro w6 hm
  refine wpList_nil ?_
  refine hK _ _ hm.tail.tail.tail ?_
  clear hK K
  refine wpAnyH_done (by kernel_rfl) ?_ _
  simp only [endsIn]
  go_wp2_with fail
  have h0 := hm.fresh _ (List.mem_cons_self ..)
  have h1 := hm.tail.fresh _ (List.mem_cons_self ..)
  refine ret_cell 2 hm rfl Tryz.results167 rfl _ un_beg rfl 2 sz_beg rfl rfl ⟨gi, go, rfl, by simpa using h1, by simpa using h0, fun h => hm.ne 0 rfl h.symm, hm.get 1 rfl, hm.get 0 rfl, hm.below⟩
/-- The bytes of the first k parts. -/
def catN (Pc : Nat → List Int) : Nat → List Int
  | 0 => []
  | k + 1 => catN Pc k ++ Pc k
theorem catN_bytes {Pc : Nat → List Int} {N : Nat} (h : ∀ i, i < N → Bytes (Pc i)) : ∀ k, k ≤ N → Bytes (catN Pc k) := by
  intro k
  induction k with
  | zero => intro _; exact bytes_none
  | succ k ih => intro hk; exact (ih (by omega)).append (h k (by omega))
theorem catN_mono (Pc : Nat → List Int) (k j : Nat) : (catN Pc k).length ≤ (catN Pc (k + j)).length := by
  induction j with
  | zero => exact Nat.le_refl _
  | succ j ih => rw [← Nat.add_assoc, catN, List.length_append]; omega
theorem catN_le (Pc : Nat → List Int) {k N : Nat} (h : k ≤ N) : (catN Pc k).length ≤ (catN Pc N).length := by
  have := catN_mono Pc k (N - k)
  rwa [show k + (N - k) = N by omega] at this
set_option maxHeartbeats 2000000 in
theorem code_any (gi go : Nat) (ki ko : List Int) (hki : Bytes ki) (hko : Bytes ko) (hkl : ko.length ≤ 64) (b o N cap : Nat) (Pv : Nat → Value) (Pc : Nat → List Int) (hlen : ki.length + (catN Pc N).length ≤ 1000000) (hN : N ≤ 3) (w : World) (ht : Tab w)
    (hri : Row w gi (hrow (wsOf ki) (restOf ki) (ki.length : Int)) 254) (hro : Row w go (hrow (wsOf ko) (restOf ko) (ko.length : Int)) 254)
    (hp : ∀ i, i < N → w.cell? ⟨b, o + i, none⟩ = some (Pv i) ∧ SlOld w (Pv i) (Pc i) ∧ Bytes (Pc i)) :
    Calls Tryz.prog 153 #[.agg (begV gi go).toArray, .slice (some ⟨b, o, none⟩) N cap] w fun e w' => e = .returned (.agg (u8s (shaOf (ko ++ shaOf (ki ++ catN Pc N)))).toArray) ∧ Below w.heap.size w w' := by
  have hm := Mem.start w
  have HT : Hid _ := ht
  have HKI : Hid _ := hki
  have HKO : Hid _ := hko
  have HRI : Hid (Row w gi (hrow (wsOf ki) (restOf ki) (ki.length : Int)) 254) := hri
  have HRO : Hid (Row w go (hrow (wsOf ko) (restOf ko) (ko.length : Int)) 254) := hro
  have HP : Hid _ := hp
  have HCB : Hid (∀ k, k ≤ N → Bytes (catN Pc k)) := catN_bytes (fun i hi => (hp i hi).2.2)
  clear ht hki hko hri hro hp
  go_enter Tryz.func153, Tryz.ntmps153
  go_wp2_with (first
    | ((with_reducible refine at_op (some 2) (.box 217 (.tmp 0)) ?_); refine wpl_box (begV gi go) rfl hm ?_; clear hm; intro w1 g2 hm)
    | ((with_reducible refine at_op (some 4) (.alloc 43) ?_); refine wpl_alloc _ zero_b32 hm ?_; clear hm; intro w2 g4 hm)
    | ((with_reducible refine at_op (some 11) (.load 215 (.tmp 10)) ?_); refine wpl_ldc 1 0 (.pointer (some ⟨gi, 0, none⟩)) hm rfl rfl ag_hp (rfl) ?_)
    | (go_at_call 173; refine (copy_any gi (wsOf ki) (restOf ki) _ (wsOf_length _) (restOf_length _) _ (HRI.out.below' hm.below)).mono ?_; rintro e w3 ⟨gc, rfl, hge, hr, hb⟩; have HGC : Hid _ := Nat.ne_of_lt (Nat.lt_of_lt_of_le (Tab.lt (Tab.mem HT.out hm (by simp))) hge); replace hm := hm.callNew hb hr hge; clear hb hr hge))

  have hgw : w.heap.size ≤ gc := by simpa using hm.fresh _ (List.mem_cons_self ..)
  have HGW : Hid _ := hgw
  clear hgw
  go_loopw [15] (fun vi wr => ∃ k : Nat, k ≤ N ∧ vi = .int .i64 k ∧ Mem w [] wr [(gc, hrow (wsOf (ki ++ catN Pc k)) (restOf (ki ++ catN Pc k)) ((ki ++ catN Pc k).length : Int), 254), (g4, u8s (List.replicate 32 0), 43), (g2, begV gi go, 217)]) (fun vi _ => N - (intOf vi).toNat)
  case atStart => exact ⟨0, by omega, rfl, by rw [catN, List.append_nil]; exact hm⟩
  case round =>
    clear hm
    obtain ⟨k, hk, rfl, hm⟩ := hrel
    by_cases hlt : k < N
    · obtain ⟨hck, hsk, hbk⟩ := HP.out k hlt
      obtain ⟨pk, ck, hpk, _⟩ := hsk.len
      rw [hpk] at hck hsk
      have hki2 : (k : Int) < (N : Int) := by omega
      have HB0 : Hid (b < w.heap.size) := block_lt_of_cell hck
      have HCK : Hid _ := hck
      have HSK : Hid (SlOld w (.slice pk (Pc k).length ck) (Pc k)) := hsk
      have HBK : Hid _ := hbk
      have HBM : Hid (Bytes (ki ++ catN Pc k)) := Bytes.append HKI.out (HCB.out k (by omega))
      have hll : (ki ++ catN Pc k).length + (Pc k).length ≤ 1099511627776 := by
        have := catN_le Pc (show k + 1 ≤ N by omega)
        rw [catN, List.length_append] at this
        rw [List.length_append]
        omega
      have HLL : Hid _ := hll
      clear hck hsk hbk hll hpk
      go_wp2_with (first
        | ((with_reducible refine at_op (some 18) (.load 29 (.tmp 17)) ?_); refine wpl_ldx (.slice pk (Pc k).length ck) ((hm.old (p := ⟨b, o + k, none⟩) HB0.out (by simp)).trans HCK.out) rfl ag_bs ?_)
        | (go_at_call 174; refine (write_any gc (ki ++ catN Pc k) (Pc k) _ HBM.out HBK.out HLL.out _ (Tab.mem HT.out hm (by simp)) HGC.out (hm.get 0 rfl) (SlOld.sl HSK.out hm.below HGW.out)).mono ?_; rintro e w5 ⟨rfl, hr, hu⟩; replace hm := hm.upd 0 rfl hu hr; clear hr hu))

      rw [List.append_assoc] at hm
      replace hm : Mem w [] w5 [(gc, hrow (wsOf (ki ++ catN Pc (k + 1))) (restOf (ki ++ catN Pc (k + 1))) ((ki ++ catN Pc (k + 1)).length : Int), 254), (g4, u8s (List.replicate 32 0), 43), (g2, begV gi go, 217)] := hm
      go_roundw
      case rel => exact ⟨k + 1, by omega, by go_num, hm⟩
      case measure => simp [intOf]; omega
    · have hkN : k = N := by omega
      subst hkN
      have hni : ¬ (k : Int) < (k : Int) := by omega
      obtain ⟨s, hs⟩ : ∃ s, s = shaOf (ki ++ catN Pc k) := ⟨_, rfl⟩
      have HS : Hid _ := hs
      have HSL : Hid (s.length = 32) := by show _ = _; rw [hs, shaOf_length]
      have HSB : Hid (Bytes s) := by rw [hs]; exact shaOf_bytes _
      have HBM : Hid (Bytes (ki ++ catN Pc k)) := Bytes.append HKI.out (HCB.out k (by omega))
      have HBO : Hid (Bytes (ko ++ s)) := Bytes.append HKO.out HSB.out
      clear hs
      have HOL : Hid (ko.length + s.length ≤ 1099511627776) := by show _ ≤ _; have := HSL.out; omega
      go_wp2_with fail
      refine (hashSum_any gc (ki ++ catN Pc k) HBM.out (by rw [List.length_append]; omega) _ (Tab.mem HT.out hm (by simp)) (hm.get 0 rfl)).mono ?_
      rintro e w6 ⟨rfl, hb⟩
      replace hm := hm.call hb
      clear hb
      rw [show shaOf (ki ++ catN Pc k) = s from HS.out.symm]
      go_wp2_with (first
        | ((with_reducible refine at_op (some 8) (.alloc 43) ?_); refine wpl_alloc _ zero_b32 hm ?_; clear hm; intro w7 g8 hm)
        | ((with_reducible refine at_op none (.store 43 (.tmp 8) (.tmp 24)) ?_); refine wpl_stw 0 (u8s s) hm rfl rfl rfl 32 sz_b32 (by simp [u8s_length]) (by rw [u8s_length]; exact HSL.out) (u8s_one _) ?_; clear hm; intro w8 hm)
        | ((with_reducible refine at_op (some 26) (.load 215 (.tmp 25)) ?_); refine wpl_ldc 3 1 (.pointer (some ⟨go, 0, none⟩)) hm rfl rfl ag_hp (rfl) ?_)
        | (go_at_call 173; refine (copy_any go (wsOf ko) (restOf ko) _ (wsOf_length _) (restOf_length _) _ (HRO.out.below' hm.below)).mono ?_; rintro e w9 ⟨gd, rfl, hge, hr, hb⟩; have HGD : Hid _ := Nat.ne_of_lt (Nat.lt_of_lt_of_le (Tab.lt (Tab.mem HT.out hm (by simp))) hge); replace hm := hm.callNew hb hr hge; clear hb hr hge)
        | (go_at_call 174; refine (write_any gd ko s _ HKO.out HSB.out HOL.out _ (Tab.mem HT.out hm (by simp)) HGD.out (hm.get 0 rfl) (sl_all (hm.get 1 rfl) (fun h => hm.ne 0 rfl h.symm) HSL.out (Nat.le_refl _))).mono ?_; rintro e w10 ⟨rfl, hr, hu⟩; replace hm := hm.upd 0 rfl hu hr; clear hr hu)
        | (go_at_call 175; refine (hashSum_any gd (ko ++ s) HBO.out (by rw [List.length_append]; exact HOL.out) _ (Tab.mem HT.out hm (by simp)) (hm.get 0 rfl)).mono ?_; rintro e w11 ⟨rfl, hb⟩; replace hm := hm.call hb; clear hb)
        | ((with_reducible refine at_op none (.store 43 (.tmp 4) (.tmp 32)) ?_); refine wpl_stw 3 (u8s (shaOf (ko ++ s))) hm rfl rfl rfl 32 sz_b32 (by simp [u8s_length]) (by rw [u8s_length, shaOf_length]) (u8s_one _) ?_; clear hm; intro w12 hm))
      exact ret_cell 3 hm rfl Tryz.results153 rfl _ un_b32 rfl 32 sz_b32 (by rw [u8s_length, shaOf_length]) rfl ⟨by rw [HS.out], hm.below⟩
set_option maxHeartbeats 1000000 in
theorem mac_any (ks ms : List Int) (vk vm : Value) (hbk : Bytes ks) (hbm : Bytes ms) (hkl : ks.length ≤ 500000) (hml : ms.length ≤ 500000) (w : World) (ht : Tab w) (hvk : SlOld w vk ks) (hvm : SlOld w vm ms) :
    Calls Tryz.prog 142 #[vk, vm] w fun e w' => e = .returned (.agg (u8s (macOf ks ms)).toArray) ∧ Below w.heap.size w w' := by
  obtain ⟨pk, ck, rfl, _⟩ := hvk.len
  obtain ⟨pm, cm, rfl, _⟩ := hvm.len
  have hm := Mem.start w
  have HT : Hid _ := ht
  have HBK : Hid _ := hbk
  have HBM : Hid _ := hbm
  have HVK : Hid (SlOld w (.slice pk ks.length ck) ks) := hvk
  have HVM : Hid (SlOld w (.slice pm ms.length cm) ms) := hvm
  have HFB : Hid _ := fillOf_bytes hbk
  have HML : Hid (macOf ks ms = shaOf (padOut ks ++ shaOf (padIn ks ++ catN (fun _ => ms) 1))) := rfl
  clear ht hbk hbm hvk hvm
  go_enter Tryz.func142, Tryz.ntmps142
  go_wp2_with (first
    | ((with_reducible refine at_op (some 4) (.alloc 43) ?_); refine wpl_alloc _ zero_b32 hm ?_; clear hm; intro w1 g4 hm)
    | (go_at_call 168; refine (filled_any ks _ HBK.out (by omega) _ (Tab.mem HT.out hm (by simp)) (SlOld.mem HVK.out hm)).mono ?_; rintro e w2 ⟨rfl, hb⟩; replace hm := hm.call hb; clear hb)
    | (go_at_call 167; refine (begin_any (fillOf ks) (fillOf_length _) HFB.out _ (Tab.mem HT.out hm (by simp))).mono ?_; rintro e w3 ⟨gi, go, rfl, hgi, hgo, _, hri, hro, hb⟩; have HRI : Hid (Row w3 gi (hrow (wsOf (padIn ks)) (restOf (padIn ks)) ((padIn ks).length : Int)) 254) := hri; have HRO : Hid (Row w3 go (hrow (wsOf (padOut ks)) (restOf (padOut ks)) ((padOut ks).length : Int)) 254) := hro; replace hm := hm.call hb; clear hb hri hro hgi hgo)
    | ((with_reducible refine at_op (some 9) (.buildSlice 71 1 #[(0, .tmp 8)]) ?_); refine wpl_bsl1 rfl (.slice none 0 0) (.slice pm ms.length cm) un_bss info_bs rfl rfl rfl hm ?_; clear hm; intro w4 g9 hb4 hm)
    | (go_at_call 153; refine (code_any gi go (padIn ks) (padOut ks) (padIn_bytes HBK.out) (padOut_bytes HBK.out) (by rw [padOut_length]; omega) g9 0 1 1 (fun _ => .slice pm ms.length cm) (fun _ => ms) (by rw [padIn_length]; simp [catN]; omega) (by omega) _ (Tab.mem HT.out hm (by simp)) (HRI.out.below' hb4) (HRO.out.below' hb4) (fun i hi => ⟨by rw [Nat.zero_add, show i = 0 by omega]; exact hm.cell 0 rfl 0, SlOld.mem HVM.out hm, HBM.out⟩)).mono ?_; rintro e w5 ⟨rfl, hb⟩; rw [← HML.out]; replace hm := hm.call hb; clear hb)
    | ((with_reducible refine at_op none (.store 43 (.tmp 4) (.tmp 10)) ?_); refine wpl_stw 1 (u8s (macOf ks ms)) hm rfl rfl rfl 32 sz_b32 (by simp [u8s_length]) (by rw [u8s_length, macOf_length]) (u8s_one _) ?_; clear hm; intro w6 hm))
  exact ret_cell 1 hm rfl Tryz.results142 rfl _ un_b32 rfl 32 sz_b32 (by rw [u8s_length, macOf_length]) rfl ⟨rfl, hm.below⟩
end Go.Proofs.YtjmlgjbojmlibaaGreatDoor
