/- A map by keys: what was begun for a key is found again. -/
import Derived.Test.YtbfccepddfinoaaDoorMacCode
import Derived.Maps.OwnSet
import Derived.Maps.OwnOps
import Derived.DeepKeys4
namespace Go.Proofs.YtbfccepddfinoaaDoor
open Go Go.RowKit
open Go.Maps
set_option maxRecDepth 100000 in
theorem key_laid : laidOutB Tryd.prog = true := by kernel_rfl
set_option maxRecDepth 100000 in
theorem key_row : (23 : TypeId) < Tryd.prog.types.size := of_decide_eq_true (by kernel_rfl)
set_option maxRecDepth 100000 in
theorem key_wide : (match Tryd.prog.underlying 23 with | some (.array _ _) | some (.struct _) => true | _ => false) = true := by kernel_rfl
set_option maxRecDepth 100000 in
theorem key_law : Keyed Tryd.prog 23 := Keyed.of_law (deep_law_laid key_laid (m := 2) (by omega) key_row (by kernel_rfl) key_wide)
set_option maxRecDepth 100000 in
theorem key_type : Tryd.prog.keyType 23 = true := by kernel_rfl
set_option maxRecDepth 100000 in
theorem key_cells : Tryd.prog.cellsOf 23 = 32 := by kernel_rfl
set_option maxRecDepth 100000 in
theorem byte_cells : Tryd.prog.cellsOf 5 = 1 := by kernel_rfl
set_option maxRecDepth 100000 in
theorem types_some : ∃ n, Tryd.prog.types.size = n + 1 := ⟨Tryd.prog.types.size - 1, by have h : (23 : Nat) < Tryd.prog.types.size := key_row; omega⟩
set_option maxRecDepth 100000 in
theorem mapM_all {α β : Type} (f : α → Option β) (g : α → β) : ∀ l : List α, (∀ x ∈ l, f x = some (g x)) → l.mapM f = some (l.map g)
  | [], _ => rfl
  | x :: r, h => by
    rw [List.mapM_cons, h x (List.mem_cons_self ..), mapM_all f g r (fun y hy => h y (List.mem_cons_of_mem _ hy))]
    rfl
set_option maxRecDepth 100000 in
theorem wf_u8 (x : Int) (h0 : 0 ≤ x) (h1 : x < 256) : (Lit.int .u8 x).wf = true := by
  simp [Lit.wf, IntKind.min, IntKind.max, IntKind.signed, IntKind.bits]
  omega
set_option maxRecDepth 100000 in
theorem key_of (zs : List Int) (hl : zs.length = 32) (hb : Bytes zs) : ∃ kl, keyOf Tryd.prog 23 (.agg (u8s zs).toArray) = some kl := by
  obtain ⟨n, hn⟩ := types_some
  have hf : (Value.agg (u8s zs).toArray).formed Tryd.prog 23 = true := by
    simp [Value.formed, key_cells, u8s_length, hl]
  have hk : Tryd.prog.keyLits (Tryd.prog.types.size + 1) 23 (u8s zs) = some ((List.range 32).map fun i => [Lit.int .u8 (zs.getD i 0)]).flatten := by
    unfold Program.keyLits
    simp only [un_key]
    rw [if_pos (by rw [u8s_length, hl, key_cells]), mapM_all (g := fun i => [Lit.int .u8 (zs.getD i 0)])]
    · rfl
    · intro i hi
      have hi' : i < zs.length := by rw [hl]; exact List.mem_range.1 hi
      have hc : (List.drop (i * Tryd.prog.cellsOf 5) (u8s zs)).take (Tryd.prog.cellsOf 5) = [.int .u8 (zs.getD i 0)] := by
        rw [byte_cells, Nat.mul_one, List.take_one, List.head?_drop, u8s_get zs i hi']
        rfl
      have := hb.get i
      rw [hc, hn]
      unfold Program.keyLits
      have hg := wf_u8 _ this.1 this.2
      simp only [un_u8]
      exact if_pos ⟨trivial, hg⟩
  unfold keyOf
  rw [un_key]
  simp only
  rw [if_pos (by rw [key_type, hf]; rfl)]
  exact ⟨_, by rw [show (Value.agg (u8s zs).toArray).cells.toList = u8s zs from rfl, hk]; rfl⟩
set_option maxRecDepth 100000 in
theorem un_started : Tryd.prog.underlying 84 = some (.map 23 71) := Tryd.underlying84
def noBeg : List Value := [.pointer none, .pointer none]
/-- Map m holds just this under this key. -/
def MapHas (w : World) (m : Nat) (key s : Value) : Prop :=
  ∃ (R : Value → Option (DataW Unit × List MemPlace)) (kl : Lit), keyOf Tryd.prog 23 key = some kl ∧ R s = some (.lit (.bool true), []) ∧ (∀ v ps, R v = some (.lit (.bool true), ps) → v = s) ∧ R (.agg noBeg.toArray) = some (.lit (.bool false), []) ∧ w.ownsMap Tryd.prog 23 R m 1 ((DataW.map []).put kl (.lit (.bool true)))
set_option maxRecDepth 100000 in
theorem MapHas.isMap {w : World} {m : Nat} {key s : Value} (h : MapHas w m key s) : ∃ es c, w.heap[m]? = some (.map es c) := by
  obtain ⟨_, _, _, _, _, _, es, c, hb, _⟩ := h
  exact ⟨es, c, hb⟩
set_option maxRecDepth 100000 in
theorem MapHas.kept {w w' : World} {m : Nat} {key s : Value} (h : MapHas w m key s) (hg : w'.heap[m]? = w.heap[m]?) : MapHas w' m key s := by
  obtain ⟨R, kl, h1, h2, h3, h4, es, c, hb, h5⟩ := h
  exact ⟨R, kl, h1, h2, h3, h4, es, c, hg.trans hb, h5⟩
set_option maxRecDepth 100000 in
theorem MapHas.hidKept {w w' : World} {m g : Nat} {key s : Value} {l : List Value} {t : TypeId} (h : MapHas w m key s) (hu : Upd g w w') (hr : Row w g l t) : Hid (MapHas w' m key s) := by
  obtain ⟨es, c, hmap⟩ := h.isMap
  exact h.kept (hu.block m (Array.getElem?_eq_some_iff.1 hmap).1 (fun he => by
    rw [he, hr] at hmap
    cases hmap))
/-- What the map of started codes holds: nothing yet, or what was begun for the one key. -/
def Started (w : World) (m : Nat) (zs : List Int) : Prop :=
  w.heap[m]? = some (.map #[] 0) ∨ ∃ gi go, MapHas w m (.agg (u8s zs).toArray) (.agg (begV gi go).toArray) ∧ Row w gi (hrow (wsOf (padIn zs)) (restOf (padIn zs)) ((padIn zs).length : Int)) 99 ∧ Row w go (hrow (wsOf (padOut zs)) (restOf (padOut zs)) ((padOut zs).length : Int)) 99
set_option maxRecDepth 100000 in
theorem Started.isMap {w : World} {m : Nat} {zs : List Int} (h : Started w m zs) : ∃ es c, w.heap[m]? = some (.map es c) := by
  rcases h with h | ⟨_, _, h, _⟩
  · exact ⟨_, _, h⟩
  · exact h.isMap
set_option maxRecDepth 100000 in
theorem row_ne_map {w : World} {g m : Nat} {l : List Value} {t : TypeId} {es : Array MapEntry} {c : Nat} (hr : Row w g l t) (hm : w.heap[m]? = some (.map es c)) : g ≠ m := by
  rintro rfl
  rw [hr] at hm
  cases hm
set_option maxRecDepth 100000 in
theorem Mem.updO {w0 w w' : World} {S : List Nat} {rows : List (Nat × List Value × TypeId)} {m : Nat} {es : Array MapEntry} {c : Nat} (hm : Mem w0 S w rows) (hmap : w.heap[m]? = some (.map es c)) (hS : m ∈ S ∨ w0.heap.size ≤ m) (hu : Upd m w w') : Mem w0 S w' rows := by
  refine ⟨hu.os.trans hm.os, hu.tape.trans hm.tape, hu.output.trans hm.output, Nat.le_trans hm.size hu.size, fun k hk hn => ?_, fun r hr => hu.row (hm.row r hr) (row_ne_map (hm.row r hr) hmap), hm.nodup, hm.fresh⟩
  refine (hu.block k (Nat.lt_of_lt_of_le hk hm.size) ?_).trans (hm.block k hk hn)
  rintro rfl
  rcases hS with h | h
  · exact hn h
  · omega
set_option maxRecDepth 100000 in
theorem Mem.enterAll {w0 w : World} {S : List Nat} {rows : List (Nat × List Value × TypeId)} (hm : Mem w0 S w rows) : Mem w (rows.map Prod.fst) w rows :=
  ⟨rfl, rfl, rfl, Nat.le_refl _, fun _ _ _ => rfl, hm.row, hm.nodup, fun _ hr => Or.inl (List.mem_map_of_mem hr)⟩
set_option maxRecDepth 100000 in
theorem Mem.trans {w0 w w' : World} {S : List Nat} {rows rows' : List (Nat × List Value × TypeId)} (hm : Mem w0 S w rows) (h2 : Mem w (rows.map Prod.fst) w' rows') : Mem w0 S w' rows' := by
  refine ⟨h2.os.trans hm.os, h2.tape.trans hm.tape, h2.output.trans hm.output, Nat.le_trans hm.size h2.size, fun k hk hn => ?_, h2.row, h2.nodup, fun r hr => ?_⟩
  · refine (h2.block k (Nat.lt_of_lt_of_le hk hm.size) (fun hc => ?_)).trans (hm.block k hk hn)
    obtain ⟨r, hr, rfl⟩ := List.mem_map.1 hc
    rcases hm.fresh r hr with h | h
    · exact hn h
    · omega
  · rcases h2.fresh r hr with h | h
    · obtain ⟨q, hq, he⟩ := List.mem_map.1 h
      rw [← he]
      exact hm.fresh q hq
    · exact Or.inr (Nat.le_trans hm.size h)
set_option maxRecDepth 100000 in
theorem Seg.notMap {w : World} {b off m : Nat} {cs : List Int} {es : Array MapEntry} {c : Nat} (h : Seg w b off cs) (h0 : 0 < cs.length) (hm : w.heap[m]? = some (.map es c)) : b ≠ m := by
  rintro rfl
  have := h 0 h0
  simp [World.cell?, hm] at this
set_option maxRecDepth 100000 in
theorem SlOld.updMap {w w' : World} {v : Value} {cs : List Int} {m : Nat} {es : Array MapEntry} {c : Nat} (h : SlOld w v cs) (hm : w.heap[m]? = some (.map es c)) (hu : Upd m w w') : SlOld w' v cs := by
  obtain ⟨p, cap, hv, hc, hs⟩ := h
  refine ⟨p, cap, hv, hc, fun h0 => ?_⟩
  obtain ⟨b, off, hp, hseg⟩ := hs h0
  refine ⟨b, off, hp, fun j hj => ?_⟩
  rw [hu.cell (p := ⟨b, off + j, none⟩) (hseg.lt h0) (hseg.notMap h0 hm)]
  exact hseg j hj
set_option maxRecDepth 100000 in
theorem upd_of_mem {w w' : World} {m : Nat} {rows : List (Nat × List Value × TypeId)} (hm : Mem w [m] w' rows) : Upd m w w' :=
  ⟨hm.os, hm.tape, hm.output, hm.size, fun k hk hn => hm.block k hk (by simpa using hn)⟩
set_option maxRecDepth 100000 in
theorem Mem.mapUpd {w0 w w' : World} {rows : List (Nat × List Value × TypeId)} {m : Nat} {es : Array MapEntry} {c : Nat} (hm : Mem w0 [] w rows) (hmap : w.heap[m]? = some (.map es c)) (hg : w.grownBy w' (some m)) : Mem w0 [m] w' rows := by
  refine ⟨hg.os.trans hm.os, hg.tape.trans hm.tape, hg.output.trans hm.output, Nat.le_trans hm.size hg.size, fun k hk hn => ?_, fun r hr => ?_, hm.nodup, fun r hr => Or.inr ?_⟩
  · exact (hg.block k (Nat.lt_of_lt_of_le hk hm.size) (by simpa using hn)).trans (hm.block k hk (by simp))
  · have hrow := hm.row r hr
    unfold Row
    rw [hg.block r.1 hrow.lt (fun he => row_ne_map hrow hmap (by simpa using he))]
    exact hrow
  · have := hm.fresh r hr
    simpa using this
set_option maxRecDepth 100000 in
theorem begV_ne (gi go : Nat) : Value.agg (begV gi go).toArray ≠ .agg noBeg.toArray := by
  simp [begV, noBeg]
set_option maxRecDepth 100000 in
theorem begV_one (gi go : Nat) : ∀ v ∈ begV gi go, v.oneCell' = true := by
  intro v hv
  simp [begV] at hv
  rcases hv with rfl | rfl <;> rfl
set_option maxRecDepth 100000 in
theorem noBeg_one : ∀ v ∈ noBeg, v.oneCell' = true := by
  intro v hv
  simp [noBeg] at hv
  subst hv
  rfl
set_option maxRecDepth 100000 in
theorem pin_zero : ∃ R0 : Value → Option (DataW Unit × List MemPlace), R0 (.agg noBeg.toArray) = some (.nil, []) ∧ ∀ v p, R0 v = some p → v = .agg noBeg.toArray := by
  classical
  refine ⟨fun v => if v = .agg noBeg.toArray then some (.nil, []) else none, if_pos rfl, fun v p h => ?_⟩
  by_cases hv : v = .agg noBeg.toArray
  · exact hv
  · simp [hv] at h
set_option maxRecDepth 100000 in
theorem pin_of (s : Value) (hs : s ≠ .agg noBeg.toArray) : ∃ R : Value → Option (DataW Unit × List MemPlace), R s = some (.lit (.bool true), []) ∧ (∀ v ps, R v = some (.lit (.bool true), ps) → v = s) ∧ R (.agg noBeg.toArray) = some (.lit (.bool false), []) := by
  classical
  refine ⟨fun v => if v = s then some (.lit (.bool true), []) else some (.lit (.bool false), []), if_pos rfl, fun v ps h => ?_, if_neg (fun h => hs h.symm)⟩
  by_cases hv : v = s
  · exact hv
  · simp [hv] at h
set_option maxRecDepth 100000 in
theorem own_none {W : World} {m : Nat} (h : W.heap[m]? = some (.map #[] 0)) (R : Value → Option (DataW Unit × List MemPlace)) : W.ownsMap Tryd.prog 23 R m 0 (.map []) :=
  ⟨#[], 0, h, ⟨by simp, MapKept.stamped_empty 0, by simp⟩, Nat.le_refl _, rfl⟩
set_option maxRecDepth 100000 in
theorem tab_ne_map {w : World} {m : Nat} {es : Array MapEntry} {c : Nat} (ht : Tab w) (hm : w.heap[m]? = some (.map es c)) : 1 ≠ m := by
  intro h
  have := ht 0 (by omega)
  rw [← h] at hm
  simp [World.cell?, hm] at this
set_option maxHeartbeats 800000 in
set_option maxRecDepth 100000 in
theorem under_first (zs : List Int) (m : Nat) (hl : zs.length = 32) (hb : Bytes zs) (w : World) (ht : Tab w) (hm0 : w.heap[m]? = some (.map #[] 0)) :
    Calls Tryd.prog 48 #[.map (some m), .agg (u8s zs).toArray] w fun e w' => ∃ gi go, e = .returned (.agg (begV gi go).toArray) ∧ MapHas w' m (.agg (u8s zs).toArray) (.agg (begV gi go).toArray) ∧ Row w' gi (hrow (wsOf (padIn zs)) (restOf (padIn zs)) ((padIn zs).length : Int)) 99 ∧ Row w' go (hrow (wsOf (padOut zs)) (restOf (padOut zs)) ((padOut zs).length : Int)) 99 ∧ Upd m w w' := by
  obtain ⟨kl, hkl⟩ := key_of zs hl hb
  have hm := Mem.start w
  obtain ⟨R0, hR0, hR0i⟩ := pin_zero
  have HMT : Hid (m < w.heap.size) := (Array.getElem?_eq_some_iff.1 hm0).1
  have HT : Hid _ := ht
  have HL : Hid _ := hl
  have HKL : Hid _ := hkl
  have HM0 : Hid _ := hm0
  have HR0 : Hid _ := hR0
  have HR0I : Hid _ := hR0i
  have HB : Hid _ := hb
  have HFB : Hid _ := fillOf_bytes hb
  have HU : Hid ((u8s zs).length = 32) := by show _ = _; rw [u8s_length]; exact hl
  clear ht hl hkl hm0 hR0 hR0i hb
  go_enter Tryd.func48, Tryd.ntmps48
  go_wp2_with (first
    | ((with_reducible refine at_op (some 3) (.box 23 (.tmp 1)) ?_); refine wpl_box (u8s zs) rfl hm ?_; clear hm; intro w1 g3 hm)
    | ((with_reducible refine at_op (some 4) (.alloc 71) ?_); refine wpl_alloc _ zero_beg hm ?_; clear hm; intro w2 g4 hm)
    | ((with_reducible refine at_op (some 10) (.load 23 (.tmp 3)) ?_); refine wpl_ldw 1 hm rfl rfl _ un_key rfl 32 sz_key (HU.out) ?_)
    | ((with_reducible refine at_op (some 11) (.lookup 84 (.tmp 9) (.tmp 10) true) ?_); refine wpList_lookup_own_ok _ rfl _ _ 84 rfl 23 71 key_law un_started R0 (zero_beg _) .nil [] HR0.out m 0 (.map []) rfl (own_none ((hm.block m HMT.out (by simp)).trans HM0.out) R0) _ kl rfl HKL.out ?_; intro v ps hv; obtain rfl := HR0I.out v _ hv; clear hv; rw [show Maps.has (DataW.map ([] : List (Lit × DataW Unit))) kl = false from rfl])
    | ((with_reducible refine at_op (some 5) (.alloc 71) ?_); refine wpl_alloc _ zero_beg hm ?_; clear hm; intro w3 g5 hm)
    | ((with_reducible refine at_op none (.store 71 (.tmp 5) (.tmp 12)) ?_); refine wpl_stw 0 noBeg hm rfl rfl rfl 2 sz_beg (rfl) (rfl) (noBeg_one) ?_; clear hm; intro w4 hm)
    | (go_at_call 41; refine (filled_any zs _ HB.out (by rw [HL.out]; omega) _ (Tab.mem HT.out hm (by simp)) (old_all (hm.get 2 rfl) HL.out (Nat.le_refl _))).mono ?_; rintro e w5 ⟨rfl, hb⟩; replace hm := hm.call hb; clear hb)
    | (go_at_call 40; refine (begin_any (fillOf zs) (fillOf_length _) HFB.out _ (Tab.mem HT.out hm (by simp))).mono ?_; rintro e w6 ⟨gi, go, rfl, hgi, hgo, hne, hri, hro, hb⟩; replace hm := hm.callNew2 hb hri hro hgi hgo hne; clear hb hri hro hgi hgo hne)
    | ((with_reducible refine at_op (some 7) (.alloc 71) ?_); refine wpl_alloc _ zero_beg hm ?_; clear hm; intro w7 g7 hm)
    | ((with_reducible refine at_op none (.store 71 (.tmp 7) (.tmp 18)) ?_); refine wpl_stw 0 (begV gi go) hm rfl rfl rfl 2 sz_beg (rfl) (rfl) (begV_one _ _) ?_; clear hm; intro w8 hm)
    | ((with_reducible refine at_op (some 20) (.load 23 (.tmp 3)) ?_); refine wpl_ldw 5 hm rfl rfl _ un_key rfl 32 sz_key (HU.out) ?_)
    | ((with_reducible refine at_op (some 21) (.load 71 (.tmp 7)) ?_); refine wpl_ldw 0 hm rfl rfl _ un_beg rfl 2 sz_beg (rfl) ?_)
    | ((with_reducible refine at_op none (.mapUpdate 84 (.tmp 19) (.tmp 20) (.tmp 21)) ?_); obtain ⟨R1, hR1, hR1i, hR1z⟩ := pin_of (.agg (begV gi go).toArray) (begV_ne gi go); refine wpList_mapUpdate_own _ rfl _ _ _ 84 rfl 23 71 key_law un_started R1 m 0 (.map []) rfl (own_none ((hm.block m HMT.out (by simp)).trans HM0.out) R1) (by unfold maxLen; omega) _ _ kl rfl rfl HKL.out (.lit (.bool true)) [] hR1 ?_; intro w9 hown1 hg1; have HAS : Hid (MapHas w9 m (.agg (u8s zs).toArray) (.agg (begV gi go).toArray)) := ⟨R1, kl, HKL.out, hR1, hR1i, hR1z, hown1⟩; clear hown1 hR1 hR1i hR1z; have hm9 := hm.mapUpd ((hm.block m HMT.out (by simp)).trans HM0.out) hg1; clear hm hg1; have hm := hm9; clear hm9)
    | ((with_reducible refine at_op (some 22) (.load 71 (.tmp 7)) ?_); refine wpl_ldw 0 hm rfl rfl _ un_beg rfl 2 sz_beg (rfl) ?_)
    | ((with_reducible refine at_op none (.store 71 (.tmp 4) (.tmp 22)) ?_); go_must (refine wpl_stwV 4 (begV gi go) hm rfl rfl rfl 2 sz_beg rfl rfl (begV_one _ _) ?_); intro w10 hu hm10; go_must (have HAS2 := MapHas.hidKept HAS.out hu (hm.get 4 rfl)); clear hm hu HAS; have hm := hm10; clear hm10))

  exact ret_cell 4 hm rfl Tryd.results48 rfl _ un_beg rfl 2 sz_beg rfl rfl ⟨gi, go, rfl, HAS2.out, hm.get 1 rfl, hm.get 2 rfl, upd_of_mem hm⟩
set_option maxHeartbeats 800000 in
set_option maxRecDepth 100000 in
theorem under_again (zs : List Int) (m gi go : Nat) (hl : zs.length = 32) (w : World) (hh : MapHas w m (.agg (u8s zs).toArray) (.agg (begV gi go).toArray)) :
    Calls Tryd.prog 48 #[.map (some m), .agg (u8s zs).toArray] w fun e w' => e = .returned (.agg (begV gi go).toArray) ∧ Below w.heap.size w w' := by
  obtain ⟨R, kl, hkl, hR, hRi, hRz, es, c, hblock, hrest⟩ := hh
  have hm := Mem.start w
  have HMT : Hid (m < w.heap.size) := (Array.getElem?_eq_some_iff.1 hblock).1
  have HKL : Hid _ := hkl
  have HR : Hid _ := hR
  have HRI : Hid _ := hRi
  have HRZ : Hid _ := hRz
  have HBL : Hid _ := hblock
  have HRE : Hid _ := hrest
  have HA : Hid (((DataW.map ([] : List (Lit × DataW Unit))).put kl (.lit (.bool true))).atKey kl (.lit (.bool false)) = .lit (.bool true)) := atKey_put_same isMap_empty (key_law.key hkl) _ _
  have HH : Hid (Maps.has ((DataW.map ([] : List (Lit × DataW Unit))).put kl (.lit (.bool true))) kl = true) := has_put_same isMap_empty (key_law.key hkl) _
  have HU : Hid ((u8s zs).length = 32) := by show _ = _; rw [u8s_length]; exact hl
  clear hl hkl hR hRi hRz hblock hrest
  go_enter Tryd.func48, Tryd.ntmps48
  go_wp2_with (first
    | ((with_reducible refine at_op (some 3) (.box 23 (.tmp 1)) ?_); refine wpl_box (u8s zs) rfl hm ?_; clear hm; intro w1 g3 hm)
    | ((with_reducible refine at_op (some 4) (.alloc 71) ?_); refine wpl_alloc _ zero_beg hm ?_; clear hm; intro w2 g4 hm)
    | ((with_reducible refine at_op (some 10) (.load 23 (.tmp 3)) ?_); refine wpl_ldw 1 hm rfl rfl _ un_key rfl 32 sz_key (HU.out) ?_)
    | ((with_reducible refine at_op (some 11) (.lookup 84 (.tmp 9) (.tmp 10) true) ?_); refine wpList_lookup_own_ok _ rfl _ _ 84 rfl 23 71 key_law un_started R (zero_beg _) (.lit (.bool false)) [] HRZ.out m 1 ((DataW.map ([] : List (Lit × DataW Unit))).put kl (.lit (.bool true))) rfl ⟨es, c, (hm.block m HMT.out (by simp)).trans HBL.out, HRE.out⟩ _ kl rfl HKL.out ?_; intro v ps hv; rw [HA.out] at hv; obtain rfl := HRI.out v _ hv; clear hv; rw [HH.out])
    | ((with_reducible refine at_op (some 5) (.alloc 71) ?_); refine wpl_alloc _ zero_beg hm ?_; clear hm; intro w3 g5 hm)
    | ((with_reducible refine at_op none (.store 71 (.tmp 5) (.tmp 12)) ?_); refine wpl_stw 0 (begV gi go) hm rfl rfl rfl 2 sz_beg (rfl) (rfl) (begV_one _ _) ?_; clear hm; intro w4 hm)
    | ((with_reducible refine at_op (some 15) (.load 71 (.tmp 5)) ?_); refine wpl_ldw 0 hm rfl rfl _ un_beg rfl 2 sz_beg (rfl) ?_)
    | ((with_reducible refine at_op none (.store 71 (.tmp 4) (.tmp 15)) ?_); refine wpl_stw 1 (begV gi go) hm rfl rfl rfl 2 sz_beg (rfl) (rfl) (begV_one _ _) ?_; clear hm; intro w5 hm))

  exact ret_cell 1 hm rfl Tryd.results48 rfl _ un_beg rfl 2 sz_beg rfl rfl ⟨rfl, hm.below⟩
set_option maxRecDepth 100000 in
theorem under_any (zs : List Int) (m : Nat) (hl : zs.length = 32) (hb : Bytes zs) (w : World) (ht : Tab w) (hs : Started w m zs) :
    Calls Tryd.prog 48 #[.map (some m), .agg (u8s zs).toArray] w fun e w' => ∃ gi go, e = .returned (.agg (begV gi go).toArray) ∧ MapHas w' m (.agg (u8s zs).toArray) (.agg (begV gi go).toArray) ∧ Row w' gi (hrow (wsOf (padIn zs)) (restOf (padIn zs)) ((padIn zs).length : Int)) 99 ∧ Row w' go (hrow (wsOf (padOut zs)) (restOf (padOut zs)) ((padOut zs).length : Int)) 99 ∧ Upd m w w' := by
  rcases hs with hs | ⟨gi, go, hs, hri, hro⟩
  · exact under_first zs m hl hb w ht hs
  · refine (under_again zs m gi go hl w hs).mono ?_
    rintro e w' ⟨rfl, hb⟩
    obtain ⟨es, c, hmap⟩ := hs.isMap
    exact ⟨gi, go, rfl, hs.kept (hb.block m (Array.getElem?_eq_some_iff.1 hmap).1), hri.below' hb, hro.below' hb, Upd.of_below hb⟩
end Go.Proofs.YtbfccepddfinoaaDoor
