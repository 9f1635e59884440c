/- Laws on what turns a disk: a store into what is kept, into the map, clear; a new map, a new row of sectors. -/
import Derived.Test.YtbaijhlkkeongaaSecNow
namespace Go.Proofs.Ytbaijhlkkeongaa
open Go Go.RowKit Go.Maps
open Go.ChangeMaps Go.MapKept
section
variable {ops : Array Oper} {rest : List Oper} {a : Act} {w w0 w' : World} {Q : Exit → Act → World → Prop} {dst : Option Tmp} {typ : TypeId} {pos : String} {aft : Array Edge} {gd : Option (Nat × Bool)} {S : List Nat} {rows : List (Nat × List Value × TypeId)} {g mb : Nat} {kv : Value} {d : Dk}
set_option maxRecDepth 100000 in
theorem DkAt.setKept {kb n cap : Nat} {tl : List Value} {ds : Nat → List Int} (hd : DkAt w g mb (.slice (some ⟨kb, 0, none⟩) n cap) d) (hn : d.n = n) (h0 : 0 < n) (hc : n ≤ cap) (hu : Upd kb w w') (hr : Row w' kb (u8s (flatK ds n) ++ tl) 54)
    (hl : ∀ i, i < n → (ds i).length = 64) (hb : ∀ i, i < n → Bytes (ds i)) : DkAt w' g mb (.slice (some ⟨kb, 0, none⟩) n cap) { d with kept := ds } := by
  subst hn
  have hkb : kb ∈ kbOf (.slice (some ⟨kb, 0, none⟩) d.n cap) := by simp [kbOf]; omega
  have hne := hd.ne_k kb hkb
  refine ⟨⟨hd.ok.n, hl, hb, hd.ok.pend⟩, hu.row hd.row (fun e => hne.1 e.symm), ⟨_, cap, rfl, hc, fun _ => ⟨kb, tl, rfl, hr⟩⟩, ?_⟩
  obtain ⟨q, D, ho, pm⟩ := hd.map
  have hlt := ho.lt
  obtain ⟨es, c, hb, F, hs, hD⟩ := ho
  exact ⟨q, D, ⟨es, c, by rw [hu.block mb hlt (fun e => hne.2 e.symm)]; exact hb, F, hs, hD⟩, pm⟩
set_option maxRecDepth 100000 in
theorem wpl_stK {x y : Operand} {kb n cap : Nat} (i : Nat) (l : List Int) (hd : DkAt w g mb (.slice (some ⟨kb, 0, none⟩) n cap) d) (hn : d.n = n) (hi : i < n) (hx : a.eval x = .pointer (some ⟨kb, i * 64, none⟩)) (hy : a.eval y = .agg (u8s l).toArray) (hl : l.length = 64) (hb : Bytes l)
    (h : ∀ w', DkAt w' g mb (.slice (some ⟨kb, 0, none⟩) n cap) { d with kept := upf d.kept i l } → Upd kb w w' → wpList Try.prog ops Q rest a w') :
    wpList Try.prog ops Q ({ dst := none, op := .store 54 x y, type := typ, pos := pos, after := aft, guard := none } :: rest) a w := by
  obtain ⟨kb', cap', tl, he, hc, hr⟩ := hd.kept.some (by omega)
  simp only [Value.slice.injEq, Option.some.injEq, Addr.mk.injEq, and_true] at he
  obtain ⟨rfl, h1, rfl⟩ := he
  rw [hn] at hr hc
  have hkl : ∀ i, i < n → (d.kept i).length = 64 := by rw [← hn]; exact hd.ok.kept
  have hkb : ∀ i, i < n → Bytes (d.kept i) := by rw [← hn]; exact hd.ok.keptB
  refine wpList_plain rfl fun K hK => ?_
  have hst := run_storeVar_seg (P := Try.prog) w kb (i * 64) 54 54 _ (u8s l) hr (by rw [sz_con, u8s_length, hl]) (by rw [u8s_length, hl]; exact kept_len tl hkl hi) (u8s_one _)
  rw [kept_set tl l hkl hl hi] at hst
  have hu := Upd.setRow kb w (u8s (flatK (upf d.kept i l) n) ++ tl).toArray
  have hd' := hd.setKept hn (by omega) hc hu (hr.setRow _) (fun j hj => by
    by_cases he : j = i
    · subst he; rw [upf_same]; exact hl
    · rw [upf_other _ _ he]; exact hkl j hj) (fun j hj => by
    by_cases he : j = i
    · subst he; rw [upf_same]; exact hb
    · rw [upf_other _ _ he]; exact hkb j hj)
  have hh := hK _ _ (h _ hd' hu)
  unfold Oper.wp execOp
  simp only [hx, hy, Instr.storeAt, Instr.sureAddr, Sem.run_bind, Sem.run_pure, Result.andThen_ok, hst]
  exact hh
set_option maxRecDepth 100000 in
theorem DkAt.putRun (hd : DkAt w g mb kv d) (i : Nat) (l : List Int) (hi : i < d.n) (hl : l.length = 64) (hb : Bytes l) :
    ∃ w', (Instr.mapUpdate 45 (.map (some mb)) (.int .i64 (i : Int)) (.agg (u8s l).toArray)).run Try.prog w = .ok () w' ∧ DkAt w' g mb kv (d.put i l) ∧ Upd mb w w' := by
  obtain ⟨q, D, ho, pm⟩ := hd.map
  have hn := hd.ok.n
  have hsz := pm.size hd.ok ho
  have hrk := d.rank_le d.n
  have ho' : w.ownsMap Try.prog 3 rdV mb d.n D := by
    obtain ⟨es, c, hb, F, hs, hD⟩ := ho
    refine ⟨es, c, hb, F, ?_, hD⟩
    rw [hD] at hsz
    simp only [Maps.size, length_sorted, List.length_map] at hsz
    have : es.toList.length = es.size := by simp
    omega
  obtain ⟨w', hr, ho2, hg⟩ := ho'.update key_int un_cmap (by unfold maxLen; omega) (key_mk i (by omega)) (d := .held (.agg (u8s l).toArray)) (ps := []) (val := .agg (u8s l).toArray) rfl
  have hu : Upd mb w w' := ⟨hg.os, hg.tape, hg.output, hg.size, fun k hk hne => hg.block k hk (by simpa using hne)⟩
  have hk : ∀ k ∈ foot g mb kv, k ≠ mb → w'.heap[k]? = w.heap[k]? := fun k hk hne => hu.block k (hd.lt k hk) hne
  refine ⟨w', hr, ⟨Dk.put_ok hd.ok hi hl hb, ?_, ?_, ⟨_, _, ho2, pm.put ho'.isMap i l⟩⟩, hu⟩
  · exact hu.row hd.row hd.ne_gm
  · exact hd.kept.keep (fun k hh => hk k (by simp [foot, hh]) (hd.ne_k k hh).2)
set_option maxRecDepth 100000 in
theorem wpl_put {m x y : Operand} (i : Nat) (l : List Int) {ii : Int} (hd : DkAt w g mb kv d) (hi : i < d.n) (hl : l.length = 64) (hb : Bytes l) (hm : a.eval m = .map (some mb)) (hx : a.eval x = .int .i64 ii) (hii : ii = (i : Int)) (hy : a.eval y = .agg (u8s l).toArray)
    (h : ∀ w', DkAt w' g mb kv (d.put i l) → Upd mb w w' → wpList Try.prog ops Q rest a w') :
    wpList Try.prog ops Q ({ dst := none, op := .mapUpdate 45 m x y, type := typ, pos := pos, after := aft, guard := none } :: rest) a w := by
  subst hii
  obtain ⟨w', hr, hd', hu⟩ := hd.putRun i l hi hl hb
  refine wpList_plain rfl fun K hK => ?_
  have hh := hK _ _ (h w' hd' hu)
  unfold Oper.wp execOp
  simp only [hm, hx, hy, hr, Sem.run_bind, Sem.run_pure, Result.andThen_ok]
  exact hh
set_option maxRecDepth 100000 in
theorem DkAt.clearRun (hd : DkAt w g mb kv d) (ty : TypeId) :
    ∃ w', (Builtin.clear_ #[45] ty #[.map (some mb)]).run Try.prog w = .ok (.tuple #[]) w' ∧ DkAt w' g mb kv { d with pend := fun _ => none } ∧ Upd mb w w' := by
  obtain ⟨es, c, hb⟩ := hd.isMap
  refine ⟨setBlock w mb (.map #[] c), ?_, ?_⟩
  · have hso : (setObj mb (.map #[] c)).run Try.prog w = .ok () (setBlock w mb (.map #[] c)) := run_setObj_map _ hb
    simp [Builtin.clear_, run_underlying un_cmap, MapKept.run_getObj_map hb, Result.andThen, hso]
  · have hu : Upd mb w (setBlock w mb (.map #[] c)) := ⟨rfl, rfl, rfl, by simp [setBlock], fun k _ hn => heap_setBlock_other hb _ hn⟩
    have hk : ∀ k ∈ foot g mb kv, k ≠ mb → (setBlock w mb (.map #[] c)).heap[k]? = w.heap[k]? := fun k hk hne => hu.block k (hd.lt k hk) hne
    refine ⟨⟨⟨hd.ok.n, hd.ok.kept, hd.ok.keptB, fun _ _ h => by cases h⟩, hu.row hd.row hd.ne_gm, hd.kept.keep (fun k hh => hk k (by simp [foot, hh]) (hd.ne_k k hh).2), ⟨0, .map [], ⟨#[], c, heap_setBlock_same hb _, ⟨by simp, stamped_empty c, by simp⟩, Nat.le_refl _, rfl⟩, PM.none⟩⟩, hu⟩
set_option maxRecDepth 100000 in
theorem wpl_clear {m : Operand} (hd : DkAt w g mb kv d) (hm : a.eval m = .map (some mb))
    (h : ∀ w', DkAt w' g mb kv { d with pend := fun _ => none } → Upd mb w w' → wpList Try.prog ops Q rest (a.put dst (.tuple #[])) w') :
    wpList Try.prog ops Q ({ dst := dst, op := .call { callee := .builtin .clear, args := #[m], argTypes := #[45] }, type := typ, pos := pos, after := aft, guard := none } :: rest) a w := by
  obtain ⟨w', hr, hd', hu⟩ := hd.clearRun typ
  refine wpList_plain rfl fun K hK => ?_
  have hh := hK _ _ (h w' hd' hu)
  unfold Oper.wp execOp
  simp only [resolve, invoke, builtin, Sem.run_bind, Sem.run_pure, Result.andThen_ok, List.map_toArray, List.map_cons, List.map_nil, hm, hr]
  exact hh
set_option maxRecDepth 100000 in
theorem wpl_mkMap {t : TypeId} (hm : Mem w0 S w rows)
    (h : ∀ w' b, Mem w0 S w' rows → w'.heap[b]? = some (.map #[] 0) → w.heap.size ≤ b → wpList Try.prog ops Q rest (a.put dst (.map (some b))) w') :
    wpList Try.prog ops Q ({ dst := dst, op := .makeMap t none, type := typ, pos := pos, after := aft, guard := none } :: rest) a w := by
  refine wpList_plain rfl fun K hK => ?_
  have hh := hK _ _ (h _ _ (hm.allocO (.map #[] 0)) (heap_alloc_new w _) (Nat.le_refl _))
  unfold Oper.wp execOp
  simp [Instr.makeMap, newObj]
  exact hh
set_option maxRecDepth 100000 in
theorem wpl_boxB {ty : TypeId} {x : Operand} (l : List Value) (hx : a.eval x = .agg l.toArray) (hm : Mem w0 S w rows)
    (h : ∀ w' g, Below w.heap.size w w' → Mem w0 S w' ((g, l, ty) :: rows) → wpList Try.prog ops Q rest (a.put dst (.pointer (some ⟨g, 0, none⟩))) w') :
    wpList Try.prog ops Q ({ dst := dst, op := .box ty x, type := typ, pos := pos, after := aft, guard := none } :: rest) a w := by
  refine wpList_plain rfl fun K hK => ?_
  have hh := hK _ _ (h _ _ ((Below.refl _ _).alloc (Nat.le_refl _) _) (hm.alloc l ty))
  unfold Oper.wp execOp
  simp [Instr.box, newVar, newRow, newObj, hx, Value.cells]
  exact hh
set_option maxRecDepth 100000 in
theorem made_rows (n : Nat) : madeCells (u8s zeroK).toArray (n * 64) = (u8s (flatK (fun _ => zeroK) n)).toArray := by
  have hall : ∀ k, k < n * 64 → (u8s (flatK (fun _ => zeroK) n))[k]? = some (.int .u8 0) := by
    intro k hk
    have hl := flatK_length (fun _ => zeroK) n (fun _ _ => zeroK_length)
    rw [u8s_get _ _ (by omega)]
    congr 2
    have : ∀ m, ∀ x ∈ flatK (fun _ => zeroK) m, x = 0 := by
      intro m
      induction m with
      | zero => intro x hx; cases hx
      | succ m ih =>
        intro x hx
        rw [flatK, List.mem_append] at hx
        rcases hx with hx | hx
        · exact ih x hx
        · exact List.eq_of_mem_replicate hx
    rw [List.getD_eq_getElem?_getD]
    cases hq : (flatK (fun _ => zeroK) n)[k]? with
    | none => rfl
    | some x => exact this n x (List.mem_of_getElem? hq)
  have hl := flatK_length (fun _ => zeroK) n (fun _ _ => zeroK_length)
  apply Array.ext
  · rw [size_madeCells, List.size_toArray, u8s_length, hl]
  · intro k h1 h2
    rw [size_madeCells] at h1
    have hz : ∀ j, j < 64 → (u8s zeroK).toArray[j]! = .int .u8 0 := by
      intro j hj
      have : (u8s zeroK)[j]? = some (.int .u8 0) := by
        rw [u8s_get _ _ (by rw [zeroK_length]; exact hj)]
        congr 2
        rw [zeroK, List.getD_eq_getElem?_getD, List.getElem?_replicate, if_pos hj]
        rfl
      simp [this]
    have h3 := hall k h1
    have h4 : (u8s (flatK (fun _ => zeroK) n)).toArray[k] = .int .u8 0 := by
      have := List.getElem?_eq_some_iff.1 h3
      simpa using this.2
    rw [h4]
    have hsz : (u8s zeroK).toArray.size = 64 := by simp [u8s_length, zeroK_length]
    have h5 := hz _ (Nat.mod_lt k (by omega : 0 < 64))
    simp only [madeCells, Array.getElem_map, Array.getElem_range, hsz]
    exact h5
set_option maxRecDepth 100000 in
theorem wpl_mkRows {x y : Operand} (n : Nat) {i j : Int} (hx : a.eval x = .int .i64 i) (hxi : i = (n : Int)) (hy : a.eval y = .int .i64 j) (hyj : j = (n : Int)) (hn : n ≤ 4000) (hm : Mem w0 S w rows)
    (h : ∀ w' kb, Mem w0 S w' ((kb, u8s (flatK (fun _ => zeroK) n), 54) :: rows) → wpList Try.prog ops Q rest (a.put dst (.slice (some ⟨kb, 0, none⟩) n n)) w') :
    wpList Try.prog ops Q ({ dst := dst, op := .makeSlice 44 x y, type := typ, pos := pos, after := aft, guard := none } :: rest) a w := by
  subst hxi hyj
  refine wpList_plain rfl fun K hK => ?_
  have hh := hK _ _ (h _ _ (hm.alloc (u8s (flatK (fun _ => zeroK) n)) 54))
  have hr : (Instr.makeSlice 44 (.int .i64 (n : Int)) (.int .i64 (n : Int))).run Try.prog w = .ok (.slice (some ⟨w.heap.size, 0, none⟩) n n) (w.alloc (.cells (u8s (flatK (fun _ => zeroK) n)).toArray 54)) := by
    have hi := made_con
    cases hq : Try.prog.info? 54 with
    | none => simp [hq] at hi
    | some q =>
      simp only [hq, Option.map_some, Option.some.injEq, Prod.mk.injEq] at hi
      obtain ⟨h0, h1, h2⟩ := hi
      have := run_makeSlice (P := Try.prog) w 44 54 q _ un_cons hq h0 .i64 .i64 (n : Int) (n : Int) (by omega) (by omega) (by rw [h1]; simp; omega) (by rw [h2]; simp; omega) (by omega)
      rw [this, h1]
      have e : madeCells (Value.agg (u8s zeroK).toArray).cells ((n : Int).toNat * 64) = (u8s (flatK (fun _ => zeroK) n)).toArray := made_rows n
      rw [e]
      simp
  unfold Oper.wp execOp
  simp only [hx, hy, Sem.run_bind, Sem.run_pure, Result.andThen_ok, hr]
  exact hh
end
set_option maxRecDepth 100000 in
theorem own_noneV {W : World} {m : Nat} (h : W.heap[m]? = some (.map #[] 0)) : W.ownsMap Try.prog 3 rdV m 0 (.map []) := ⟨#[], 0, h, ⟨by simp, stamped_empty 0, by simp⟩, Nat.le_refl _, rfl⟩
end Go.Proofs.Ytbaijhlkkeongaa
