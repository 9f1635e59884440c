/- The walk of the law SealNonces. -/
import Derived.Test.YtbfccepddfinoaaDoorSealKnown
namespace Go.Proofs.YtbfccepddfinoaaDoor
open Go Go.RowKit
open Go.Maps
set_option maxRecDepth 100000 in
theorem nce_row : (30 : TypeId) < Tryd.prog.types.size := of_decide_eq_true (by kernel_rfl)
set_option maxRecDepth 100000 in
theorem nce_wide : (match Tryd.prog.underlying 30 with | some (.array _ _) | some (.struct _) => true | _ => false) = true := by kernel_rfl
set_option maxRecDepth 100000 in
theorem nce_law : Keyed Tryd.prog 30 := Keyed.of_law (deep_law_laid key_laid (m := 2) (by omega) nce_row (by kernel_rfl) nce_wide)
set_option maxRecDepth 100000 in
theorem nce_type : Tryd.prog.keyType 30 = true := by kernel_rfl
set_option maxRecDepth 100000 in
theorem nce_cells : Tryd.prog.cellsOf 30 = 12 := by kernel_rfl
set_option maxRecDepth 100000 in
theorem nce_of (zs : List Int) (hl : zs.length = 12) (hb : Bytes zs) : ∃ kl, keyOf Tryd.prog 30 (.agg (u8s zs).toArray) = some kl := by
  obtain ⟨n, hn⟩ := types_some
  have hf : (Value.agg (u8s zs).toArray).formed Tryd.prog 30 = true := by
    simp [Value.formed, nce_cells, u8s_length, hl]
  have hk : Tryd.prog.keyLits (Tryd.prog.types.size + 1) 30 (u8s zs) = some ((List.range 12).map fun i => [Lit.int .u8 (zs.getD i 0)]).flatten := by
    unfold Program.keyLits
    simp only [un_nce]
    rw [if_pos (by rw [u8s_length, hl, nce_cells]), mapM_all (g := fun i => [Lit.int .u8 (zs.getD i 0)])]
    · rfl
    · intro i hi
      have hi' : i < zs.length := by rw [hl]; exact List.mem_range.1 hi
      have hc : (List.drop (i * Tryd.prog.cellsOf 5) (u8s zs)).take (Tryd.prog.cellsOf 5) = [.int .u8 (zs.getD i 0)] := by
        rw [byte_cells, Nat.mul_one, List.take_one, List.head?_drop, u8s_get zs i hi']
        rfl
      have := hb.get i
      rw [hc, hn]
      unfold Program.keyLits
      have hg := wf_u8 _ this.1 this.2
      simp only [un_u8]
      exact if_pos ⟨trivial, hg⟩
  unfold keyOf
  rw [un_nce]
  simp only
  rw [if_pos (by rw [nce_type, hf]; rfl)]
  exact ⟨_, by rw [show (Value.agg (u8s zs).toArray).cells.toList = u8s zs from rfl, hk]; rfl⟩
set_option maxRecDepth 100000 in
theorem un_nmap : Tryd.prog.underlying 50 = some (.map 30 3) := Tryd.underlying50
set_option maxRecDepth 100000 in
theorem un_intN : Tryd.prog.underlying 3 = some (.int .i64) := Tryd.underlying3
set_option maxRecDepth 100000 in
theorem zero_intN : ∀ w, (zeroValue 3).run Tryd.prog w = .ok (.int .i64 0) w := (zero_of_info (show (Tryd.prog.info? 3).map (fun i => (i.zero, i.size)) = some (some (.int .i64 0), 1) by kernel_rfl)).1
set_option maxRecDepth 100000 in
theorem agg_injN {a b : List Int} (h : Value.agg (u8s a).toArray = Value.agg (u8s b).toArray) : a = b := by
  have h2 : u8s a = u8s b := by simpa using h
  unfold u8s at h2
  exact (List.map_inj_right (fun x y hxy => by simpa using hxy)).1 h2
/-- What the call holds: its rows and its map. -/
structure Nm (w0 w : World) (m q : Nat) (D : DataW Unit) (rows : List (Nat × List Value × TypeId)) : Prop where
  mem : Mem w0 [] w rows
  map : w.ownsMap Tryd.prog 30 (plainElem Tryd.prog 3) m q D
  new : w0.heap.size ≤ m
section
variable {ops : Array Oper} {rest : List Oper} {a : Act} {w w0 w' : World} {Q : Exit → Act → World → Prop} {dst : Option Tmp} {typ : TypeId} {pos : String} {aft : Array Edge} {gd : Option (Nat × Bool)} {m q : Nat} {D D' : DataW Unit} {rows : List (Nat × List Value × TypeId)}
set_option maxRecDepth 100000 in
theorem own_noneN {W : World} {m : Nat} (h : W.heap[m]? = some (.map #[] 0)) (R : Value → Option (DataW Unit × List MemPlace)) : W.ownsMap Tryd.prog 30 R m 0 (.map []) :=
  ⟨#[], 0, h, ⟨by simp, MapKept.stamped_empty 0, by simp⟩, Nat.le_refl _, rfl⟩
set_option maxRecDepth 100000 in
theorem Nm.start (hm : Mem w0 [] w rows) (h : w.heap[m]? = some (.map #[] 0)) (hn : w0.heap.size ≤ m) : Nm w0 w m 0 (.map []) rows := ⟨hm, own_noneN h _, hn⟩
set_option maxRecDepth 100000 in
theorem Nm.drew (h : Nm w0 w m q D rows) : Nm w0 w.drew m q D rows := ⟨h.mem.drew, h.map, h.new⟩
set_option maxRecDepth 100000 in
theorem Nm.put (h : Nm w0 w m q D rows) (hown : w'.ownsMap Tryd.prog 30 (plainElem Tryd.prog 3) m (q + 1) D') (hg : w.grownBy w' (some m)) : Nm w0 w' m (q + 1) D' rows := by
  obtain ⟨es, c, hb, _⟩ := h.map
  have hu : Upd m w w' := ⟨hg.os, hg.tape, hg.output, hg.size, fun k hk hn => hg.block k hk (by simpa using hn)⟩
  exact ⟨h.mem.updO hb (Or.inr h.new) hu, hown, h.new⟩
set_option maxRecDepth 100000 in
theorem wpl_insN {x k : Operand} {z : List Int} {kl : Lit} (n : Int) (st : Nm w0 w m q D rows) (hq : q < 1000) (hx : a.eval x = .map (some m)) (hk : a.eval k = .agg (u8s z).toArray) (hkey : keyOf Tryd.prog 30 (.agg (u8s z).toArray) = some kl) (hwf : (Lit.int .i64 n).wf = true)
    (h : ∀ w', Nm w0 w' m (q + 1) (D.put kl (.lit (.int .i64 n))) rows → wpList Tryd.prog ops Q rest (a.put dst undef) w') :
    wpList Tryd.prog ops Q ({ dst := dst, op := .insert 50 x k (.const (.int .i64 n)), type := typ, pos := pos, after := aft, guard := none } :: rest) a w := by
  refine wpList_plain rfl fun K' hK' => ?_
  obtain ⟨w', hrun, r1, r2⟩ := st.map.update nce_law un_nmap (by unfold maxLen; omega) hkey (plainElem_int un_intN hwf)
  have hh := hK' _ _ (h w' (st.put r1 r2))
  have hc : a.eval (.const (.int .i64 n)) = .int .i64 n := rfl
  unfold Oper.wp
  simp [execOp, hx, hk, hc, hrun, Result.andThen]
  exact hh
set_option maxRecDepth 100000 in
theorem wpl_updN {x k : Operand} {z : List Int} {kl : Lit} (n : Int) (st : Nm w0 w m q D rows) (hq : q < 1000) (hx : a.eval x = .map (some m)) (hk : a.eval k = .agg (u8s z).toArray) (hkey : keyOf Tryd.prog 30 (.agg (u8s z).toArray) = some kl) (hwf : (Lit.int .i64 n).wf = true)
    (h : ∀ w', Nm w0 w' m (q + 1) (D.put kl (.lit (.int .i64 n))) rows → wpList Tryd.prog ops Q rest (a.put dst undef) w') :
    wpList Tryd.prog ops Q ({ dst := dst, op := .mapUpdate 50 x k (.const (.int .i64 n)), type := typ, pos := pos, after := aft, guard := none } :: rest) a w := by
  refine wpList_plain rfl fun K' hK' => ?_
  obtain ⟨w', hrun, r1, r2⟩ := st.map.update nce_law un_nmap (by unfold maxLen; omega) hkey (plainElem_int un_intN hwf)
  have hh := hK' _ _ (h w' (st.put r1 r2))
  have hc : a.eval (.const (.int .i64 n)) = .int .i64 n := rfl
  unfold Oper.wp
  simp [execOp, hx, hk, hc, hrun, Result.andThen]
  exact hh
set_option maxRecDepth 100000 in
theorem exec_lookN {x k : Operand} {z : List Int} {kl : Lit} (c : Int) (st : Nm w0 w m q D rows) (hx : a.eval x = .map (some m)) (hk : a.eval k = .agg (u8s z).toArray) (hkey : keyOf Tryd.prog 30 (.agg (u8s z).toArray) = some kl) (hat : D.atKey kl (.lit (.int .i64 0)) = .lit (.int .i64 c)) :
    (execOp a.eval { dst := dst, op := .lookup 50 x k false, type := typ, pos := pos, after := aft, guard := gd }).run Tryd.prog w = .ok (.value (.int .i64 c)) w := by
  obtain ⟨c', hrun, hat', _⟩ := st.map.lookup_int nce_law un_nmap un_intN (zero_intN w) hkey
  rw [hat] at hat'
  have hc : c = c' := by simpa using hat'
  subst hc
  unfold execOp
  simp only [hx, hk, hrun, Sem.run_bind, Sem.run_pure, Result.andThen_ok]
set_option maxRecDepth 100000 in
theorem exec_lenN {x : Operand} (n : Int) (st : Nm w0 w m q D rows) (hx : a.eval x = .map (some m)) (hn : ((Maps.size D : Nat) : Int) = n) :
    (execOp a.eval { dst := dst, op := .call { callee := .builtin .len, args := #[x], argTypes := #[50] }, type := typ, pos := pos, after := aft, guard := gd }).run Tryd.prog w = .ok (.value (.int .i64 n)) w := by
  have hr := st.map.len un_nmap typ
  subst hn
  unfold execOp
  simp only [resolve, invoke, builtin, Sem.run_bind, Sem.run_pure, Result.andThen_ok, List.map_toArray, List.map_cons, List.map_nil, hx, hr]
set_option maxRecDepth 100000 in
theorem anyH_startN {R : Act → World → Prop} {T : World → Prop} {id : Nat} {l : List Oper} (hmix : Tryd.prog.follows .mixedOrders = true) (st : Nm w0 w m q D rows)
    (h : ∀ w', Nm w0 w' m q D rows → wpAnyH Tryd.prog .any l.toArray (endsIn R) T l.toArray.size (Array.replicate l.toArray.size false) a w') : (Code.region id l.toArray true).wp Tryd.prog (endsIn R) a w :=
  wp_region_held hmix (h _ st.drew)
end
def twoIn (ka kb : Lit) : DataW Unit := ((DataW.map []).put ka (.lit (.int .i64 1))).put kb (.lit (.int .i64 2))
set_option maxRecDepth 100000 in
theorem two_same (k : Lit) (hk : WideAt.IsKeyLit k) : (twoIn k k).atKey k (.lit (.int .i64 0)) = .lit (.int .i64 2) ∧ Maps.size (twoIn k k) = 1 := by
  refine ⟨atKey_put_same (isMap_empty.put _ _) hk _ _, ?_⟩
  unfold twoIn
  rw [size_put (tidy_empty.put hk _), has_put_same isMap_empty hk, if_pos rfl, size_put tidy_empty]
  rfl
set_option maxRecDepth 100000 in
theorem two_apart (ka kb : Lit) (hka : WideAt.IsKeyLit ka) (h : ka ≠ kb) : (twoIn ka kb).atKey ka (.lit (.int .i64 0)) = .lit (.int .i64 1) ∧ Maps.size (twoIn ka kb) = 2 := by
  refine ⟨?_, ?_⟩
  · unfold twoIn
    rw [atKey_put_other h]
    exact atKey_put_same isMap_empty hka _ _
  · unfold twoIn
    rw [size_put (tidy_empty.put hka _), has_put_other (Ne.symm h), size_put tidy_empty]
    rfl
set_option maxHeartbeats 2000000 in
set_option maxRecDepth 100000 in
theorem sealNonces_same (p n : Int) (hp0 : 0 ≤ p ∧ p < 4294967296) (w : World) (ht : Tab w) (hq : QTab w) :
    Calls Tryd.prog 7 #[.int .u32 p, .int .u32 p, .int .u64 n, .int .u64 n] w fun e w' => e = .returned (.bool true) ∧ Below w.heap.size w w' := by
  have hm := Mem.start w
  have HT : Hid _ := ht
  have HQ : Hid _ := hq
  have HP : Hid (0 ≤ p ∧ p < 4294967296) := hp0
  obtain ⟨A, hA⟩ : ∃ A, A = nonceOf p n := ⟨_, rfl⟩
  have HAA : Hid (∀ _ : Unit, nonceOf p n = A) := fun _ => hA.symm
  have HAL : Hid (A.length = 12) := by show _ = _; rw [hA, nonceOf_length]
  have HAU : Hid ((u8s A).length = 12) := by show _ = _; rw [u8s_length]; exact HAL.out
  obtain ⟨ka, hka⟩ := nce_of A HAL.out (by rw [hA]; exact nonceOf_bytes _ _)
  have HKA : Hid _ := hka
  obtain ⟨hat, hsz⟩ := two_same ka (nce_law.key hka)
  have HAT : Hid (∀ _ : Unit, (twoIn ka ka).atKey ka (.lit (.int .i64 0)) = .lit (.int .i64 2)) := fun _ => hat
  have HSZ : Hid (((Maps.size (twoIn ka ka) : Nat) : Int) = 1) := by show _ = _; rw [hsz]; rfl
  clear ht hq hp0 hA hka hat hsz
  go_enter Tryd.func7, Tryd.ntmps7
  go_wp2_with (first
    | (go_at_call 9; refine (known5_any _ (Tab.mem HT.out hm (by simp)) (QTab.mem HQ.out hm (by simp))).mono ?_; rintro e wk ⟨rfl, hb⟩; replace hm := hm.call hb; clear hb))
  refine (nonce_any p n HP.out _).mono ?_
  rintro e w1 ⟨he, hb⟩
  rw [HAA.out ()] at he
  subst he
  replace hm := hm.call hb
  clear hb
  go_wp2_with fail
  refine (nonce_any p n HP.out _).mono ?_
  rintro e w2 ⟨he, hb⟩
  rw [HAA.out ()] at he
  subst he
  replace hm := hm.call hb
  clear hb
  go_wp2_with (first
    | ((with_reducible refine at_op (some 9) (.alloc 30) ?_); refine wpl_alloc _ zero_nce hm ?_; clear hm; intro w3 g9 hm)
    | ((with_reducible refine at_op (some 10) (.alloc 30) ?_); refine wpl_alloc _ zero_nce hm ?_; clear hm; intro w4 g10 hm)
    | ((with_reducible refine at_op none (.store 30 (.tmp 9) (.tmp 16)) ?_); refine wpl_stw 1 (u8s A) hm rfl rfl rfl 12 sz_nce (by simp [u8s_length]) (HAU.out) (u8s_one _) ?_; clear hm; intro w5 hm)
    | ((with_reducible refine at_op none (.store 30 (.tmp 10) (.tmp 19)) ?_); refine wpl_stw 0 (u8s A) hm rfl rfl rfl 12 sz_nce (by simp [u8s_length]) (HAU.out) (u8s_one _) ?_; clear hm; intro w6 hm)
    | ((with_reducible refine at_op (some 20) (.makeMap 50 none) ?_); go_must (refine wpl_mkmap hm ?_); clear hm; intro w7 m hmp hnew hm; have st := Nm.start hm hmp hnew; clear hm hmp hnew)
    | ((with_reducible refine at_op (some 21) (.load 30 (.tmp 9)) ?_); refine wpl_ldw 1 st.mem rfl rfl _ un_nce rfl 12 sz_nce (HAU.out) ?_)
    | ((with_reducible refine at_op none (.insert 50 (.tmp 20) (.tmp 21) (.const (.int .i64 1))) ?_); go_must (refine wpl_insN 1 st (by omega) rfl rfl HKA.out (by decide) ?_); clear st; intro w8 st)
    | ((with_reducible refine at_op (some 24) (.load 30 (.tmp 10)) ?_); refine wpl_ldw 0 st.mem rfl rfl _ un_nce rfl 12 sz_nce (HAU.out) ?_)
    | ((with_reducible refine at_op none (.mapUpdate 50 (.tmp 23) (.tmp 24) (.const (.int .i64 2))) ?_); go_must (refine wpl_updN 2 st (by omega) rfl rfl HKA.out (by decide) ?_); clear st; intro w9 st; replace st : Nm w w9 m 2 (twoIn ka ka) [(g10, u8s A, 30), (g9, u8s A, 30)] := st))
  refine wp_ends0 ?_
  refine anyH_startN (T := fun W => Nm w W m 2 (twoIn ka ka) [(g10, u8s A, 30), (g9, u8s A, 30)]) (by kernel_rfl) st ?_
  clear st
  intro w10 st
  refine anyH_takeG 0 (v := .agg (u8s A).toArray) rfl (by kernel_rfl) (by kernel_rfl) (by kernel_rfl) rfl (fun W hW => exec_ldsG 0 _ (Mem.get hW.mem 1 rfl) rfl _ un_nce rfl 12 sz_nce (by rw [HAU.out]; omega) (by rw [List.drop_zero, List.take_of_length_le (Nat.le_of_eq HAU.out)])) st ?_
  go_simp
  refine anyH_takeG 1 (v := .agg (u8s A).toArray) rfl (by kernel_rfl) (by kernel_rfl) (by kernel_rfl) rfl (fun W hW => exec_ldsG 0 _ (Mem.get hW.mem 0 rfl) rfl _ un_nce rfl 12 sz_nce (by rw [HAU.out]; omega) (by rw [List.drop_zero, List.take_of_length_le (Nat.le_of_eq HAU.out)])) st ?_
  go_simp
  refine anyH_takeG 2 (v := .bool true) rfl (by kernel_rfl) (by kernel_rfl) (by kernel_rfl) rfl (fun W _ => exec_eqK _ 12 .u8 A A true (decide_eq_true rfl) rfl rfl un_nce un_u8 sz_u8 eg_nce HAL.out HAL.out) st ?_
  go_simp
  refine anyH_takeG 3 (v := .int .u32 p) rfl (by kernel_rfl) (by kernel_rfl) (by kernel_rfl) rfl (fun W _ => by go_simp) st ?_
  go_simp
  refine anyH_takeG 4 (v := .int .u32 p) rfl (by kernel_rfl) (by kernel_rfl) (by kernel_rfl) rfl (fun W _ => by go_simp) st ?_
  go_simp
  refine anyH_takeG 5 (v := .bool true) rfl (by kernel_rfl) (by kernel_rfl) (by kernel_rfl) rfl (fun W _ => by go_simp) st ?_
  go_simp
  refine anyH_takeG 6 (v := .bool true) rfl (by kernel_rfl) (by kernel_rfl) (by kernel_rfl) rfl (fun W _ => by go_simp) st ?_
  go_simp
  refine anyH_takeG 7 (v := .int .u64 n) rfl (by kernel_rfl) (by kernel_rfl) (by kernel_rfl) rfl (fun W _ => by go_simp) st ?_
  go_simp
  refine anyH_takeG 8 (v := .int .u64 n) rfl (by kernel_rfl) (by kernel_rfl) (by kernel_rfl) rfl (fun W _ => by go_simp) st ?_
  go_simp
  refine anyH_takeG 9 (v := .bool true) rfl (by kernel_rfl) (by kernel_rfl) (by kernel_rfl) rfl (fun W _ => by go_simp) st ?_
  go_simp
  refine anyH_takeG 10 (v := .bool true) rfl (by kernel_rfl) (by kernel_rfl) (by kernel_rfl) rfl (fun W _ => by go_simp) st ?_
  go_simp
  refine anyH_takeG 11 (v := .bool true) rfl (by kernel_rfl) (by kernel_rfl) (by kernel_rfl) rfl (fun W _ => by go_simp) st ?_
  go_simp
  refine anyH_takeG 12 (v := .bool true) rfl (by kernel_rfl) (by kernel_rfl) (by kernel_rfl) rfl (fun W _ => by go_simp) st ?_
  go_simp
  refine anyH_takeG 13 (v := .map (some m)) rfl (by kernel_rfl) (by kernel_rfl) (by kernel_rfl) rfl (fun W _ => by go_simp) st ?_
  go_simp
  refine anyH_takeG 14 (v := .agg (u8s A).toArray) rfl (by kernel_rfl) (by kernel_rfl) (by kernel_rfl) rfl (fun W hW => exec_ldsG 0 _ (Mem.get hW.mem 1 rfl) rfl _ un_nce rfl 12 sz_nce (by rw [HAU.out]; omega) (by rw [List.drop_zero, List.take_of_length_le (Nat.le_of_eq HAU.out)])) st ?_
  go_simp
  refine anyH_takeG 15 (v := .int .i64 2) rfl (by kernel_rfl) (by kernel_rfl) (by kernel_rfl) rfl (fun W hW => exec_lookN 2 hW rfl rfl HKA.out (HAT.out ())) st ?_
  go_simp
  refine anyH_takeG 16 (v := .bool true) rfl (by kernel_rfl) (by kernel_rfl) (by kernel_rfl) rfl (fun W _ => by go_simp) st ?_
  go_simp
  refine anyH_takeG 17 (v := .agg (u8s A).toArray) rfl (by kernel_rfl) (by kernel_rfl) (by kernel_rfl) rfl (fun W hW => exec_ldsG 0 _ (Mem.get hW.mem 1 rfl) rfl _ un_nce rfl 12 sz_nce (by rw [HAU.out]; omega) (by rw [List.drop_zero, List.take_of_length_le (Nat.le_of_eq HAU.out)])) st ?_
  go_simp
  refine anyH_takeG 18 (v := .agg (u8s A).toArray) rfl (by kernel_rfl) (by kernel_rfl) (by kernel_rfl) rfl (fun W hW => exec_ldsG 0 _ (Mem.get hW.mem 0 rfl) rfl _ un_nce rfl 12 sz_nce (by rw [HAU.out]; omega) (by rw [List.drop_zero, List.take_of_length_le (Nat.le_of_eq HAU.out)])) st ?_
  go_simp
  refine anyH_takeG 19 (v := .bool true) rfl (by kernel_rfl) (by kernel_rfl) (by kernel_rfl) rfl (fun W _ => exec_eqK _ 12 .u8 A A true (decide_eq_true rfl) rfl rfl un_nce un_u8 sz_u8 eg_nce HAL.out HAL.out) st ?_
  go_simp
  refine anyH_takeG 20 (v := .bool true) rfl (by kernel_rfl) (by kernel_rfl) (by kernel_rfl) rfl (fun W _ => by go_simp) st ?_
  go_simp
  refine anyH_takeG 21 (v := .bool true) rfl (by kernel_rfl) (by kernel_rfl) (by kernel_rfl) rfl (fun W _ => by go_simp) st ?_
  go_simp
  refine anyH_takeG 22 (v := .bool true) rfl (by kernel_rfl) (by kernel_rfl) (by kernel_rfl) rfl (fun W _ => by go_simp) st ?_
  go_simp
  refine anyH_takeG 23 (v := .map (some m)) rfl (by kernel_rfl) (by kernel_rfl) (by kernel_rfl) rfl (fun W _ => by go_simp) st ?_
  go_simp
  refine anyH_takeG 24 (v := .int .i64 1) rfl (by kernel_rfl) (by kernel_rfl) (by kernel_rfl) rfl (fun W hW => exec_lenN 1 hW rfl HSZ.out) st ?_
  go_simp
  refine anyH_takeG 25 (v := .map (some m)) rfl (by kernel_rfl) (by kernel_rfl) (by kernel_rfl) rfl (fun W _ => by go_simp) st ?_
  go_simp
  refine anyH_takeG 26 (v := .agg (u8s A).toArray) rfl (by kernel_rfl) (by kernel_rfl) (by kernel_rfl) rfl (fun W hW => exec_ldsG 0 _ (Mem.get hW.mem 1 rfl) rfl _ un_nce rfl 12 sz_nce (by rw [HAU.out]; omega) (by rw [List.drop_zero, List.take_of_length_le (Nat.le_of_eq HAU.out)])) st ?_
  go_simp
  refine anyH_takeG 27 (v := .int .i64 2) rfl (by kernel_rfl) (by kernel_rfl) (by kernel_rfl) rfl (fun W hW => exec_lookN 2 hW rfl rfl HKA.out (HAT.out ())) st ?_
  go_simp
  refine anyH_takeG 28 (v := .int .i64 1) rfl (by kernel_rfl) (by kernel_rfl) (by kernel_rfl) rfl (fun W _ => by go_simp; exact wrapi _ (by omega) (by omega)) st ?_
  go_simp
  refine anyH_takeG 29 (v := .int .i64 1) rfl (by kernel_rfl) (by kernel_rfl) (by kernel_rfl) rfl (fun W _ => by go_simp; exact wrapi _ (by omega) (by omega)) st ?_
  go_simp
  refine anyH_takeG 30 (v := .bool true) rfl (by kernel_rfl) (by kernel_rfl) (by kernel_rfl) rfl (fun W _ => by go_simp) st ?_
  go_simp
  refine anyH_takeG 31 (v := .bool true) rfl (by kernel_rfl) (by kernel_rfl) (by kernel_rfl) rfl (fun W _ => by go_simp) st ?_
  go_simp
  refine anyH_takeG 32 (v := .bool true) rfl (by kernel_rfl) (by kernel_rfl) (by kernel_rfl) rfl (fun W _ => by go_simp) st ?_
  go_simp
  refine wpAnyH_done (by kernel_rfl) ?_ _
  simp only [endsIn]
  go_wp2_with fail
  go_ret
  exact ⟨rfl, st.mem.below⟩
set_option maxHeartbeats 2000000 in
set_option maxRecDepth 100000 in
theorem sealNonces_page (p q n h : Int) (hp0 : 0 ≤ p ∧ p < 4294967296) (hq0 : 0 ≤ q ∧ q < 4294967296) (hn : 0 ≤ n ∧ n < 18446744073709551616) (hh : 0 ≤ h ∧ h < 18446744073709551616) (hne : ¬ p = q) (w : World) (ht : Tab w) (hq : QTab w) :
    Calls Tryd.prog 7 #[.int .u32 p, .int .u32 q, .int .u64 n, .int .u64 h] w fun e w' => e = .returned (.bool true) ∧ Below w.heap.size w w' := by
  have hm := Mem.start w
  have HT : Hid _ := ht
  have HQ : Hid _ := hq
  have HP : Hid (0 ≤ p ∧ p < 4294967296) := hp0
  obtain ⟨A, hA⟩ : ∃ A, A = nonceOf p n := ⟨_, rfl⟩
  have HAA : Hid (∀ _ : Unit, nonceOf p n = A) := fun _ => hA.symm
  have HAL : Hid (A.length = 12) := by show _ = _; rw [hA, nonceOf_length]
  have HAU : Hid ((u8s A).length = 12) := by show _ = _; rw [u8s_length]; exact HAL.out
  obtain ⟨ka, hka⟩ := nce_of A HAL.out (by rw [hA]; exact nonceOf_bytes _ _)
  have HKA : Hid _ := hka
  obtain ⟨B, hB⟩ : ∃ B, B = nonceOf q h := ⟨_, rfl⟩
  have HBB : Hid (∀ _ : Unit, nonceOf q h = B) := fun _ => hB.symm
  have HBL : Hid (B.length = 12) := by show _ = _; rw [hB, nonceOf_length]
  have HBU : Hid ((u8s B).length = 12) := by show _ = _; rw [u8s_length]; exact HBL.out
  obtain ⟨kb, hkb⟩ := nce_of B HBL.out (by rw [hB]; exact nonceOf_bytes _ _)
  have HKB2 : Hid _ := hkb
  have hAB : ¬ A = B := by
    rw [hA, hB]
    exact fun e => hne (((nonceOf_eq hp0 hq0 hn hh).1 e).1)
  have hkk : ka ≠ kb := fun e => hAB (agg_injN (nce_law.inj hka (by rw [e]; exact hkb)))
  have HDE : Hid (decide (A = B) = false) := decide_eq_false hAB
  obtain ⟨hat, hsz⟩ := two_apart ka kb (nce_law.key hka) hkk
  have HAT : Hid (∀ _ : Unit, (twoIn ka kb).atKey ka (.lit (.int .i64 0)) = .lit (.int .i64 1)) := fun _ => hat
  have HSZ : Hid (((Maps.size (twoIn ka kb) : Nat) : Int) = 2) := by show _ = _; rw [hsz]; rfl
  have hpq : (p == q) = false := by simpa using hne
  have HQ0 : Hid (0 ≤ q ∧ q < 4294967296) := hq0
  clear ht hq hp0 hA hka hat hsz hn hh hB hkb hAB hkk hne hq0
  go_enter Tryd.func7, Tryd.ntmps7
  go_wp2_with (first
    | (go_at_call 9; refine (known5_any _ (Tab.mem HT.out hm (by simp)) (QTab.mem HQ.out hm (by simp))).mono ?_; rintro e wk ⟨rfl, hb⟩; replace hm := hm.call hb; clear hb))
  refine (nonce_any p n HP.out _).mono ?_
  rintro e w1 ⟨he, hb⟩
  rw [HAA.out ()] at he
  subst he
  replace hm := hm.call hb
  clear hb
  go_wp2_with fail
  refine (nonce_any q h HQ0.out _).mono ?_
  rintro e w2 ⟨he, hb⟩
  rw [HBB.out ()] at he
  subst he
  replace hm := hm.call hb
  clear hb
  go_wp2_with (first
    | ((with_reducible refine at_op (some 9) (.alloc 30) ?_); refine wpl_alloc _ zero_nce hm ?_; clear hm; intro w3 g9 hm)
    | ((with_reducible refine at_op (some 10) (.alloc 30) ?_); refine wpl_alloc _ zero_nce hm ?_; clear hm; intro w4 g10 hm)
    | ((with_reducible refine at_op none (.store 30 (.tmp 9) (.tmp 16)) ?_); refine wpl_stw 1 (u8s A) hm rfl rfl rfl 12 sz_nce (by simp [u8s_length]) (HAU.out) (u8s_one _) ?_; clear hm; intro w5 hm)
    | ((with_reducible refine at_op none (.store 30 (.tmp 10) (.tmp 19)) ?_); refine wpl_stw 0 (u8s B) hm rfl rfl rfl 12 sz_nce (by simp [u8s_length]) (HBU.out) (u8s_one _) ?_; clear hm; intro w6 hm)
    | ((with_reducible refine at_op (some 20) (.makeMap 50 none) ?_); go_must (refine wpl_mkmap hm ?_); clear hm; intro w7 m hmp hnew hm; have st := Nm.start hm hmp hnew; clear hm hmp hnew)
    | ((with_reducible refine at_op (some 21) (.load 30 (.tmp 9)) ?_); refine wpl_ldw 1 st.mem rfl rfl _ un_nce rfl 12 sz_nce (HAU.out) ?_)
    | ((with_reducible refine at_op none (.insert 50 (.tmp 20) (.tmp 21) (.const (.int .i64 1))) ?_); go_must (refine wpl_insN 1 st (by omega) rfl rfl HKA.out (by decide) ?_); clear st; intro w8 st)
    | ((with_reducible refine at_op (some 24) (.load 30 (.tmp 10)) ?_); refine wpl_ldw 0 st.mem rfl rfl _ un_nce rfl 12 sz_nce (HBU.out) ?_)
    | ((with_reducible refine at_op none (.mapUpdate 50 (.tmp 23) (.tmp 24) (.const (.int .i64 2))) ?_); go_must (refine wpl_updN 2 st (by omega) rfl rfl HKB2.out (by decide) ?_); clear st; intro w9 st; replace st : Nm w w9 m 2 (twoIn ka kb) [(g10, u8s B, 30), (g9, u8s A, 30)] := st))
  refine wp_ends0 ?_
  refine anyH_startN (T := fun W => Nm w W m 2 (twoIn ka kb) [(g10, u8s B, 30), (g9, u8s A, 30)]) (by kernel_rfl) st ?_
  clear st
  intro w10 st
  refine anyH_takeG 0 (v := .agg (u8s A).toArray) rfl (by kernel_rfl) (by kernel_rfl) (by kernel_rfl) rfl (fun W hW => exec_ldsG 0 _ (Mem.get hW.mem 1 rfl) rfl _ un_nce rfl 12 sz_nce (by rw [HAU.out]; omega) (by rw [List.drop_zero, List.take_of_length_le (Nat.le_of_eq HAU.out)])) st ?_
  go_simp
  refine anyH_takeG 1 (v := .agg (u8s B).toArray) rfl (by kernel_rfl) (by kernel_rfl) (by kernel_rfl) rfl (fun W hW => exec_ldsG 0 _ (Mem.get hW.mem 0 rfl) rfl _ un_nce rfl 12 sz_nce (by rw [HBU.out]; omega) (by rw [List.drop_zero, List.take_of_length_le (Nat.le_of_eq HBU.out)])) st ?_
  go_simp
  refine anyH_takeG 2 (v := .bool false) rfl (by kernel_rfl) (by kernel_rfl) (by kernel_rfl) rfl (fun W _ => exec_eqK _ 12 .u8 A B false (HDE.out) rfl rfl un_nce un_u8 sz_u8 eg_nce HAL.out HBL.out) st ?_
  go_simp
  refine anyH_takeG 3 (v := .int .u32 p) rfl (by kernel_rfl) (by kernel_rfl) (by kernel_rfl) rfl (fun W _ => by go_simp) st ?_
  go_simp
  refine anyH_takeG 4 (v := .int .u32 q) rfl (by kernel_rfl) (by kernel_rfl) (by kernel_rfl) rfl (fun W _ => by go_simp) st ?_
  go_simp
  refine anyH_takeG 5 (v := .bool false) rfl (by kernel_rfl) (by kernel_rfl) (by kernel_rfl) rfl (fun W _ => by go_simp) st ?_
  go_simp
  refine anyH_takeG 6 (v := .bool false) rfl (by kernel_rfl) (by kernel_rfl) (by kernel_rfl) rfl (fun W _ => by go_simp) st ?_
  go_simp
  refine anyH_skip 7 rfl (by kernel_rfl) (by kernel_rfl) (by kernel_rfl) rfl st ?_
  go_simp
  refine anyH_skip 8 rfl (by kernel_rfl) (by kernel_rfl) (by kernel_rfl) rfl st ?_
  go_simp
  refine anyH_skip 9 rfl (by kernel_rfl) (by kernel_rfl) (by kernel_rfl) rfl st ?_
  go_simp
  refine anyH_takeG 10 (v := .bool false) rfl (by kernel_rfl) (by kernel_rfl) (by kernel_rfl) rfl (fun W _ => by go_simp) st ?_
  go_simp
  refine anyH_takeG 11 (v := .bool true) rfl (by kernel_rfl) (by kernel_rfl) (by kernel_rfl) rfl (fun W _ => by go_simp) st ?_
  go_simp
  refine anyH_takeG 12 (v := .bool true) rfl (by kernel_rfl) (by kernel_rfl) (by kernel_rfl) rfl (fun W _ => by go_simp) st ?_
  go_simp
  refine anyH_takeG 13 (v := .map (some m)) rfl (by kernel_rfl) (by kernel_rfl) (by kernel_rfl) rfl (fun W _ => by go_simp) st ?_
  go_simp
  refine anyH_takeG 14 (v := .agg (u8s A).toArray) rfl (by kernel_rfl) (by kernel_rfl) (by kernel_rfl) rfl (fun W hW => exec_ldsG 0 _ (Mem.get hW.mem 1 rfl) rfl _ un_nce rfl 12 sz_nce (by rw [HAU.out]; omega) (by rw [List.drop_zero, List.take_of_length_le (Nat.le_of_eq HAU.out)])) st ?_
  go_simp
  refine anyH_takeG 15 (v := .int .i64 1) rfl (by kernel_rfl) (by kernel_rfl) (by kernel_rfl) rfl (fun W hW => exec_lookN 1 hW rfl rfl HKA.out (HAT.out ())) st ?_
  go_simp
  refine anyH_takeG 16 (v := .bool false) rfl (by kernel_rfl) (by kernel_rfl) (by kernel_rfl) rfl (fun W _ => by go_simp) st ?_
  go_simp
  refine anyH_takeG 17 (v := .agg (u8s A).toArray) rfl (by kernel_rfl) (by kernel_rfl) (by kernel_rfl) rfl (fun W hW => exec_ldsG 0 _ (Mem.get hW.mem 1 rfl) rfl _ un_nce rfl 12 sz_nce (by rw [HAU.out]; omega) (by rw [List.drop_zero, List.take_of_length_le (Nat.le_of_eq HAU.out)])) st ?_
  go_simp
  refine anyH_takeG 18 (v := .agg (u8s B).toArray) rfl (by kernel_rfl) (by kernel_rfl) (by kernel_rfl) rfl (fun W hW => exec_ldsG 0 _ (Mem.get hW.mem 0 rfl) rfl _ un_nce rfl 12 sz_nce (by rw [HBU.out]; omega) (by rw [List.drop_zero, List.take_of_length_le (Nat.le_of_eq HBU.out)])) st ?_
  go_simp
  refine anyH_takeG 19 (v := .bool false) rfl (by kernel_rfl) (by kernel_rfl) (by kernel_rfl) rfl (fun W _ => exec_eqK _ 12 .u8 A B false (HDE.out) rfl rfl un_nce un_u8 sz_u8 eg_nce HAL.out HBL.out) st ?_
  go_simp
  refine anyH_takeG 20 (v := .bool true) rfl (by kernel_rfl) (by kernel_rfl) (by kernel_rfl) rfl (fun W _ => by go_simp) st ?_
  go_simp
  refine anyH_takeG 21 (v := .bool true) rfl (by kernel_rfl) (by kernel_rfl) (by kernel_rfl) rfl (fun W _ => by go_simp) st ?_
  go_simp
  refine anyH_takeG 22 (v := .bool true) rfl (by kernel_rfl) (by kernel_rfl) (by kernel_rfl) rfl (fun W _ => by go_simp) st ?_
  go_simp
  refine anyH_takeG 23 (v := .map (some m)) rfl (by kernel_rfl) (by kernel_rfl) (by kernel_rfl) rfl (fun W _ => by go_simp) st ?_
  go_simp
  refine anyH_takeG 24 (v := .int .i64 2) rfl (by kernel_rfl) (by kernel_rfl) (by kernel_rfl) rfl (fun W hW => exec_lenN 2 hW rfl HSZ.out) st ?_
  go_simp
  refine anyH_takeG 25 (v := .map (some m)) rfl (by kernel_rfl) (by kernel_rfl) (by kernel_rfl) rfl (fun W _ => by go_simp) st ?_
  go_simp
  refine anyH_takeG 26 (v := .agg (u8s A).toArray) rfl (by kernel_rfl) (by kernel_rfl) (by kernel_rfl) rfl (fun W hW => exec_ldsG 0 _ (Mem.get hW.mem 1 rfl) rfl _ un_nce rfl 12 sz_nce (by rw [HAU.out]; omega) (by rw [List.drop_zero, List.take_of_length_le (Nat.le_of_eq HAU.out)])) st ?_
  go_simp
  refine anyH_takeG 27 (v := .int .i64 1) rfl (by kernel_rfl) (by kernel_rfl) (by kernel_rfl) rfl (fun W hW => exec_lookN 1 hW rfl rfl HKA.out (HAT.out ())) st ?_
  go_simp
  refine anyH_takeG 28 (v := .int .i64 0) rfl (by kernel_rfl) (by kernel_rfl) (by kernel_rfl) rfl (fun W _ => by go_simp; exact wrapi _ (by omega) (by omega)) st ?_
  go_simp
  refine anyH_takeG 29 (v := .int .i64 2) rfl (by kernel_rfl) (by kernel_rfl) (by kernel_rfl) rfl (fun W _ => by go_simp; exact wrapi _ (by omega) (by omega)) st ?_
  go_simp
  refine anyH_takeG 30 (v := .bool true) rfl (by kernel_rfl) (by kernel_rfl) (by kernel_rfl) rfl (fun W _ => by go_simp) st ?_
  go_simp
  refine anyH_takeG 31 (v := .bool true) rfl (by kernel_rfl) (by kernel_rfl) (by kernel_rfl) rfl (fun W _ => by go_simp) st ?_
  go_simp
  refine anyH_takeG 32 (v := .bool true) rfl (by kernel_rfl) (by kernel_rfl) (by kernel_rfl) rfl (fun W _ => by go_simp) st ?_
  go_simp
  refine wpAnyH_done (by kernel_rfl) ?_ _
  simp only [endsIn]
  go_wp2_with fail
  go_ret
  exact ⟨rfl, st.mem.below⟩
set_option maxHeartbeats 2000000 in
set_option maxRecDepth 100000 in
theorem sealNonces_gen (p n h : Int) (hp0 : 0 ≤ p ∧ p < 4294967296) (hn : 0 ≤ n ∧ n < 18446744073709551616) (hh : 0 ≤ h ∧ h < 18446744073709551616) (hne : ¬ n = h) (w : World) (ht : Tab w) (hq : QTab w) :
    Calls Tryd.prog 7 #[.int .u32 p, .int .u32 p, .int .u64 n, .int .u64 h] w fun e w' => e = .returned (.bool true) ∧ Below w.heap.size w w' := by
  have hm := Mem.start w
  have HT : Hid _ := ht
  have HQ : Hid _ := hq
  have HP : Hid (0 ≤ p ∧ p < 4294967296) := hp0
  obtain ⟨A, hA⟩ : ∃ A, A = nonceOf p n := ⟨_, rfl⟩
  have HAA : Hid (∀ _ : Unit, nonceOf p n = A) := fun _ => hA.symm
  have HAL : Hid (A.length = 12) := by show _ = _; rw [hA, nonceOf_length]
  have HAU : Hid ((u8s A).length = 12) := by show _ = _; rw [u8s_length]; exact HAL.out
  obtain ⟨ka, hka⟩ := nce_of A HAL.out (by rw [hA]; exact nonceOf_bytes _ _)
  have HKA : Hid _ := hka
  obtain ⟨B, hB⟩ : ∃ B, B = nonceOf p h := ⟨_, rfl⟩
  have HBB : Hid (∀ _ : Unit, nonceOf p h = B) := fun _ => hB.symm
  have HBL : Hid (B.length = 12) := by show _ = _; rw [hB, nonceOf_length]
  have HBU : Hid ((u8s B).length = 12) := by show _ = _; rw [u8s_length]; exact HBL.out
  obtain ⟨kb, hkb⟩ := nce_of B HBL.out (by rw [hB]; exact nonceOf_bytes _ _)
  have HKB2 : Hid _ := hkb
  have hAB : ¬ A = B := by
    rw [hA, hB]
    exact fun e => hne (((nonceOf_eq hp0 hp0 hn hh).1 e).2)
  have hkk : ka ≠ kb := fun e => hAB (agg_injN (nce_law.inj hka (by rw [e]; exact hkb)))
  have HDE : Hid (decide (A = B) = false) := decide_eq_false hAB
  obtain ⟨hat, hsz⟩ := two_apart ka kb (nce_law.key hka) hkk
  have HAT : Hid (∀ _ : Unit, (twoIn ka kb).atKey ka (.lit (.int .i64 0)) = .lit (.int .i64 1)) := fun _ => hat
  have HSZ : Hid (((Maps.size (twoIn ka kb) : Nat) : Int) = 2) := by show _ = _; rw [hsz]; rfl
  have hnh : (n == h) = false := by simpa using hne
  clear ht hq hp0 hA hka hat hsz hn hh hB hkb hAB hkk hne
  go_enter Tryd.func7, Tryd.ntmps7
  go_wp2_with (first
    | (go_at_call 9; refine (known5_any _ (Tab.mem HT.out hm (by simp)) (QTab.mem HQ.out hm (by simp))).mono ?_; rintro e wk ⟨rfl, hb⟩; replace hm := hm.call hb; clear hb))
  refine (nonce_any p n HP.out _).mono ?_
  rintro e w1 ⟨he, hb⟩
  rw [HAA.out ()] at he
  subst he
  replace hm := hm.call hb
  clear hb
  go_wp2_with fail
  refine (nonce_any p h HP.out _).mono ?_
  rintro e w2 ⟨he, hb⟩
  rw [HBB.out ()] at he
  subst he
  replace hm := hm.call hb
  clear hb
  go_wp2_with (first
    | ((with_reducible refine at_op (some 9) (.alloc 30) ?_); refine wpl_alloc _ zero_nce hm ?_; clear hm; intro w3 g9 hm)
    | ((with_reducible refine at_op (some 10) (.alloc 30) ?_); refine wpl_alloc _ zero_nce hm ?_; clear hm; intro w4 g10 hm)
    | ((with_reducible refine at_op none (.store 30 (.tmp 9) (.tmp 16)) ?_); refine wpl_stw 1 (u8s A) hm rfl rfl rfl 12 sz_nce (by simp [u8s_length]) (HAU.out) (u8s_one _) ?_; clear hm; intro w5 hm)
    | ((with_reducible refine at_op none (.store 30 (.tmp 10) (.tmp 19)) ?_); refine wpl_stw 0 (u8s B) hm rfl rfl rfl 12 sz_nce (by simp [u8s_length]) (HBU.out) (u8s_one _) ?_; clear hm; intro w6 hm)
    | ((with_reducible refine at_op (some 20) (.makeMap 50 none) ?_); go_must (refine wpl_mkmap hm ?_); clear hm; intro w7 m hmp hnew hm; have st := Nm.start hm hmp hnew; clear hm hmp hnew)
    | ((with_reducible refine at_op (some 21) (.load 30 (.tmp 9)) ?_); refine wpl_ldw 1 st.mem rfl rfl _ un_nce rfl 12 sz_nce (HAU.out) ?_)
    | ((with_reducible refine at_op none (.insert 50 (.tmp 20) (.tmp 21) (.const (.int .i64 1))) ?_); go_must (refine wpl_insN 1 st (by omega) rfl rfl HKA.out (by decide) ?_); clear st; intro w8 st)
    | ((with_reducible refine at_op (some 24) (.load 30 (.tmp 10)) ?_); refine wpl_ldw 0 st.mem rfl rfl _ un_nce rfl 12 sz_nce (HBU.out) ?_)
    | ((with_reducible refine at_op none (.mapUpdate 50 (.tmp 23) (.tmp 24) (.const (.int .i64 2))) ?_); go_must (refine wpl_updN 2 st (by omega) rfl rfl HKB2.out (by decide) ?_); clear st; intro w9 st; replace st : Nm w w9 m 2 (twoIn ka kb) [(g10, u8s B, 30), (g9, u8s A, 30)] := st))
  refine wp_ends0 ?_
  refine anyH_startN (T := fun W => Nm w W m 2 (twoIn ka kb) [(g10, u8s B, 30), (g9, u8s A, 30)]) (by kernel_rfl) st ?_
  clear st
  intro w10 st
  refine anyH_takeG 0 (v := .agg (u8s A).toArray) rfl (by kernel_rfl) (by kernel_rfl) (by kernel_rfl) rfl (fun W hW => exec_ldsG 0 _ (Mem.get hW.mem 1 rfl) rfl _ un_nce rfl 12 sz_nce (by rw [HAU.out]; omega) (by rw [List.drop_zero, List.take_of_length_le (Nat.le_of_eq HAU.out)])) st ?_
  go_simp
  refine anyH_takeG 1 (v := .agg (u8s B).toArray) rfl (by kernel_rfl) (by kernel_rfl) (by kernel_rfl) rfl (fun W hW => exec_ldsG 0 _ (Mem.get hW.mem 0 rfl) rfl _ un_nce rfl 12 sz_nce (by rw [HBU.out]; omega) (by rw [List.drop_zero, List.take_of_length_le (Nat.le_of_eq HBU.out)])) st ?_
  go_simp
  refine anyH_takeG 2 (v := .bool false) rfl (by kernel_rfl) (by kernel_rfl) (by kernel_rfl) rfl (fun W _ => exec_eqK _ 12 .u8 A B false (HDE.out) rfl rfl un_nce un_u8 sz_u8 eg_nce HAL.out HBL.out) st ?_
  go_simp
  refine anyH_takeG 3 (v := .int .u32 p) rfl (by kernel_rfl) (by kernel_rfl) (by kernel_rfl) rfl (fun W _ => by go_simp) st ?_
  go_simp
  refine anyH_takeG 4 (v := .int .u32 p) rfl (by kernel_rfl) (by kernel_rfl) (by kernel_rfl) rfl (fun W _ => by go_simp) st ?_
  go_simp
  refine anyH_takeG 5 (v := .bool true) rfl (by kernel_rfl) (by kernel_rfl) (by kernel_rfl) rfl (fun W _ => by go_simp) st ?_
  go_simp
  refine anyH_takeG 6 (v := .bool true) rfl (by kernel_rfl) (by kernel_rfl) (by kernel_rfl) rfl (fun W _ => by go_simp) st ?_
  go_simp
  refine anyH_takeG 7 (v := .int .u64 n) rfl (by kernel_rfl) (by kernel_rfl) (by kernel_rfl) rfl (fun W _ => by go_simp) st ?_
  go_simp
  refine anyH_takeG 8 (v := .int .u64 h) rfl (by kernel_rfl) (by kernel_rfl) (by kernel_rfl) rfl (fun W _ => by go_simp) st ?_
  go_simp
  refine anyH_takeG 9 (v := .bool false) rfl (by kernel_rfl) (by kernel_rfl) (by kernel_rfl) rfl (fun W _ => by go_simp) st ?_
  go_simp
  refine anyH_takeG 10 (v := .bool false) rfl (by kernel_rfl) (by kernel_rfl) (by kernel_rfl) rfl (fun W _ => by go_simp) st ?_
  go_simp
  refine anyH_takeG 11 (v := .bool true) rfl (by kernel_rfl) (by kernel_rfl) (by kernel_rfl) rfl (fun W _ => by go_simp) st ?_
  go_simp
  refine anyH_takeG 12 (v := .bool true) rfl (by kernel_rfl) (by kernel_rfl) (by kernel_rfl) rfl (fun W _ => by go_simp) st ?_
  go_simp
  refine anyH_takeG 13 (v := .map (some m)) rfl (by kernel_rfl) (by kernel_rfl) (by kernel_rfl) rfl (fun W _ => by go_simp) st ?_
  go_simp
  refine anyH_takeG 14 (v := .agg (u8s A).toArray) rfl (by kernel_rfl) (by kernel_rfl) (by kernel_rfl) rfl (fun W hW => exec_ldsG 0 _ (Mem.get hW.mem 1 rfl) rfl _ un_nce rfl 12 sz_nce (by rw [HAU.out]; omega) (by rw [List.drop_zero, List.take_of_length_le (Nat.le_of_eq HAU.out)])) st ?_
  go_simp
  refine anyH_takeG 15 (v := .int .i64 1) rfl (by kernel_rfl) (by kernel_rfl) (by kernel_rfl) rfl (fun W hW => exec_lookN 1 hW rfl rfl HKA.out (HAT.out ())) st ?_
  go_simp
  refine anyH_takeG 16 (v := .bool false) rfl (by kernel_rfl) (by kernel_rfl) (by kernel_rfl) rfl (fun W _ => by go_simp) st ?_
  go_simp
  refine anyH_takeG 17 (v := .agg (u8s A).toArray) rfl (by kernel_rfl) (by kernel_rfl) (by kernel_rfl) rfl (fun W hW => exec_ldsG 0 _ (Mem.get hW.mem 1 rfl) rfl _ un_nce rfl 12 sz_nce (by rw [HAU.out]; omega) (by rw [List.drop_zero, List.take_of_length_le (Nat.le_of_eq HAU.out)])) st ?_
  go_simp
  refine anyH_takeG 18 (v := .agg (u8s B).toArray) rfl (by kernel_rfl) (by kernel_rfl) (by kernel_rfl) rfl (fun W hW => exec_ldsG 0 _ (Mem.get hW.mem 0 rfl) rfl _ un_nce rfl 12 sz_nce (by rw [HBU.out]; omega) (by rw [List.drop_zero, List.take_of_length_le (Nat.le_of_eq HBU.out)])) st ?_
  go_simp
  refine anyH_takeG 19 (v := .bool false) rfl (by kernel_rfl) (by kernel_rfl) (by kernel_rfl) rfl (fun W _ => exec_eqK _ 12 .u8 A B false (HDE.out) rfl rfl un_nce un_u8 sz_u8 eg_nce HAL.out HBL.out) st ?_
  go_simp
  refine anyH_takeG 20 (v := .bool true) rfl (by kernel_rfl) (by kernel_rfl) (by kernel_rfl) rfl (fun W _ => by go_simp) st ?_
  go_simp
  refine anyH_takeG 21 (v := .bool true) rfl (by kernel_rfl) (by kernel_rfl) (by kernel_rfl) rfl (fun W _ => by go_simp) st ?_
  go_simp
  refine anyH_takeG 22 (v := .bool true) rfl (by kernel_rfl) (by kernel_rfl) (by kernel_rfl) rfl (fun W _ => by go_simp) st ?_
  go_simp
  refine anyH_takeG 23 (v := .map (some m)) rfl (by kernel_rfl) (by kernel_rfl) (by kernel_rfl) rfl (fun W _ => by go_simp) st ?_
  go_simp
  refine anyH_takeG 24 (v := .int .i64 2) rfl (by kernel_rfl) (by kernel_rfl) (by kernel_rfl) rfl (fun W hW => exec_lenN 2 hW rfl HSZ.out) st ?_
  go_simp
  refine anyH_takeG 25 (v := .map (some m)) rfl (by kernel_rfl) (by kernel_rfl) (by kernel_rfl) rfl (fun W _ => by go_simp) st ?_
  go_simp
  refine anyH_takeG 26 (v := .agg (u8s A).toArray) rfl (by kernel_rfl) (by kernel_rfl) (by kernel_rfl) rfl (fun W hW => exec_ldsG 0 _ (Mem.get hW.mem 1 rfl) rfl _ un_nce rfl 12 sz_nce (by rw [HAU.out]; omega) (by rw [List.drop_zero, List.take_of_length_le (Nat.le_of_eq HAU.out)])) st ?_
  go_simp
  refine anyH_takeG 27 (v := .int .i64 1) rfl (by kernel_rfl) (by kernel_rfl) (by kernel_rfl) rfl (fun W hW => exec_lookN 1 hW rfl rfl HKA.out (HAT.out ())) st ?_
  go_simp
  refine anyH_takeG 28 (v := .int .i64 0) rfl (by kernel_rfl) (by kernel_rfl) (by kernel_rfl) rfl (fun W _ => by go_simp; exact wrapi _ (by omega) (by omega)) st ?_
  go_simp
  refine anyH_takeG 29 (v := .int .i64 2) rfl (by kernel_rfl) (by kernel_rfl) (by kernel_rfl) rfl (fun W _ => by go_simp; exact wrapi _ (by omega) (by omega)) st ?_
  go_simp
  refine anyH_takeG 30 (v := .bool true) rfl (by kernel_rfl) (by kernel_rfl) (by kernel_rfl) rfl (fun W _ => by go_simp) st ?_
  go_simp
  refine anyH_takeG 31 (v := .bool true) rfl (by kernel_rfl) (by kernel_rfl) (by kernel_rfl) rfl (fun W _ => by go_simp) st ?_
  go_simp
  refine anyH_takeG 32 (v := .bool true) rfl (by kernel_rfl) (by kernel_rfl) (by kernel_rfl) rfl (fun W _ => by go_simp) st ?_
  go_simp
  refine wpAnyH_done (by kernel_rfl) ?_ _
  simp only [endsIn]
  go_wp2_with fail
  go_ret
  exact ⟨rfl, st.mem.below⟩
set_option maxRecDepth 100000 in
theorem sealNonces_walk (p q n h : Int) (hp0 : 0 ≤ p ∧ p < 4294967296) (hq0 : 0 ≤ q ∧ q < 4294967296) (hn : 0 ≤ n ∧ n ≤ 18446744073709551615) (hh : 0 ≤ h ∧ h ≤ 18446744073709551615) (w : World) (ht : Tab w) (hq : QTab w) :
    Calls Tryd.prog 7 #[.int .u32 p, .int .u32 q, .int .u64 n, .int .u64 h] w fun e w' => e = .returned (.bool true) ∧ Below w.heap.size w w' := by
  by_cases hpq : p = q
  · subst hpq
    by_cases hnh : n = h
    · subst hnh
      exact sealNonces_same p n hp0 w ht hq
    · exact sealNonces_gen p n h hp0 (by omega) (by omega) hnh w ht hq
  · exact sealNonces_page p q n h hp0 hq0 (by omega) (by omega) hpq w ht hq
end Go.Proofs.YtbfccepddfinoaaDoor
