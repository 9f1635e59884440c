/- Places as keys of maps; two of them compared. -/
import Derived.Laws.StructEq
import Derived.Test.YtikmmheknfljkaaDoorPaSmall
import Derived.Test.YtikmmheknfljkaaDoorKeyMap
namespace Go.Proofs.YtikmmheknfljkaaDoor
open Go Go.RowKit Go.Maps
set_option maxRecDepth 100000 in
theorem pl_laid : laidOutB Tryd.prog = true := by kernel_rfl
set_option maxRecDepth 100000 in
theorem pl_row : (42 : TypeId) < Tryd.prog.types.size := of_decide_eq_true (by kernel_rfl)
set_option maxRecDepth 100000 in
theorem pl_wide : (match Tryd.prog.underlying 42 with | some (.array _ _) | some (.struct _) => true | _ => false) = true := by kernel_rfl
set_option maxRecDepth 100000 in
theorem pl_law : Keyed Tryd.prog 42 := Keyed.of_law (deep_law_laid pl_laid (m := 2) (by omega) pl_row (by kernel_rfl) pl_wide)
set_option maxRecDepth 100000 in
theorem pl_type : Tryd.prog.keyType 42 = true := by kernel_rfl
set_option maxRecDepth 100000 in
theorem pl_cells : Tryd.prog.cellsOf 42 = 3 := by kernel_rfl
set_option maxRecDepth 100000 in
theorem str_cells : Tryd.prog.cellsOf 9 = 1 := by kernel_rfl
set_option maxRecDepth 100000 in
theorem un_set : Tryd.prog.underlying 57 = some (.map 42 54) := Tryd.underlying57
set_option maxRecDepth 100000 in
theorem zero_unit : ∀ w, (zeroValue 54).run Tryd.prog w = .ok (.agg [].toArray) w := (zero_of_info (show (Tryd.prog.info? 54).map (fun i => (i.zero, i.size)) = some (some (.agg [].toArray), 0) by kernel_rfl)).1
set_option maxRecDepth 100000 in
theorem types_some : ∃ n, Tryd.prog.types.size = n + 1 := ⟨Tryd.prog.types.size - 1, by have h : (42 : Nat) < Tryd.prog.types.size := pl_row; omega⟩
set_option maxRecDepth 100000 in
theorem str_lit (n : Nat) (s : ByteArray) (h : s.size ≤ 1000) : ∃ ls, Tryd.prog.keyLits (n + 1) 9 [.string s] = some ls := by
  unfold Program.keyLits
  simp only [un_strT]
  exact ⟨_, if_pos (by simp [maxLen]; omega)⟩
set_option maxRecDepth 100000 in
theorem pl_key {ks : List ByteArray} (h : PlOk ks) : ∃ kl, keyOf Tryd.prog 42 (.agg (plv ks).toArray) = some kl := by
  obtain ⟨n, hn⟩ := types_some
  have hf : (Value.agg (plv ks).toArray).formed Tryd.prog 42 = true := by
    simp [Value.formed, pl_cells, plv]
  have hz : ∀ i, (ks.getD i noStr).size ≤ 1000 := by
    intro i
    by_cases hi : i < ks.length
    · have e : ks.getD i noStr = ks[i] := by simp [hi]
      rw [e]
      have := (h.size (List.getElem_mem hi)).2
      omega
    · have e : ks.getD i noStr = noStr := by simp [List.getElem?_eq_none (show ks.length ≤ i by omega)]
      rw [e]; decide
  obtain ⟨l0, h0⟩ := str_lit n _ (hz 0)
  obtain ⟨l1, h1⟩ := str_lit n _ (hz 1)
  obtain ⟨l2, h2⟩ := str_lit n _ (hz 2)
  have hk : ∃ ls, Tryd.prog.keyLits (Tryd.prog.types.size + 1) 42 (plv ks) = some ls := by
    unfold Program.keyLits
    simp only [un_pl]
    rw [if_pos (by rw [pl_cells]; rfl)]
    refine ⟨[l0, l1, l2].flatten, ?_⟩
    simp only [str_cells, Nat.mul_one, hn, List.range, List.range.loop, List.mapM_cons, List.mapM_nil]
    simp only [plv, List.drop, List.take]
    rw [h0, h1, h2]
    rfl
  obtain ⟨ls, hls⟩ := hk
  unfold keyOf
  rw [un_pl]
  simp only
  rw [if_pos (by rw [pl_type, hf]; rfl)]
  exact ⟨_, by rw [show (Value.agg (plv ks).toArray).cells.toList = plv ks from rfl, hls]; rfl⟩
set_option maxRecDepth 100000 in
theorem plvA_inj {ks qs : List ByteArray} (h : PlOk ks) (h2 : PlOk qs) (he : Value.agg (plv ks).toArray = .agg (plv qs).toArray) : ks = qs :=
  plv_inj h h2 (by simpa using he)
set_option maxRecDepth 100000 in
theorem eg_pl : Tryd.prog.eqGuardType Tryd.prog.depth 42 = false := by kernel_rfl
set_option maxRecDepth 100000 in
theorem run_eqS {P : Program} (w : World) (d : Nat) (t e : TypeId) (n : Nat) (ht : P.underlying t = some (.array n e)) (he : P.underlying e = some .string) (hs : (P.info? e).map (·.size) = some 1) (xs ys : List ByteArray) (hx : xs.length = n) (hy : ys.length = n) :
    (Op.equalIn (d + 2) t (.agg (xs.map Value.string).toArray) (.agg (ys.map Value.string).toArray)).run P w = .ok (decide (xs = ys)) w := by
  have hsz : (sizeOf e).run P w = .ok 1 w := by
    cases hq : P.info? e with
    | none => simp [hq] at hs
    | some q =>
      have hs1 : q.size = 1 := by simpa [hq] using hs
      simp [sizeOf, typeInfo, hq, hs1]
  have hp : ∀ (zs : List ByteArray) (i : Nat) (z : ByteArray), zs[i]? = some z → (part e (zs.map Value.string).toArray (i * 1)).run P w = .ok (.string z) w := by
    intro zs i z hz
    simp [part, isAgg, run_underlying he, hz]
  rw [Op.equalIn]
  simp only [Sem.run_bind, run_underlying ht, Result.andThen_ok, hsz, Std.Legacy.Range.forIn_eq_forIn_range', Std.Legacy.Range.size, Nat.sub_zero, Nat.add_sub_cancel, Nat.div_one]
  have hd0 : decide (xs = ys) = decide (xs.drop 0 = ys.drop 0) := by simp
  rw [hd0]
  obtain ⟨m, hmn⟩ : ∃ m, m = n := ⟨n, rfl⟩
  have hle : 0 + m = n := by omega
  rw [show List.range' 0 n 1 = List.range' 0 m 1 by rw [hmn]]
  clear hmn hd0
  generalize 0 = i at hle ⊢
  induction m generalizing i with
  | zero =>
    rw [List.drop_of_length_le (by omega), List.drop_of_length_le (by omega)]
    simp
  | succ m ih =>
    have h1 : i < xs.length := by omega
    have h2 : i < ys.length := by omega
    have hdec : xs.drop i = ys.drop i ↔ (xs[i] = ys[i] ∧ xs.drop (i + 1) = ys.drop (i + 1)) := by
      rw [List.drop_eq_getElem_cons h1, List.drop_eq_getElem_cons h2, List.cons.injEq]
    have hdec2 : decide (xs.drop i = ys.drop i) = (decide (xs[i] = ys[i]) && decide (xs.drop (i + 1) = ys.drop (i + 1))) := by
      rw [Bool.eq_iff_iff, Bool.and_eq_true, decide_eq_true_iff, decide_eq_true_iff, decide_eq_true_iff]
      exact hdec
    rw [List.range'_succ, hdec2]
    simp only [List.forIn_cons, Sem.run_bind, hp xs i xs[i] (by simp [h1]), hp ys i ys[i] (by simp [h2]), run_equalIn_string w d e _ _ he, Result.andThen_ok]
    by_cases hb : xs[i] = ys[i]
    · simp only [hb, beq_self_eq_true, Bool.not_true, Bool.false_eq_true, if_false, Sem.run_pure, Result.andThen_ok]
      rw [ih (i + 1) (by omega)]
      simp only [decide_true, Bool.true_and]
    · have hb' : (xs[i].toList == ys[i].toList) = false := by
        rw [← beq_toListBytes]; exact eqs_no hb
      simp only [hb', hb, decide_false, Bool.false_and, Bool.not_false, if_true, Sem.run_pure, Result.andThen_ok]
set_option maxRecDepth 100000 in
theorem plv_map (ks : List ByteArray) : plv ks = [ks.getD 0 noStr, ks.getD 1 noStr, ks.getD 2 noStr].map Value.string := rfl
set_option maxRecDepth 100000 in
theorem eq_pl (w : World) {ks qs : List ByteArray} (h : PlOk ks) (h2 : PlOk qs) (b : Bool) (hb : b = decide (ks = qs)) : (Op.equalIn 10000 42 (.agg (plv ks).toArray) (.agg (plv qs).toArray)).run Tryd.prog w = .ok b w := by
  rw [plv_map ks, plv_map qs, run_eqS w 9998 42 9 3 un_pl un_strT sz_str _ _ rfl rfl, hb]
  congr 1
  rw [Bool.eq_iff_iff, decide_eq_true_iff, decide_eq_true_iff]
  constructor
  · intro he; exact plv_inj h h2 (by rw [plv_map, plv_map, he])
  · rintro rfl; rfl
section
variable {a : Act} {w : World} {dst : Option Tmp} {typ : TypeId} {pos : String} {aft : Array Edge} {gd : Option (Nat × Bool)}
set_option maxRecDepth 100000 in
theorem exec_neP {x y : Operand} {rt : TypeId} {ks qs : List ByteArray} (h : PlOk ks) (h2 : PlOk qs) (b : Bool) (hb : b = decide (ks = qs)) (hx : a.eval x = .agg (plv ks).toArray) (hy : a.eval y = .agg (plv qs).toArray) :
    (execOp a.eval { dst := dst, op := .binOp .neq 42 x y rt, type := typ, pos := pos, after := aft, guard := gd }).run Tryd.prog w = .ok (.value (.bool (!b))) w := by
  unfold execOp
  simp only [hx, hy, Sem.run_bind, run_eqGuard_agg w .neq 42 x y _ _ eg_pl, Sem.run_pure, Result.andThen_ok, run_neq_struct, eq_pl w h h2 b hb]
set_option maxRecDepth 100000 in
theorem exec_eqP {x y : Operand} {rt : TypeId} {ks qs : List ByteArray} (h : PlOk ks) (h2 : PlOk qs) (b : Bool) (hb : b = decide (ks = qs)) (hx : a.eval x = .agg (plv ks).toArray) (hy : a.eval y = .agg (plv qs).toArray) :
    (execOp a.eval { dst := dst, op := .binOp .eql 42 x y rt, type := typ, pos := pos, after := aft, guard := gd }).run Tryd.prog w = .ok (.value (.bool b)) w := by
  unfold execOp
  simp only [hx, hy, Sem.run_bind, run_eqGuard_agg w .eql 42 x y _ _ eg_pl, Sem.run_pure, Result.andThen_ok, run_eql_struct, eq_pl w h h2 b hb]
end
end Go.Proofs.YtikmmheknfljkaaDoor
