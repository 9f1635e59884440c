/- Laws on the memory of a disk of sectors. -/
import Derived.Test.YtbaijhlkkeongaaSecAt
namespace Go.Proofs.Ytbaijhlkkeongaa
open Go Go.RowKit Go.Maps
section
variable {ops : Array Oper} {rest : List Oper} {a : Act} {w w0 w' : World} {Q : Exit → Act → World → Prop} {dst : Option Tmp} {typ : TypeId} {pos : String} {aft : Array Edge} {gd : Option (Nat × Bool)} {S : List Nat} {rows : List (Nat × List Value × TypeId)} {g mb : Nat} {kv : Value} {d : Dk}
set_option maxRecDepth 100000 in
theorem zeroV_con : rdV (.agg (u8s zeroK).toArray) = some (.held (.agg (u8s zeroK).toArray), []) := rfl
set_option maxRecDepth 100000 in
theorem rdV_inj {v : Value} {D : DataW Value} {ps : List MemPlace} (h : rdV v = some (D, ps)) : D = .held v := by
  unfold rdV at h
  simp only [Option.some.injEq, Prod.mk.injEq] at h
  exact h.1.symm
set_option maxRecDepth 100000 in
theorem run_look (hd : DkAt w g mb kv d) (i : Nat) (hi : i ≤ 4000) :
    (Instr.lookup 45 (.map (some mb)) (.int .i64 (i : Int)) true).run Try.prog w = .ok (.tuple #[.agg (u8s ((d.pend i).getD zeroK)).toArray, .bool (d.pend i).isSome]) w := by
  obtain ⟨q, D, ho, pm⟩ := hd.map
  obtain ⟨v, ps, hr, hv⟩ := ho.look_ok key_int un_cmap (zero_con w) zeroV_con (key_mk i hi)
  rw [hr, pm.hasN i]
  have h1 := rdV_inj hv
  cases hp : d.pend i with
  | none =>
    have h2 : Maps.has D (.int .i64 (i : Int)) = false := by rw [pm.hasN i, hp]; rfl
    rw [atKey_of_not_has h2] at h1
    simp only [DataW.held.injEq] at h1
    subst h1
    rfl
  | some l =>
    rw [pm.val i l hp] at h1
    simp only [DataW.held.injEq] at h1
    subst h1
    rfl
set_option maxRecDepth 100000 in
theorem run_look1 (hd : DkAt w g mb kv d) (i : Nat) (hi : i ≤ 4000) (l : List Int) (hl : d.pend i = some l) :
    (Instr.lookup 45 (.map (some mb)) (.int .i64 (i : Int)) false).run Try.prog w = .ok (.agg (u8s l).toArray) w := by
  obtain ⟨q, D, ho, pm⟩ := hd.map
  obtain ⟨v, ps, hr, hv⟩ := ho.lookup key_int un_cmap (zero_con w) zeroV_con (key_mk i hi)
  rw [hr]
  have h1 := rdV_inj hv
  rw [pm.val i l hl] at h1
  simp only [DataW.held.injEq] at h1
  subst h1
  rfl
set_option maxRecDepth 100000 in
theorem exec_look {m x : Operand} (hd : DkAt w g mb kv d) (i : Nat) (hi : i ≤ 4000) {ii : Int} (hm : a.eval m = .map (some mb)) (hx : a.eval x = .int .i64 ii) (hii : ii = (i : Int)) :
    (execOp a.eval { dst := dst, op := .lookup 45 m x true, type := typ, pos := pos, after := aft, guard := gd }).run Try.prog w = .ok (.value (.tuple #[.agg (u8s ((d.pend i).getD zeroK)).toArray, .bool (d.pend i).isSome])) w := by
  subst hii
  unfold execOp
  simp only [hm, hx, run_look hd i hi, Sem.run_bind, Sem.run_pure, Result.andThen_ok]
set_option maxRecDepth 100000 in
theorem exec_lookS {m x : Operand} (hd : DkAt w g mb kv d) (i : Nat) (hi : i ≤ 4000) (l : List Int) (hl : d.pend i = some l) {ii : Int} (hm : a.eval m = .map (some mb)) (hx : a.eval x = .int .i64 ii) (hii : ii = (i : Int)) :
    (execOp a.eval { dst := dst, op := .lookup 45 m x true, type := typ, pos := pos, after := aft, guard := gd }).run Try.prog w = .ok (.value (.tuple #[.agg (u8s l).toArray, .bool true])) w := by
  rw [exec_look hd i hi hm hx hii, hl]
  rfl
set_option maxRecDepth 100000 in
theorem exec_lookN {m x : Operand} (hd : DkAt w g mb kv d) (i : Nat) (hi : i ≤ 4000) (hl : d.pend i = none) {ii : Int} (hm : a.eval m = .map (some mb)) (hx : a.eval x = .int .i64 ii) (hii : ii = (i : Int)) :
    (execOp a.eval { dst := dst, op := .lookup 45 m x true, type := typ, pos := pos, after := aft, guard := gd }).run Try.prog w = .ok (.value (.tuple #[.agg (u8s zeroK).toArray, .bool false])) w := by
  rw [exec_look hd i hi hm hx hii, hl]
  rfl
set_option maxRecDepth 100000 in
theorem exec_look1 {m x : Operand} (hd : DkAt w g mb kv d) (i : Nat) (hi : i ≤ 4000) (l : List Int) (hl : d.pend i = some l) {ii : Int} (hm : a.eval m = .map (some mb)) (hx : a.eval x = .int .i64 ii) (hii : ii = (i : Int)) :
    (execOp a.eval { dst := dst, op := .lookup 45 m x false, type := typ, pos := pos, after := aft, guard := gd }).run Try.prog w = .ok (.value (.agg (u8s l).toArray)) w := by
  subst hii
  unfold execOp
  simp only [hm, hx, run_look1 hd i hi l hl, Sem.run_bind, Sem.run_pure, Result.andThen_ok]
set_option maxRecDepth 100000 in
theorem exec_ixK {x ix : Operand} {kb n cap : Nat} (i : Nat) {ii : Int} (hx : a.eval x = .slice (some ⟨kb, 0, none⟩) n cap) (hix : a.eval ix = .int .i64 ii) (hii : ii = (i : Int)) (hi : i < n) :
    (execOp a.eval { dst := dst, op := .indexAddr 44 x ix, type := typ, pos := pos, after := aft, guard := gd }).run Try.prog w = .ok (.value (.pointer (some ⟨kb, i * 64, none⟩))) w := by
  subst hii
  have h0 : (0 : Int) ≤ (i : Int) ∧ (i : Int) < (n : Int) := by omega
  unfold execOp
  simp [hx, hix, Instr.indexAt, asIntOf, run_underlying un_cons, h0, add_at]
  omega
set_option maxRecDepth 100000 in
theorem kept_len {ds : Nat → List Int} {n i : Nat} (tl : List Value) (h : ∀ i, i < n → (ds i).length = 64) (hi : i < n) : i * 64 + 64 ≤ (u8s (flatK ds n) ++ tl).length := by
  rw [List.length_append, u8s_length, flatK_length ds n h]
  omega
set_option maxRecDepth 100000 in
theorem kept_sub {ds : Nat → List Int} {n i : Nat} (tl : List Value) (h : ∀ i, i < n → (ds i).length = 64) (hi : i < n) : ((u8s (flatK ds n) ++ tl).drop (i * 64)).take 64 = u8s (ds i) := by
  have hl := flatK_length ds n h
  rw [List.drop_append_of_le_length (by rw [u8s_length]; omega), List.take_append_of_le_length (by rw [List.length_drop, u8s_length]; omega)]
  unfold u8s
  rw [← List.map_drop, ← List.map_take, flatK_at ds n i h hi]
set_option maxRecDepth 100000 in
theorem kept_set {ds : Nat → List Int} {n i : Nat} (tl : List Value) (x : List Int) (h : ∀ i, i < n → (ds i).length = 64) (hx : x.length = 64) (hi : i < n) : splice (u8s (flatK ds n) ++ tl) (i * 64) (u8s x) = u8s (flatK (upf ds i x) n) ++ tl := by
  have hl := flatK_length ds n h
  rw [← flatK_set ds n i x h hx hi]
  unfold splice u8s
  rw [List.take_append_of_le_length (by rw [List.length_map]; omega), List.drop_append_of_le_length (by simp; omega)]
  simp
set_option maxRecDepth 100000 in
theorem exec_ldK {x : Operand} {ds : Nat → List Int} {n kb : Nat} {tl : List Value} (i : Nat) (hr : Row w kb (u8s (flatK ds n) ++ tl) 54) (h : ∀ i, i < n → (ds i).length = 64) (hi : i < n) (hx : a.eval x = .pointer (some ⟨kb, i * 64, none⟩)) :
    (execOp a.eval { dst := dst, op := .load 54 x, type := typ, pos := pos, after := aft, guard := gd }).run Try.prog w = .ok (.value (.agg (u8s (ds i)).toArray)) w :=
  exec_ldsG (i * 64) (u8s (ds i)) hr hx _ un_con rfl 64 sz_con (kept_len tl h hi) (kept_sub tl h hi)
end
end Go.Proofs.Ytbaijhlkkeongaa
