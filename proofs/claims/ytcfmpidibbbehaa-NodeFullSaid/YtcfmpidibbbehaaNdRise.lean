/- Keys that rise; sums of equal sizes. -/
import Derived.Test.YtcfmpidibbbehaaNdOpen
namespace Go.Proofs.Ytcfmpidibbbehaa
open Go Go.RowKit
set_option maxRecDepth 100000 in
theorem bytesLess_head {a b : UInt8} (x y : List UInt8) (h : a < b) : Op.bytesLess (a :: x) (b :: y) = true := by
  simp [Op.bytesLess, h]
set_option maxRecDepth 100000 in
theorem bytesLess_same (a : UInt8) (x y : List UInt8) : Op.bytesLess (a :: x) (a :: y) = Op.bytesLess x y := by
  simp [Op.bytesLess]
set_option maxRecDepth 100000 in
theorem byte_lt {i j : Nat} (h : i < j) (hj : j < 256) : UInt8.ofNat ((i : Int)).toNat < UInt8.ofNat ((j : Int)).toNat := by
  rw [UInt8.lt_iff_toNat_lt, UInt8.toNat_ofNat', UInt8.toNat_ofNat']
  simp
  omega
set_option maxRecDepth 100000 in
theorem less_first {i j : Nat} (r s : List Int) (h : i < j) (hj : j < 256) : less (strOf ((i : Int) :: r)) (strOf ((j : Int) :: s)) = true := by
  unfold less
  rw [ByteArray.toList_eq, ByteArray.toList_eq]
  exact bytesLess_head _ _ (byte_lt h hj)
set_option maxRecDepth 100000 in
theorem less_second {i j : Nat} (c : Int) (r s : List Int) (h : i < j) (hj : j < 256) : less (strOf (c :: (i : Int) :: r)) (strOf (c :: (j : Int) :: s)) = true := by
  unfold less
  rw [ByteArray.toList_eq, ByteArray.toList_eq]
  exact (bytesLess_same _ _ _).trans (bytesLess_head _ _ (byte_lt h hj))
set_option maxRecDepth 100000 in
theorem range_getD {α : Type} (f : Nat → α) (n i : Nat) (d : α) (h : i < n) : ((List.range n).map f).getD i d = f i := by
  simp [h]
set_option maxRecDepth 100000 in
theorem okKeys_range (f : Nat → ByteArray) (n k : Nat) (hk : k ≤ n) (hf : ∀ j, j < n → fitK (f j) = true) (hr : ∀ j, j + 1 < n → less (f j) (f (j + 1)) = true) : okKeys ((List.range n).map f) k = true := by
  induction k with
  | zero => rfl
  | succ k ih =>
    rw [okKeys, ih (by omega), okKey, range_getD _ _ _ _ (by omega), hf k (by omega)]
    by_cases h0 : k = 0
    · simp [h0]
    · rw [range_getD _ _ _ _ (by omega)]
      have := hr (k - 1) (by omega)
      rw [show k - 1 + 1 = k by omega] at this
      rw [this]; simp
set_option maxRecDepth 100000 in
theorem okVals_range (f : Nat → ByteArray × ByteArray) (n k : Nat) (hk : k ≤ n) (hf : ∀ j, j < n → (f j).2.size ≤ 150) : okVals ((List.range n).map f) k = true := by
  induction k with
  | zero => rfl
  | succ k ih =>
    rw [okVals, ih (by omega), range_getD _ _ _ _ (by omega), decide_eq_true (hf k (by omega))]
    rfl
set_option maxRecDepth 100000 in
theorem sum_const {α : Type} (g : α → Nat) (f : Nat → α) (n c : Nat) (h : ∀ j, g (f j) = c) : (((List.range n).map f).map g).sum = n * c := by
  induction n with
  | zero => simp
  | succ n ih =>
    rw [List.range_succ, List.map_append, List.map_append, List.sum_append, ih]
    simp [h, Nat.succ_mul]
set_option maxRecDepth 100000 in
theorem range_snoc {α : Type} (f : Nat → α) (n : Nat) : (List.range (n + 1)).map f = (List.range n).map f ++ [f n] := by
  rw [List.range_succ]; simp
section
variable {a : Act} {w : World} {dst : Option Tmp} {typ : TypeId} {pos : String} {aft : Array Edge} {gd : Option (Nat × Bool)}
set_option maxRecDepth 100000 in
theorem exec_mulI {x y : Operand} {i j : Int} (c : Nat) (hx : a.eval x = .int .i64 i) (hy : a.eval y = .int .i64 j) (hc : i * j = (c : Int)) (hb : c < 4611686018427387904) :
    (execOp a.eval { dst := dst, op := .binOp .mul 3 x y 3, type := typ, pos := pos, after := aft, guard := gd }).run Try.prog w = .ok (.value (.int .i64 (c : Int))) w := by
  unfold execOp
  simp only [hx, hy]
  simp [eqGuard, binOp, go_sem, hc, wrapi (c : Int) (by omega) (by omega)]
set_option maxRecDepth 100000 in
theorem exec_sl3P {x hi mx : Operand} {p : Option Addr} {n cap : Nat} {ih im : Int} (hp : ∀ q, p = some q → ∃ b o, q = ⟨b, o, none⟩) (hn : n ≤ cap) (hx : a.eval x = .slice p n cap) (hhi : a.eval hi = .int .i64 ih) (hih : ih = (n : Int)) (hmx : a.eval mx = .int .i64 im) (him : im = (n : Int)) :
    (execOp a.eval { dst := dst, op := .slice 22 x none (some hi) (some mx), type := typ, pos := pos, after := aft, guard := gd }).run Try.prog w = .ok (.value (.slice p n n)) w := by
  subst hih him
  cases hq : Try.prog.info? 50 with
  | none => have := sz_pair; simp [hq] at this
  | some q =>
    have b1 : ∀ (c : Nat) (code : BoundsCode), n ≤ c → (Instr.sliceBound (.int .i64 (n : Int)) c code).run Try.prog w = .ok n w := by
      intro c code hc
      rw [run_sliceBound (P := Try.prog) w .i64 (n : Int) c code (by omega) (by omega)]
      simp
    have hb : (Instr.sliceBounds true n cap none (some (.int .i64 (n : Int))) (some (.int .i64 (n : Int)))).run Try.prog w = .ok (0, n, n) w := by
      simp [Instr.sliceBounds, b1 cap _ hn, b1 n _ (Nat.le_refl n)]
    have hr : (Instr.sliceAt 22 (.slice p n cap) none (some (.int .i64 (n : Int))) (some (.int .i64 (n : Int)))).run Try.prog w = .ok (.slice p n n) w := by
      simp [Instr.sliceAt, Instr.slice, run_underlying un_pairs, hb]
      intro _
      cases p with
      | none => rfl
      | some q9 =>
        obtain ⟨b, o, rfl⟩ := hp q9 rfl
        simp [add_at]
    unfold execOp
    simp only [hx, hhi, hmx, Option.map_some, Option.map_none, hr, Sem.run_bind, Sem.run_pure, Result.andThen_ok]
end
set_option maxRecDepth 100000 in
theorem cap_ok : ∀ k, k ≤ 120 → Builtin.nextslicecap (k + 1) k * 32 ≤ 281474976710656 := by
  have h : ∀ k : Fin 121, Builtin.nextslicecap (k.val + 1) k.val * 32 ≤ 281474976710656 := by decide +kernel
  intro k hk
  exact h ⟨k, by omega⟩
set_option maxRecDepth 100000 in
theorem wpl_appF {ops : Array Oper} {rest : List Oper} {a : Act} {w : World} {Q : Exit → Act → World → Prop} {dst : Option Tmp} {typ : TypeId} {pos : String} {aft : Array Edge} {gd : Option (Nat × Bool)} {s x : Operand} {p : Option Addr} {n g : Nat} {l : List (ByteArray × ByteArray)} (k v : ByteArray)
    (hw : Region.wanted { dst := dst, op := .call { callee := .builtin .append, args := #[s, x], argTypes := #[22, 22] }, type := typ, pos := pos, after := aft, guard := gd } (yielded ops a.tmps) = true)
    (hn : l.length = n) (hn0 : n = 0 → p = none) (hnl : n ≤ 120) (hv : SlP w (.slice p n n) l) (hs : a.eval s = .slice p n n) (hx : a.eval x = .slice (some ⟨g, 0, none⟩) 1 1) (hr : Row w g [.string k, .string v] 50)
    (h : ∀ g' c w', Below w.heap.size w w' → n + 1 ≤ c → SlP w' (.slice (some ⟨g', 0, none⟩) (n + 1) c) (l ++ [(k, v)]) → wpList Try.prog ops Q rest (a.put dst (.slice (some ⟨g', 0, none⟩) (n + 1) c)) w') :
    wpList Try.prog ops Q ({ dst := dst, op := .call { callee := .builtin .append, args := #[s, x], argTypes := #[22, 22] }, type := typ, pos := pos, after := aft, guard := gd } :: rest) a w := by
  have hp2 : prs (l ++ [(k, v)]) = prs l ++ [.string k, .string v] := by rw [prs_append]; rfl
  have hl2 : (l ++ [(k, v)]).length = n + 1 := by simp [hn]
  have fin : ∀ (cells : Array Value) (c : Nat) (v' : Value) (hcells : cells.toList.take ((n + 1) * 2) = prs l ++ [.string k, .string v]) (hcs : (n + 1) * 2 ≤ cells.size) (hc : n + 1 ≤ c) (hv' : v' = .slice (some ⟨w.heap.size, 0, none⟩) (n + 1) c) (w' : World) (hw' : w' = w.drew.alloc (.cells cells 50)) (hrun : (Builtin.append_ #[22, 22] typ #[.slice p n n, .slice (some ⟨g, 0, none⟩) 1 1]).run Try.prog w = .ok v' w'),
      wpList Try.prog ops Q ({ dst := dst, op := .call { callee := .builtin .append, args := #[s, x], argTypes := #[22, 22] }, type := typ, pos := pos, after := aft, guard := gd } :: rest) a w := by
    intro cells c v' hcells hcs hc hv' w' hw' hrun
    subst hv' hw'
    have hb : Below w.heap.size w (w.drew.alloc (.cells cells 50)) := ⟨rfl, rfl, rfl, by simp, fun k9 hk9 => Below.heap_alloc w.drew _ k9 hk9⟩
    have hsp : SlP (w.drew.alloc (.cells cells 50)) (.slice (some ⟨w.heap.size, 0, none⟩) (n + 1) c) (l ++ [(k, v)]) := by
      show SlV 2 _ _ _ _
      rw [hl2, hp2]
      refine ⟨_, c, rfl, hc, by rw [List.length_append, prs_length, hn]; simp; omega, fun _ => ⟨w.heap.size, 0, rfl, fun j u hu => ?_⟩⟩
      have hrow : Row (w.drew.alloc (.cells cells 50)) w.heap.size cells.toList 50 := by
        unfold Row
        have := heap_alloc_new w.drew (.cells cells 50)
        simpa using this
      rw [Nat.zero_add, hrow.cell j]
      rw [← hcells, List.getElem?_take] at hu
      split at hu
      · exact hu
      · cases hu
    refine wpList_step fun K hK => ?_
    rw [if_pos hw]
    have hh := hK _ _ (h w.heap.size c _ hb hc hsp)
    unfold Oper.wp execOp
    simp only [resolve, invoke, builtin, Sem.run_bind, Sem.run_pure, Result.andThen_ok, List.map_toArray, List.map_cons, List.map_nil, hs, hx, hrun]
    exact hh
  have hi := made_pair
  cases hq : Try.prog.info? 50 with
  | none => simp [hq] at hi
  | some i =>
    simp only [hq, Option.map_some, Option.some.injEq, Prod.mk.injEq] at hi
    obtain ⟨hz1, h2, h3⟩ := hi
    have hnews : ∀ j u, ([.string k, .string v] : List Value)[j]? = some u → w.cell? ((⟨g, 0, none⟩ : Addr).add j) = some u := fun j u hu => by rw [add_at, Nat.zero_add, hr.cell j]; exact hu
    by_cases h0 : n = 0
    · have hp0 := hn0 h0
      subst hp0
      have hl0 : l = [] := List.eq_nil_of_length_eq_zero (by omega)
      have hrun := run_append_nil (P := Try.prog) w 22 typ 50 i _ un_pairs hq hz1 ⟨g, 0, none⟩ 1 1 [.string k, .string v] (by rw [h2]; rfl) hnews (by omega) (by omega) (by rw [h3]; omega)
      have hge := grownCap_ge w 1 0 50
      subst h0
      refine fin _ _ _ ?_ ?_ (show 0 + 1 ≤ _ from hge) rfl _ rfl hrun
      · rw [hl0]; simp [prs]
      · simp
    · obtain ⟨b, off, hp⟩ := SlP.at hv hn (by omega)
      subst hp
      obtain ⟨_, _, hv9, _, hl9, hs9⟩ := hv
      simp only [Value.slice.injEq] at hv9
      obtain ⟨b', off', hp9, hseg⟩ := hs9 (by omega)
      rw [← hv9.1] at hp9
      simp only [Option.some.injEq, Addr.mk.injEq] at hp9
      obtain ⟨rfl, rfl, _⟩ := hp9
      have hrun := run_append_grow (P := Try.prog) w 22 typ 50 i _ un_pairs hq hz1 ⟨b, off, none⟩ n n (prs l) (by rw [prs_length, h2, hn]) (fun j u hu => by rw [add_at]; exact hseg j u hu) ⟨g, 0, none⟩ 1 1 [.string k, .string v] (by rw [h2]; rfl) hnews (by omega) (by omega) (by rw [h3]; exact cap_ok n hnl)
      have hge := grownCap_ge w (n + 1) n 50
      refine fin _ _ _ ?_ ?_ hge rfl _ rfl hrun
      · simp only [Array.toList_append, List.append_assoc]
        rw [← List.append_assoc, List.take_append_of_le_length (by simp [prs_length, hn]; omega), List.take_of_length_le (by simp [prs_length, hn]; omega)]
      · simp [prs_length, hn]; omega
end Go.Proofs.Ytcfmpidibbbehaa
