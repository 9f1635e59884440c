/- What the reader of package term hangs on: numerals, words; laws on slices of numbers. -/
import Derived.Lib.Atoi
import Derived.Laws.MakeOwn
import Derived.Test.YtbiinchmbclmcaaDoorTmText
namespace Go.Proofs.YtbiinchmbclmcaaDoor
open Go Go.RowKit
def rdv (R : List UInt8) (room : Int) : List Value := [.string (mkS R), .int .i64 room]
set_option maxRecDepth 100000 in
theorem rdv_one (R : List UInt8) (room : Int) : ∀ v ∈ rdv R room, v.oneCell' = true := by
  intro v hv
  simp only [rdv, List.mem_cons, List.not_mem_nil, or_false] at hv
  rcases hv with rfl | rfl <;> rfl
set_option maxRecDepth 100000 in
theorem trim_yes {R P : List UInt8} (h : Lib.hasPrefix R P = true) : Lib.trimPrefix R P = R.drop P.length := by rw [Lib.trimPrefix, if_pos h]
set_option maxRecDepth 100000 in
theorem trim_no {R P : List UInt8} (h : Lib.hasPrefix R P = false) : Lib.trimPrefix R P = R := by rw [Lib.trimPrefix, if_neg (by rw [h]; simp)]
set_option maxRecDepth 100000 in
theorem atoi1 : ∀ i : Fin 10, Lib.atoi [UInt8.ofNat (48 + i.val)] = some (i.val : Int) := by decide +kernel
set_option maxRecDepth 100000 in
theorem atoi2 : ∀ i j : Fin 10, Lib.atoi [UInt8.ofNat (48 + i.val), UInt8.ofNat (48 + j.val)] = some (10 * (i.val : Int) + (j.val : Int)) := by decide +kernel
set_option maxRecDepth 100000 in
theorem num_cases (D : List UInt8) (h : ∀ b ∈ D, isDig b = true) : (2 < D.length ∧ numV D = none) ∨ (D = [] ∧ numV D = none) ∨ (∃ v, D.length ≤ 2 ∧ Lib.atoi D = some v ∧ 0 ≤ v ∧ v ≤ 99 ∧ ((dig v = D ∧ numV D = some v) ∨ (dig v ≠ D ∧ numV D = none))) := by
  match D, h with
  | [], _ => exact Or.inr (Or.inl ⟨rfl, rfl⟩)
  | [a], h =>
    obtain ⟨h1, h2, h3⟩ := dig_byte (h a (by simp))
    have hn : numV [a] = some (dv a) := rfl
    obtain ⟨g1, g2, g3⟩ := numV_dig h hn
    have e := atoi1 ⟨a.toNat - 48, by omega⟩
    simp only at e
    rw [h1] at e
    refine Or.inr (Or.inr ⟨dv a, by simp, ?_, g2, g3, Or.inl ⟨g1, hn⟩⟩)
    rw [e, dv]
    congr 1
    omega
  | [a, b], h =>
    obtain ⟨h1, h2, h3⟩ := dig_byte (h a (by simp))
    obtain ⟨h4, h5, h6⟩ := dig_byte (h b (by simp))
    have e := atoi2 ⟨a.toNat - 48, by omega⟩ ⟨b.toNat - 48, by omega⟩
    simp only at e
    rw [h1, h4] at e
    have ev : Lib.atoi [a, b] = some (10 * dv a + dv b) := by rw [e, dv, dv]; congr 1; omega
    refine Or.inr (Or.inr ⟨10 * dv a + dv b, by simp, ev, by unfold dv; omega, by unfold dv; omega, ?_⟩)
    by_cases ha : a = 48
    · refine Or.inr ⟨?_, by rw [numV, if_pos ha]⟩
      subst ha
      have e2 : 10 * dv 48 + dv b < 10 := by
        have : dv 48 = 0 := rfl
        rw [this]; unfold dv; omega
      intro hc
      have := congrArg List.length hc
      rw [dig, if_pos e2] at this
      simp at this
    · have hn : numV [a, b] = some (10 * dv a + dv b) := by rw [numV, if_neg ha]
      exact Or.inl ⟨(numV_dig h hn).1, hn⟩
  | a :: b :: c :: r, _ => exact Or.inl ⟨by simp, rfl⟩
def kd (k : Nat) : Int := if k = 3 then 5 else (k : Int) + 1
set_option maxRecDepth 100000 in
theorem kd_range {k : Nat} (h : k < 4) : 1 ≤ kd k ∧ kd k ≤ 5 := by unfold kd; split <;> omega
set_option maxRecDepth 100000 in
theorem kdOf_at {R : List UInt8} {k : Nat} (hk : k < 4) (h : ∀ j, j < k → Lib.hasPrefix R (wd (kd j)) = false) (hp : Lib.hasPrefix R (wd (kd k)) = true) : kdOf R = kd k := by
  have c : k = 0 ∨ k = 1 ∨ k = 2 ∨ k = 3 := by omega
  rcases c with rfl | rfl | rfl | rfl
  · rw [kdOf, if_pos (show Lib.hasPrefix R [110] = true from hp)]; rfl
  · have h0 : Lib.hasPrefix R [110] = false := h 0 (by omega)
    rw [kdOf, if_neg (by rw [h0]; decide), if_pos (show Lib.hasPrefix R [107] = true from hp)]; rfl
  · have h0 : Lib.hasPrefix R [110] = false := h 0 (by omega)
    have h1 : Lib.hasPrefix R [107] = false := h 1 (by omega)
    rw [kdOf, if_neg (by rw [h0]; decide), if_neg (by rw [h1]; decide), if_pos (show Lib.hasPrefix R [115, 101, 97, 108] = true from hp)]; rfl
  · have h0 : Lib.hasPrefix R [110] = false := h 0 (by omega)
    have h1 : Lib.hasPrefix R [107] = false := h 1 (by omega)
    have h2 : Lib.hasPrefix R [115, 101, 97, 108] = false := h 2 (by omega)
    rw [kdOf, if_neg (by rw [h0]; decide), if_neg (by rw [h1]; decide), if_neg (by rw [h2]; decide), if_pos (show Lib.hasPrefix R [100] = true from hp)]; rfl
set_option maxRecDepth 100000 in
theorem kdOf_none {R : List UInt8} (h : ∀ j, j < 4 → Lib.hasPrefix R (wd (kd j)) = false) : kdOf R = 4 := by
  have h0 : Lib.hasPrefix R [110] = false := h 0 (by omega)
  have h1 : Lib.hasPrefix R [107] = false := h 1 (by omega)
  have h2 : Lib.hasPrefix R [115, 101, 97, 108] = false := h 2 (by omega)
  have h3 : Lib.hasPrefix R [100] = false := h 3 (by omega)
  rw [kdOf, if_neg (by rw [h0]; decide), if_neg (by rw [h1]; decide), if_neg (by rw [h2]; decide), if_neg (by rw [h3]; decide)]
def kds : List Value := [.int .i64 1, .int .i64 2, .int .i64 3, .int .i64 5]
set_option maxRecDepth 100000 in
theorem kds_get {k : Nat} (h : k < 4) : kds[k]? = some (.int .i64 (kd k)) := by
  have c : k = 0 ∨ k = 1 ∨ k = 2 ∨ k = 3 := by omega
  rcases c with rfl | rfl | rfl | rfl <;> rfl
set_option maxRecDepth 100000 in
theorem un_ints : Tryd.prog.underlying 76 = some (.slice 3) := Tryd.underlying76
set_option maxRecDepth 100000 in
theorem ldg_take (s : List UInt8) : s.take (ldg s).length = ldg s := by
  unfold ldg
  induction s with
  | nil => rfl
  | cons x s ih =>
    rw [List.takeWhile_cons]
    split
    · rw [List.length_cons, List.take_succ_cons, ih]
    · rfl
set_option maxRecDepth 100000 in
theorem anyH_startB {P : Program} {R : Act → World → Prop} {T : World → Prop} {a : Act} {w w0 : World} {S : List Nat} {rows : List (Nat × List Value × TypeId)} {id : Nat} {l : List Oper} (hmix : P.follows .mixedOrders = true) (hm : Mem w0 S w rows)
    (h : ∀ w', Below w.heap.size w w' → Mem w0 S w' rows → wpAnyH P .any l.toArray (endsIn R) T l.toArray.size (Array.replicate l.toArray.size false) a w') : (Code.region id l.toArray true).wp P (endsIn R) a w :=
  wp_region_held hmix (h _ ⟨rfl, rfl, rfl, Nat.le_refl _, fun _ _ => rfl⟩ hm.drew)
set_option maxRecDepth 100000 in
theorem anyH_more {P : Program} {md : Region.Mode} {ops : Array Oper} {Q : Exit → Act → World → Prop} {S : World → Prop} (S' : World → Prop) (hS : ∀ w, S' w → S w) : ∀ (fuel : Nat) (listed : Array Bool) (a : Act) (w : World), wpAnyH P md ops Q S' fuel listed a w → wpAnyH P md ops Q S fuel listed a w
  | 0, _, _, _, h => h
  | fuel + 1, _, _, _, h => ⟨h.1, fun i hi => wpOp_mono (fun a' w' h' => ⟨hS _ h'.1, anyH_more S' hS fuel _ a' w' h'.2⟩) (h.2 i hi)⟩
set_option maxRecDepth 100000 in
theorem run_bsl4 {P : Program} (w : World) {t elem : TypeId} (z v0 v1 v2 v3 : Value) (hu : P.underlying t = some (.slice elem)) (hi : (P.info? elem).map (fun i => (i.zero, i.size)) = some (some z, 1)) (hz : z.cells = #[z]) (h0 : v0.cells = #[v0]) (h1 : v1.cells = #[v1]) (h2 : v2.cells = #[v2]) (h3 : v3.cells = #[v3]) :
    (Instr.buildSlice t 4 #[(0, v0), (1, v1), (2, v2), (3, v3)]).run P w = .ok (.slice (some ⟨w.heap.size, 0, none⟩) 4 4) (w.alloc (.cells [v0, v1, v2, v3].toArray elem)) := by
  obtain ⟨hz1, hs1⟩ := zero_of_info hi
  cases hq : P.info? elem with
  | none => simp [hq] at hi
  | some q =>
    have hs : q.size = 1 := by simpa [hq] using hs1
    have e : Array.map (fun x => ([z][x % 1]?).getD default) (Array.range 4) = #[z, z, z, z] := by
      apply Array.ext
      · simp
      · intro i h1 h2
        have h3 : i = 0 ∨ i = 1 ∨ i = 2 ∨ i = 3 := by
          have : i < 4 := by simpa using h2
          omega
        rcases h3 with rfl | rfl | rfl | rfl <;> simp
    simp [Instr.buildSlice, run_underlying hu, sizeOf, typeInfo, hq, hs, hz1, hz, Instr.fill, h0, h1, h2, h3, newRow, newObj]
    rw [e]
    rfl
set_option maxRecDepth 100000 in
theorem below_of_grown {w w' : World} (hg : w.grownBy w' none) : Below w.heap.size w w' := ⟨hg.os, hg.tape, hg.output, hg.size, fun k hk => hg.block k hk (by simp)⟩
section
variable {ops : Array Oper} {rest : List Oper} {a : Act} {w w0 : World} {Q : Exit → Act → World → Prop} {dst : Option Tmp} {typ : TypeId} {pos : String} {aft : Array Edge} {gd : Option (Nat × Bool)} {S : List Nat} {rows : List (Nat × List Value × TypeId)}
set_option maxRecDepth 100000 in
theorem wpl_kds (hw : Region.wanted { dst := dst, op := .buildSlice 76 4 #[(0, .const (.int .i64 1)), (1, .const (.int .i64 2)), (2, .const (.int .i64 3)), (3, .const (.int .i64 5))], type := typ, pos := pos, after := aft, guard := gd } (yielded ops a.tmps) = true) (hm : Mem w0 S w rows)
    (h : ∀ w' g, Mem w0 S w' ((g, kds, 3) :: rows) → wpList Tryd.prog ops Q rest (a.put dst (.slice (some ⟨g, 0, none⟩) 4 4)) w') :
    wpList Tryd.prog ops Q ({ dst := dst, op := .buildSlice 76 4 #[(0, .const (.int .i64 1)), (1, .const (.int .i64 2)), (2, .const (.int .i64 3)), (3, .const (.int .i64 5))], type := typ, pos := pos, after := aft, guard := gd } :: rest) a w := by
  refine wpList_step fun K hK => ?_
  rw [if_pos hw]
  have hh := hK _ _ (h _ _ (hm.alloc kds 3))
  unfold Oper.wp execOp
  simp only [List.map_toArray, List.map_cons, List.map_nil, Act.eval, run_bsl4 (P := Tryd.prog) w (.int .i64 0) (.int .i64 1) (.int .i64 2) (.int .i64 3) (.int .i64 5) un_ints info_int rfl rfl rfl rfl rfl, Sem.run_bind, Sem.run_pure, Result.andThen_ok]
  exact hh
set_option maxRecDepth 100000 in
theorem exec_ixI0 {x ix : Operand} {b n cap : Nat} (i : Nat) {ii : Int} (hx : a.eval x = .slice (some ⟨b, 0, none⟩) n cap) (hix : a.eval ix = .int .i64 ii) (hii : ii = (i : Int)) (hi : i < n) :
    (execOp a.eval { dst := dst, op := .indexAddr 76 x ix, type := typ, pos := pos, after := aft, guard := gd }).run Tryd.prog w = .ok (.value (.pointer (some ⟨b, i, none⟩))) w := by
  subst hii
  have h0 : (0 : Int) ≤ (i : Int) ∧ (i : Int) < (n : Int) := by omega
  unfold execOp
  simp [hx, hix, Instr.indexAt, asIntOf, run_underlying un_ints, h0, add_at]
  omega
set_option maxRecDepth 100000 in
theorem wpl_makeT {x y : Operand} (hx : a.eval x = .int .i64 0) (n : Nat) {j : Int} (hy : a.eval y = .int .i64 j) (hj : j = (n : Int)) (hn : n ≤ 100) {base : Nat} (hb : base ≤ w.heap.size)
    (h : ∀ w' g, w'.ownsRow base 24 3 (.slice (some ⟨g, 0, none⟩) 0 n) 0 [] → Below w.heap.size w w' → wpList Tryd.prog ops Q rest (a.put dst (.slice (some ⟨g, 0, none⟩) 0 n)) w') :
    wpList Tryd.prog ops Q ({ dst := dst, op := .makeSlice 22 x y, type := typ, pos := pos, after := aft, guard := none } :: rest) a w := by
  subst hj
  refine wpList_plain rfl fun K hK => ?_
  cases hq : Tryd.prog.info? 24 with
  | none => have := made_term; simp [hq] at this
  | some q =>
    have hi := made_term
    simp only [hq, Option.map_some, Option.some.injEq, Prod.mk.injEq] at hi
    obtain ⟨h0, h1, h2⟩ := hi
    obtain ⟨w', hr, ho, hg⟩ := run_makeSlice_owned (P := Tryd.prog) (w := w) base 22 24 q _ 3 un_terms hq h0 h1 .i64 .i64 n (by omega) (by rw [h2]; omega) (by unfold maxLen; omega) hb
    have hh := hK _ _ (h w' _ ho (below_of_grown hg))
    unfold Oper.wp execOp
    simp only [hx, hy, hr, Sem.run_bind, Sem.run_pure, Result.andThen_ok]
    exact hh
set_option maxRecDepth 100000 in
theorem exec_shiS {x h : Operand} (s r : ByteArray) (n : Nat) (hn : n ≤ s.size) (hr : bs r = (bs s).take n) (hx : a.eval x = .string s) (hh : a.eval h = .int .i64 (n : Int)) :
    (execOp a.eval { dst := dst, op := .slice 9 x none (some h) none, type := typ, pos := pos, after := aft, guard := gd }).run Tryd.prog w = .ok (.value (.string r)) w := by
  have e : s.extract 0 n = r := bs_inj (by rw [hr]; exact Lib.extract_from_zero s n)
  unfold execOp
  have hc : (0 : Int) ≤ (n : Int) ∧ (n : Int) ≤ (s.size : Int) := by omega
  simp only [hx, Option.map_none, Option.map_some, hh, Sem.run_bind, run_sliceAt_string _ _ _ _ _ _ un_strT, run_slice_string_to_if _ _ _ _ _ un_strT, if_pos hc, Int.toNat_natCast, e, Result.andThen_ok, Sem.run_pure]
end
/-- The library's error of a numeral stands in its variable. -/
def Esx (w : World) : Prop := ∃ te pe, w.cell? ⟨0, 0, none⟩ = some (.iface te pe)
set_option maxRecDepth 100000 in
theorem Esx.below {w w' : World} (h : Esx w) (hb : Below w.heap.size w w') : Esx w' := by
  obtain ⟨te, pe, hm⟩ := h
  exact ⟨te, pe, by rw [hb.cell (p := ⟨0, 0, none⟩) (block_lt_of_cell hm)]; exact hm⟩
set_option maxRecDepth 100000 in
theorem Esx.upd {w w' : World} {g : Nat} (h : Esx w) (hu : Upd g w w') (hg : 10 ≤ g) : Esx w' := by
  obtain ⟨te, pe, hm⟩ := h
  exact ⟨te, pe, by rw [hu.cell (p := ⟨0, 0, none⟩) (block_lt_of_cell hm) (by show (_ : Nat) ≠ g; simp only; omega)]; exact hm⟩
set_option maxRecDepth 100000 in
theorem atoi_ok (s : ByteArray) (n : Int) (hl : s.size ≤ 18) (h : Lib.atoi (bs s) = some n) (w : World) :
    Calls Tryd.prog 35 #[.string s] w fun e w' => e = .returned (.tuple #[.int .i64 n, .nilIface]) ∧ Below w.heap.size w w' := by
  refine (Any.strconv_Atoi atoiA s n hl h w).mono ?_
  rintro e w' ⟨rfl, t, rfl⟩
  exact ⟨rfl, Lib.bytesWorld_below _ _ _⟩
set_option maxRecDepth 100000 in
theorem atoi_no (s : ByteArray) (hl : s.size ≤ 18) (h : Lib.atoi (bs s) = none) (w : World) (hE : Esx w) :
    Calls Tryd.prog 35 #[.string s] w fun e w' => ∃ N T, e = .returned (.tuple #[.int .i64 0, .iface T (.pointer (some ⟨N, 0, none⟩))]) ∧ Below w.heap.size w w' := by
  obtain ⟨te, pe, hv⟩ := hE
  refine (Any.strconv_Atoi_err atoiC s hl h (.iface te pe) w hv (Or.inr ⟨te, pe, rfl⟩)).mono ?_
  rintro e w' ⟨N, rfl, _, _, hb⟩
  exact ⟨N, _, rfl, hb⟩
end Go.Proofs.YtbiinchmbclmcaaDoor
