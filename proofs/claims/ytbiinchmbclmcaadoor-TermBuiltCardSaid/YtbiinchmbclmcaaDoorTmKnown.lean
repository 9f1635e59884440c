/- Slices of two terms; what each law asks first. -/
import Derived.Test.YtbiinchmbclmcaaDoorTmParts
namespace Go.Proofs.YtbiinchmbclmcaaDoor
open Go Go.RowKit
set_option maxRecDepth 100000 in
theorem set6 (cs : Array Value) (h : cs.size = 6) (a b c d e f : Value) : (((((cs.setIfInBounds 0 a).setIfInBounds 1 b).setIfInBounds 2 c).setIfInBounds 3 d).setIfInBounds 4 e).setIfInBounds 5 f = #[a, b, c, d, e, f] := by
  apply Array.ext
  · simp [h]
  · intro i h1 h2
    have : i = 0 ∨ i = 1 ∨ i = 2 ∨ i = 3 ∨ i = 4 ∨ i = 5 := by simp at h2; omega
    rcases this with rfl | rfl | rfl | rfl | rfl | rfl <;> simp [h]
set_option maxRecDepth 100000 in
theorem run_bslT2 {P : Program} (w : World) {t elem : TypeId} (z : List Value) (a b c d e f : Value) (hu : P.underlying t = some (.slice elem)) (hi : (P.info? elem).map (fun i => (i.zero, i.size)) = some (some (.agg z.toArray), 3)) (hz : z.length = 3) :
    (Instr.buildSlice t 2 #[(0, .agg [a, b, c].toArray), (1, .agg [d, e, f].toArray)]).run P w = .ok (.slice (some ⟨w.heap.size, 0, none⟩) 2 2) (w.alloc (.cells [a, b, c, d, e, f].toArray elem)) := by
  obtain ⟨hz1, hs1⟩ := zero_of_info hi
  cases hq : P.info? elem with
  | none => simp [hq] at hi
  | some qq =>
    have hs : qq.size = 3 := by simpa [hq] using hs1
    simp [Instr.buildSlice, run_underlying hu, sizeOf, typeInfo, hq, hs, hz1, Value.cells, Instr.fill, hz, newRow, newObj]
    rw [set6 _ (by simp)]
    rfl
section
variable {ops : Array Oper} {rest : List Oper} {a : Act} {w w0 : World} {Q : Exit → Act → World → Prop} {dst : Option Tmp} {typ : TypeId} {pos : String} {aft : Array Edge} {gd : Option (Nat × Bool)} {S : List Nat} {rows : List (Nat × List Value × TypeId)}
set_option maxRecDepth 100000 in
theorem wpl_bslT2 {x y : Operand} (t u : Tm) (s v : Value) (hw : Region.wanted { dst := dst, op := .buildSlice 22 2 #[(0, x), (1, y)], type := typ, pos := pos, after := aft, guard := gd } (yielded ops a.tmps) = true) (hx : a.eval x = .agg (tcs t s).toArray) (hy : a.eval y = .agg (tcs u v).toArray) (hm : Mem w0 S w rows)
    (h : ∀ w' g, Below w.heap.size w w' → w.heap.size ≤ g → Mem w0 S w' ((g, tcs t s ++ tcs u v, 24) :: rows) → wpList Tryd.prog ops Q rest (a.put dst (.slice (some ⟨g, 0, none⟩) 2 2)) w') :
    wpList Tryd.prog ops Q ({ dst := dst, op := .buildSlice 22 2 #[(0, x), (1, y)], type := typ, pos := pos, after := aft, guard := gd } :: rest) a w := by
  refine wpList_step fun K hK => ?_
  rw [if_pos hw]
  have hh := hK _ _ (h _ _ ((Below.refl _ _).alloc (Nat.le_refl _) _) (Nat.le_refl _) (hm.alloc (tcs t s ++ tcs u v) 24))
  unfold Oper.wp execOp
  have hr := run_bslT2 (P := Tryd.prog) w [Value.int .i64 0, .int .i64 0, .slice none 0 0] (.int .i64 t.k) (.int .i64 t.n) s (.int .i64 u.k) (.int .i64 u.n) v un_terms info_term rfl
  simp only [List.map_toArray, List.map_cons, List.map_nil, hx, hy, tcs, hr, Sem.run_bind, Sem.run_pure, Result.andThen_ok]
  exact hh
end
set_option maxRecDepth 100000 in
theorem tc_of_row {F : Nat → Prop} {w : World} {g n : Nat} {l : List Tm} {cs : List Value} (hr : Row w g cs 24) (ht : TC F w l cs) (hF : F g) (hn : l.length = n) : SlT F w (.slice (some ⟨g, 0, none⟩) n n) l := by
  subst hn
  exact ⟨_, l.length, cs, rfl, Nat.le_refl _, ht, fun _ => ⟨g, 0, rfl, hF, fun j u hu => by rw [Nat.zero_add, hr.cell j]; exact hu⟩⟩
set_option maxRecDepth 100000 in
theorem slt_one {F : Nat → Prop} {w : World} {g : Nat} {t : Tm} {s : Value} (hr : Row w g (tcs t s) 24) (hs : SlT F w s t.l) (hF : F g) : SlT F w (.slice (some ⟨g, 0, none⟩) 1 1) [t] :=
  tc_of_row hr ⟨s, [], rfl, (KS_iff t s).2 hs, rfl⟩ hF rfl
set_option maxRecDepth 100000 in
theorem slt_two {F : Nat → Prop} {w : World} {g : Nat} {t u : Tm} {s v : Value} (hr : Row w g (tcs t s ++ tcs u v) 24) (hs : SlT F w s t.l) (hv : SlT F w v u.l) (hF : F g) : SlT F w (.slice (some ⟨g, 0, none⟩) 2 2) [t, u] :=
  tc_of_row hr ⟨s, _, rfl, (KS_iff t s).2 hs, v, [], rfl, (KS_iff u v).2 hv, rfl⟩ hF rfl
def kt0 : Tm := mkT 3 0 [mkT 2 1 [], mkT 4 0 [mkT 1 2 [], mkT 5 3 [mkT 2 4 []]]]
def kR1 : List UInt8 := [115, 101, 97, 108, 40, 107, 49, 44, 40, 110, 50, 44, 100, 51, 40, 107, 52, 41, 41, 41]
def kR2 : List UInt8 := [115, 101, 97, 108, 40, 107, 49, 41]
set_option maxRecDepth 100000 in
theorem kt0_ok : okT kt0 = true := by decide +kernel
set_option maxRecDepth 100000 in
theorem kt0_cnt : cnt kt0 = 6 := by decide +kernel
set_option maxRecDepth 100000 in
theorem kt0_txt : txt kt0 = kR1 := by decide +kernel
set_option maxRecDepth 100000 in
theorem kt0_parts : (partsT kt0).length = 6 := by decide +kernel
set_option maxRecDepth 100000 in
theorem kt0_is : isT kt0 = true := by decide +kernel
set_option maxRecDepth 100000 in
theorem kR2_none : rdT 60 60 kR2 = none := by
  have h : (rdT 60 60 kR2).isNone = true := by decide +kernel
  exact Option.isNone_iff_eq_none.1 h
set_option maxRecDepth 100000 in
theorem kR1_some : ∃ r, rdT 60 60 kR1 = some (kt0, [], r) := by
  have h := rdT_full 60 kt0 kt0_ok 60 [] (by rw [kt0_cnt]; omega) (by rw [kt0_cnt]; omega) noD_nil
  rw [List.append_nil, kt0_txt] at h
  exact ⟨_, h⟩
set_option maxRecDepth 100000 in
theorem zT_not : isT (mkT 0 0 []) = false := by decide +kernel
set_option maxHeartbeats 4000000 in
set_option maxRecDepth 100000 in
theorem known_any (w : World) (hE : Esx w) (h10 : 10 ≤ w.heap.size) :
    Calls Tryd.prog 5 #[] w fun e w' => e = .returned (.bool true) ∧ Below w.heap.size w w' := by
  have hm := Mem.start w
  obtain ⟨r1, hr1⟩ := kR1_some
  have HP1 : Hid (∀ W, Below w.heap.size w W → Calls Tryd.prog 12 #[.string ⟨#[115, 101, 97, 108, 40, 107, 49, 44, 40, 110, 50, 44, 100, 51, 40, 107, 52, 41, 41, 41]⟩] W fun e w' => ∃ s, e = .returned (.tuple #[.agg (tcs kt0 s).toArray, .int .i64 0]) ∧ SlT (FN W.heap.size w'.heap.size) w' s kt0.l ∧ Below W.heap.size W w') := fun W hW => parse_yes kR1 W (by decide) (hE.below hW) (Nat.le_trans h10 hW.size) kt0 r1 hr1
  have HP2 : Hid (∀ W, Below w.heap.size w W → Calls Tryd.prog 12 #[.string ⟨#[115, 101, 97, 108, 40, 107, 49, 41]⟩] W fun e w' => e = .returned (.tuple #[.agg [.int .i64 0, .int .i64 0, .slice none 0 0].toArray, .int .i64 12]) ∧ Below W.heap.size W w') := fun W hW => parse_no1 kR2 W (by decide) (hE.below hW) (Nat.le_trans h10 hW.size) kR2_none
  have HI2 : Hid (∀ W, Calls Tryd.prog 7 #[.agg [.int .i64 0, .int .i64 0, .slice none 0 0].toArray] W fun e w' => e = .returned (.bool false) ∧ Below W.heap.size W w') := fun W => by
    have := is_any (F := fun _ => True) (mkT 0 0 []) (.slice none 0 0) W (by rw [mkT_l]; exact SlT.nil)
    rw [zT_not] at this
    exact this
  have tk1 : Nat := 0
  have tk2 : Nat := 0
  clear hr1 hE h10
  go_enter Tryd.func5, Tryd.ntmps5
  go_wp2_with (first
    | (first | (clear tk1; go_at_call 12; go_must (refine (HP1.out _ hm.below).mono ?_); rintro e w2 ⟨s2, he, hs2, hb⟩; subst he; obtain ⟨p2, c2, hv2, _⟩ := hs2.len; subst hv2; have HS2 : Hid (SlT (FN w.heap.size w2.heap.size) w2 (.slice p2 kt0.l.length c2) kt0.l) := (hs2.weak (fun b hb9 => ⟨Nat.le_trans hm.size hb9.1, hb9.2⟩)); have HB2 : Hid (Below w.heap.size w w2) := (hm.call hb).below; have HI1 : Hid (∀ W, Below w2.heap.size w2 W → Calls Tryd.prog 7 #[.agg (tcs kt0 (.slice p2 kt0.l.length c2)).toArray] W fun e w' => e = .returned (.bool true) ∧ Below W.heap.size W w') := fun W hW => (by have h9 := is_any kt0 _ W (HS2.out.below hW); rw [kt0_is] at h9; exact h9); have HCN : Hid (∀ W, Below w2.heap.size w2 W → Calls Tryd.prog 10 #[.agg (tcs kt0 (.slice p2 kt0.l.length c2)).toArray] W fun e w' => e = .returned (.int .i64 6) ∧ Below W.heap.size W w') := fun W hW => (by have h9 := count_any kt0 _ W (HS2.out.below hW); rw [kt0_cnt] at h9; exact h9); have HPR : Hid (∀ W, Below w2.heap.size w2 W → Calls Tryd.prog 13 #[.agg (tcs kt0 (.slice p2 kt0.l.length c2)).toArray] W fun e w' => e = .returned (.string (mkS kR1)) ∧ Below W.heap.size W w') := fun W hW => (by have h9 := print_any kt0 _ W (HS2.out.below hW); rw [kt0_is, if_pos rfl, kt0_txt] at h9; exact h9); have HPT : Hid (∀ W, Below w2.heap.size w2 W → Calls Tryd.prog 8 #[.agg (tcs kt0 (.slice p2 kt0.l.length c2)).toArray] W fun e w' => ∃ p c, e = .returned (.slice p 6 c) ∧ Below W.heap.size W w') := fun W hW => (parts_yes kt0 _ W kt0_is (HS2.out.below hW)).mono (by rintro e w' ⟨v, he, hs, hb⟩; obtain ⟨p, c, hv, _⟩ := hs.len; rw [kt0_parts] at hv; exact ⟨p, c, by rw [he, hv], hb⟩); clear hb hs2 hm; have hm := Mem.start w2) | (go_at_call 12; go_must (refine (HP2.out _ (HB2.out.trans (hm.below.mono HB2.out.size))).mono ?_); rintro e w5 ⟨he, hb⟩; subst he; replace hm := hm.call hb; clear hb))
    | ((with_reducible refine at_op (some 1) (.alloc 24) ?_); go_must (refine wpl_alloc _ zero_term hm ?_); clear hm; intro w3 g1 hm)
    | ((with_reducible refine at_op none (.store 24 (.tmp 1) (.tmp 7)) ?_); go_must (refine wpl_stw 0 (tcs kt0 (.slice p2 kt0.l.length c2)) hm rfl rfl rfl 3 sz_term rfl rfl (oneTcs _ _ _ _) ?_); clear hm; intro w4 hm)
    | ((with_reducible refine at_op (some 3) (.alloc 24) ?_); go_must (refine wpl_alloc _ zero_term hm ?_); clear hm; intro w6 g3 hm)
    | ((with_reducible refine at_op none (.store 24 (.tmp 3) (.tmp 11)) ?_); go_must (refine wpl_stw 0 ([.int .i64 0, .int .i64 0, .slice none 0 0]) hm rfl rfl rfl 3 sz_term rfl rfl ((by intro v hv; simp only [List.mem_cons, List.not_mem_nil, or_false] at hv; rcases hv with rfl | rfl | rfl <;> rfl)) ?_); clear hm; intro w7 hm)
    | ((with_reducible refine at_opG (some 20) (.load 24 (.tmp 1)) (some (6, true)) ?_); go_must (refine wpl_execG (.agg (tcs kt0 (.slice p2 kt0.l.length c2)).toArray) rfl (exec_ldsG 0 (tcs kt0 (.slice p2 kt0.l.length c2)) (Mem.get hm 1 rfl) rfl _ Tryd.underlying24 rfl 3 sz_term (Nat.le_refl _) rfl) ?_))
    | (first | (clear tk2; go_at_call 7; go_must (refine (HI1.out _ hm.below).mono ?_); rintro e w' ⟨he, hb⟩; subst he; replace hm := hm.call hb; clear hb) | (go_at_call 7; go_must (refine (HI2.out _).mono ?_); rintro e w' ⟨he, hb⟩; subst he; replace hm := hm.call hb; clear hb))
    | ((with_reducible refine at_opG (some 24) (.load 24 (.tmp 1)) (some (10, true)) ?_); go_must (refine wpl_execG (.agg (tcs kt0 (.slice p2 kt0.l.length c2)).toArray) rfl (exec_ldsG 0 (tcs kt0 (.slice p2 kt0.l.length c2)) (Mem.get hm 1 rfl) rfl _ Tryd.underlying24 rfl 3 sz_term (Nat.le_refl _) rfl) ?_))
    | (go_at_call 10; go_must (refine (HCN.out _ hm.below).mono ?_); rintro e w8 ⟨he, hb⟩; subst he; replace hm := hm.call hb; clear hb)
    | ((with_reducible refine at_opG (some 29) (.load 24 (.tmp 1)) (some (15, true)) ?_); go_must (refine wpl_execG (.agg (tcs kt0 (.slice p2 kt0.l.length c2)).toArray) rfl (exec_ldsG 0 (tcs kt0 (.slice p2 kt0.l.length c2)) (Mem.get hm 1 rfl) rfl _ Tryd.underlying24 rfl 3 sz_term (Nat.le_refl _) rfl) ?_))
    | (go_at_call 13; go_must (refine (HPR.out _ hm.below).mono ?_); rintro e w9 ⟨he, hb⟩; subst he; replace hm := hm.call hb; clear hb)
    | ((with_reducible refine at_opG (some 31) (.binOp .eql 9 (.tmp 30) (.const (.string { data := #[115, 101, 97, 108, 40, 107, 49, 44, 40, 110, 50, 44, 100, 51, 40, 107, 52, 41, 41, 41] })) 9) (some (15, true)) ?_); go_must (refine wpl_execG (.bool true) rfl (exec_eqsB (mkS kR1) (mkS kR1) true rfl rfl (eqs_yes _)) ?_))
    | ((with_reducible refine at_opG (some 34) (.load 24 (.tmp 1)) (some (20, true)) ?_); go_must (refine wpl_execG (.agg (tcs kt0 (.slice p2 kt0.l.length c2)).toArray) rfl (exec_ldsG 0 (tcs kt0 (.slice p2 kt0.l.length c2)) (Mem.get hm 1 rfl) rfl _ Tryd.underlying24 rfl 3 sz_term (Nat.le_refl _) rfl) ?_))
    | (go_at_call 8; go_must (refine (HPT.out _ hm.below).mono ?_); rintro e w10 ⟨p10, c10, he, hb⟩; subst he; replace hm := hm.call hb; clear hb))
  go_ret
  exact ⟨rfl, HB2.out.trans (hm.below.mono HB2.out.size)⟩
end Go.Proofs.YtbiinchmbclmcaaDoor
