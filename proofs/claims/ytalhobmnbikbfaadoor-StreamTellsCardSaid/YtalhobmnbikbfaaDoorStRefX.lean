/- The contracts of the reference's Xor of bytes, and of its stream's Xor. -/
import Derived.Test.YtalhobmnbikbfaaDoorStRefB
import Derived.Test.YtalhobmnbikbfaaDoorAnyG
namespace Go.Proofs.YtalhobmnbikbfaaDoor
open Go Go.RowKit

theorem anyH_startO {P : Program} {R : Act → World → Prop} {T : World → Prop} {a : Act} {w w0 : World} {S : List Nat} {rows : List (Nat × List Value × TypeId)} {id : Nat} {l : List Oper} {e : TypeId} {base : Nat} {v : Value} {zs : List Int} (hmix : P.follows .mixedOrders = true) (hm : Mem w0 S w rows) (hown : OwnB e w base v zs)
    (h : ∀ w', Mem w0 S w' rows → OwnB e w' base v zs → wpAnyH P .any l.toArray (endsIn R) T l.toArray.size (Array.replicate l.toArray.size false) a w') : (Code.region id l.toArray true).wp P (endsIn R) a w :=
  wp_region_held hmix (h _ hm.drew hown)
theorem exec_ldx {P : Program} {a : Act} {w : World} {dst : Option Tmp} {typ : TypeId} {pos : String} {aft : Array Edge} {gd : Option (Nat × Bool)} {ty : TypeId} {x : Operand} {b j : Nat} (v : Value) (hc : w.cell? ⟨b, j, none⟩ = some v) (hx : a.eval x = .pointer (some ⟨b, j, none⟩)) (ha : ∀ w, (isAgg ty).run P w = .ok false w) :
    (execOp a.eval { dst := dst, op := .load ty x, type := typ, pos := pos, after := aft, guard := gd }).run P w = .ok (.value v) w := by
  have hld : (loadVar ty ⟨b, j, none⟩).run P w = .ok v w := by simp [loadVar, ha, go_sem, hc]
  unfold execOp
  simp only [hx, Instr.loadAt, Instr.sureAddr, Sem.run_bind, Sem.run_pure, Result.andThen_ok, hld]
theorem info_u8c : (Tryd.prog.info? 5).map (fun i => (i.zero, i.size)) = some (some (.int .u8 0), 1) := by kernel_rfl
def xorZ (a b : List Int) : List Int := List.zipWith (fun x y => bits .xor .u8 x y) a b
theorem xorZ_snoc (a b : List Int) (i : Nat) (ha : i < a.length) (hb : i < b.length) : (xorZ a b).take (i + 1) = (xorZ a b).take i ++ [bits .xor .u8 (a.getD i 0) (b.getD i 0)] := by
  have hl : i < (xorZ a b).length := by simp [xorZ]; omega
  rw [List.take_succ_eq_append_getElem hl, getD_at _ _ ha, getD_at _ _ hb]
  simp [xorZ]
section
variable {ops : Array Oper} {rest : List Oper} {a : Act} {w w0 : World} {Q : Exit → Act → World → Prop} {dst : Option Tmp} {typ : TypeId} {pos : String} {aft : Array Edge} {S : List Nat} {rows : List (Nat × List Value × TypeId)}
theorem run_bslc {P : Program} (w : World) {t elem : TypeId} (z v : Value) (hu : P.underlying t = some (.slice elem)) (hi : (P.info? elem).map (fun i => (i.zero, i.size)) = some (some z, 1)) (hz : z.cells = #[z]) (hv : v.cells = #[v]) :
    (Instr.buildSlice t 1 #[(0, v)]).run P w = .ok (.slice (some ⟨w.heap.size, 0, none⟩) 1 1) (w.alloc (.cells [v].toArray elem)) := by
  obtain ⟨hz1, hs1⟩ := zero_of_info hi
  cases hq : P.info? elem with
  | none => simp [hq] at hi
  | some q =>
    have hs : q.size = 1 := by simpa [hq] using hs1
    have e : Array.map (fun x => ([z][x % 1]?).getD default) (Array.range 1) = #[z] := by
      apply Array.ext
      · simp
      · intro i h1 h2
        have h3 : i = 0 := by simpa using h2
        subst h3
        simp
    simp [Instr.buildSlice, run_underlying hu, sizeOf, typeInfo, hq, hs, hz1, hz, Instr.fill, hv, newRow, newObj]
    rw [e]
    rfl
theorem wpl_bslc {x : Operand} (y : Int) (hm : Mem w0 S w rows) (hx : a.eval x = .int .u8 y)
    (h : ∀ w' g, Below w.heap.size w w' → Mem w0 S w' ((g, u8s [y], 5) :: rows) → wpList Tryd.prog ops Q rest (a.put dst (.slice (some ⟨g, 0, none⟩) 1 1)) w') :
    wpList Tryd.prog ops Q ({ dst := dst, op := .buildSlice 27 1 #[(0, x)], type := typ, pos := pos, after := aft, guard := none } :: rest) a w := by
  refine wpList_plain rfl fun K hK => ?_
  have hh := hK _ _ (h _ _ ((Below.refl _ _).alloc (Nat.le_refl _) _) (hm.alloc (u8s [y]) 5))
  unfold Oper.wp execOp
  simp only [List.map_toArray, List.map_cons, List.map_nil, hx, run_bslc (P := Tryd.prog) w (.int .u8 0) (.int .u8 y) un_bs info_u8c rfl rfl, Sem.run_bind, Sem.run_pure, Result.andThen_ok]
  exact hh
end
set_option maxHeartbeats 1000000 in
set_option maxRecDepth 100000 in
theorem xorRef1_any (xs ys : List Int) (va vb : Value) (hxl : xs.length ≤ 100000) (w : World) (hva : SlOld w va xs) (hvb : SlOld w vb ys) :
    Calls Tryd.prog 23 #[va, vb] w fun e w' => ∃ v, e = .returned v ∧ SlOld w' v (xorZ xs ys) ∧ Below w.heap.size w w' := by
  obtain ⟨pa, ca, rfl, hca⟩ := hva.len
  obtain ⟨pb, cb, rfl, hcb⟩ := hvb.len
  have hm := Mem.start w
  have HPA : Hid (0 < xs.length → ∃ b off, pa = some ⟨b, off, none⟩ ∧ Seg w b off xs) := hva.src0.2.2
  have HPB : Hid (0 < ys.length → ∃ b off, pb = some ⟨b, off, none⟩ ∧ Seg w b off ys) := hvb.src0.2.2
  have HZL : Hid ((xorZ xs ys).length = min xs.length ys.length) := by show _ = _; simp [xorZ]
  clear hva hvb
  go_enter Tryd.func23, Tryd.ntmps23
  go_wp2_with fail
  go_loopw [5, 6] (fun vo vi wr => ∃ i : Nat, i ≤ xs.length ∧ i ≤ ys.length ∧ vi = .int .i64 i ∧ Hid (OwnB 5 wr w.heap.size vo ((xorZ xs ys).take i)) ∧ Mem w [] wr []) (fun _ vi _ => xs.length - (intOf vi).toNat)
  case atStart => exact ⟨0, by omega, by omega, rfl, OwnB.nil _ _ _, hm⟩
  case round =>
    clear hm
    obtain ⟨i, hix, hiy, rfl, HO, hm⟩ := hrel
    by_cases hlx : i < xs.length
    · have hxi : (i : Int) < (xs.length : Int) := by omega
      by_cases hly : i < ys.length
      · have hyi : (i : Int) < (ys.length : Int) := by omega
        obtain ⟨ba, oa, rfl, hsa⟩ := HPA.out (by omega)
        obtain ⟨bb, ob, rfl, hsb⟩ := HPB.out (by omega)
        obtain ⟨X, hX⟩ : ∃ A, A = xs.getD i 0 := ⟨_, rfl⟩
        obtain ⟨Y, hY⟩ : ∃ B, B = ys.getD i 0 := ⟨_, rfl⟩
        have HXC : Hid (w.cell? ⟨ba, oa + i, none⟩ = some (.int .u8 X)) := by rw [hX]; exact hsa i hlx
        have HYC : Hid (w.cell? ⟨bb, ob + i, none⟩ = some (.int .u8 Y)) := by rw [hY]; exact hsb i hly
        have HSN : Hid ((xorZ xs ys).take (i + 1) = (xorZ xs ys).take i ++ [bits .xor .u8 X Y]) := by show _ = _; rw [hX, hY]; exact xorZ_snoc xs ys i hlx hly
        have HTL : Hid (((xorZ xs ys).take i).length + [bits .xor .u8 X Y].length ≤ 1099511627776) := by show _ ≤ _; rw [List.length_take]; simp; omega
        obtain ⟨po, lo, co, hvo⟩ : ∃ p l c, u5 = Value.slice p l c := by
          obtain ⟨p, c, h, _⟩ := HO.out.old
          exact ⟨p, _, c, h⟩
        subst hvo
        clear hsa hsb hX hY
        go_wp2_with fail
        refine wp_ends0 ?_
        refine anyH_startO (T := fun W => Mem w [] W []) (by kernel_rfl) hm HO.out ?_
        clear hm HO
        intro w2 hm ho
        have HO : Hid (OwnB 5 w2 w.heap.size (.slice po lo co) ((xorZ xs ys).take i)) := ho
        clear ho
        refine anyH_take 0 (v := .slice po lo co) rfl (by kernel_rfl) (by kernel_rfl) (by kernel_rfl) rfl (fun W _ => by go_simp) hm ?_
        go_simp
        refine anyH_take 1 (v := .slice (some ⟨ba, oa, none⟩) xs.length ca) rfl (by kernel_rfl) (by kernel_rfl) (by kernel_rfl) rfl (fun W _ => by go_simp) hm ?_
        go_simp
        refine anyH_take 2 (v := .int .i64 (i : Int)) rfl (by kernel_rfl) (by kernel_rfl) (by kernel_rfl) rfl (fun W _ => by go_simp) hm ?_
        go_simp
        refine anyH_take 3 (v := .pointer (some ⟨ba, oa + i, none⟩)) rfl (by kernel_rfl) (by kernel_rfl) (by kernel_rfl) rfl (fun W _ => by go_simp) hm ?_
        go_simp
        refine anyH_take 4 (v := .int .u8 X) rfl (by kernel_rfl) (by kernel_rfl) (by kernel_rfl) rfl (fun W hW => exec_ldx (.int .u8 X) ((Mem.old hW (p := ⟨ba, oa + i, none⟩) (block_lt_of_cell HXC.out) (by simp)).trans HXC.out) rfl ag_u8) hm ?_
        go_simp
        refine anyH_take 5 (v := .slice (some ⟨bb, ob, none⟩) ys.length cb) rfl (by kernel_rfl) (by kernel_rfl) (by kernel_rfl) rfl (fun W _ => by go_simp) hm ?_
        go_simp
        refine anyH_take 6 (v := .int .i64 (i : Int)) rfl (by kernel_rfl) (by kernel_rfl) (by kernel_rfl) rfl (fun W _ => by go_simp) hm ?_
        go_simp
        refine anyH_take 7 (v := .pointer (some ⟨bb, ob + i, none⟩)) rfl (by kernel_rfl) (by kernel_rfl) (by kernel_rfl) rfl (fun W _ => by go_simp) hm ?_
        go_simp
        refine anyH_take 8 (v := .int .u8 Y) rfl (by kernel_rfl) (by kernel_rfl) (by kernel_rfl) rfl (fun W hW => exec_ldx (.int .u8 Y) ((Mem.old hW (p := ⟨bb, ob + i, none⟩) (block_lt_of_cell HYC.out) (by simp)).trans HYC.out) rfl ag_u8) hm ?_
        go_simp
        refine anyH_take 9 (v := .int .u8 (bits .xor .u8 X Y)) rfl (by kernel_rfl) (by kernel_rfl) (by kernel_rfl) rfl (fun W _ => by go_simp) hm ?_
        go_simp
        refine wpAnyH_all (rs := [10]) (by kernel_rfl) (by simp) ?_
        intro i hi
        simp only [List.mem_cons, List.not_mem_nil, or_false] at hi
        subst hi
        refine anyH_op 10 rfl rfl ?_
        intro K hK
        refine wpl_bslc (bits .xor .u8 X Y) hm rfl ?_
        intro w3 g29 hb3 hm3
        have HO3 : Hid (OwnB 5 w3 w.heap.size (.slice po lo co) ((xorZ xs ys).take i)) := OwnB.below HO.out hb3
        clear hm hb3 HO
        refine wpList_nil ?_
        refine hK _ _ hm3.tail ?_
        clear hK K
        refine wpAnyH_all (rs := [11]) (by kernel_rfl) (by simp) ?_
        intro i hi
        simp only [List.mem_cons, List.not_mem_nil, or_false] at hi
        subst hi
        refine anyH_op 11 rfl rfl ?_
        intro K hK
        refine wpl_app rfl un_bs made_u8 [bits .xor .u8 X Y] hm3.tail HO3.out (by intro r hr; cases hr) rfl rfl rfl (fun _ => ⟨g29, 0, rfl, Seg.row (hm3.get 0 rfl)⟩) HTL.out ?_
        intro v4 w4 ho4 hm4
        rw [← HSN.out] at ho4
        have HO4 : Hid (OwnB 5 w4 w.heap.size v4 ((xorZ xs ys).take (i + 1))) := ho4
        clear hm3 HO3 ho4
        refine wpList_nil ?_
        refine hK _ _ hm4 ?_
        clear hK K
        refine anyH_take 12 (v := v4) rfl (by kernel_rfl) (by kernel_rfl) (by kernel_rfl) rfl (fun W _ => by go_simp) hm4 ?_
        go_simp
        refine wpAnyH_done (by kernel_rfl) ?_ _
        simp only [endsIn]
        go_wp2_with fail
        go_roundw
        case rel => exact ⟨i + 1, by omega, by omega, by go_num, HO4.out, hm4⟩
        case measure => simp [intOf]; omega
      · have hyi : ¬ (i : Int) < (ys.length : Int) := by omega
        have hfull : (xorZ xs ys).take i = xorZ xs ys := List.take_of_length_le (by rw [HZL.out]; omega)
        have ho := HO.out.old
        rw [hfull] at ho
        have HO2 : Hid (SlOld wr u5 (xorZ xs ys)) := ho
        clear HO ho hfull
        go_wp2_with fail
        go_ret
        exact ⟨_, rfl, HO2.out, hm.below⟩
    · have hxi : ¬ (i : Int) < (xs.length : Int) := by omega
      have hfull : (xorZ xs ys).take i = xorZ xs ys := List.take_of_length_le (by rw [HZL.out]; omega)
      have ho := HO.out.old
      rw [hfull] at ho
      have HO2 : Hid (SlOld wr u5 (xorZ xs ys)) := ho
      clear HO ho hfull
      go_wp2_with fail
      go_ret
      exact ⟨_, rfl, HO2.out, hm.below⟩
end Go.Proofs.YtalhobmnbikbfaaDoor
