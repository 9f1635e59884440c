/- The contracts of the reference's Xor of bytes, and of its stream's Xor. -/
import Derived.Test.YtbfccepddfinoaaDoorStRefB
import Derived.Test.YtbfccepddfinoaaDoorAnyG
namespace Go.Proofs.YtbfccepddfinoaaDoor
open Go Go.RowKit

theorem exec_ldx {P : Program} {a : Act} {w : World} {dst : Option Tmp} {typ : TypeId} {pos : String} {aft : Array Edge} {gd : Option (Nat × Bool)} {ty : TypeId} {x : Operand} {b j : Nat} (v : Value) (hc : w.cell? ⟨b, j, none⟩ = some v) (hx : a.eval x = .pointer (some ⟨b, j, none⟩)) (ha : ∀ w, (isAgg ty).run P w = .ok false w) :
    (execOp a.eval { dst := dst, op := .load ty x, type := typ, pos := pos, after := aft, guard := gd }).run P w = .ok (.value v) w := by
  have hld : (loadVar ty ⟨b, j, none⟩).run P w = .ok v w := by simp [loadVar, ha, go_sem, hc]
  unfold execOp
  simp only [hx, Instr.loadAt, Instr.sureAddr, Sem.run_bind, Sem.run_pure, Result.andThen_ok, hld]
theorem info_u8c : (Tryd.prog.info? 5).map (fun i => (i.zero, i.size)) = some (some (.int .u8 0), 1) := by kernel_rfl
def xorZ (a b : List Int) : List Int := List.zipWith (fun x y => bits .xor .u8 x y) a b
theorem xorZ_snoc (a b : List Int) (i : Nat) (ha : i < a.length) (hb : i < b.length) : (xorZ a b).take (i + 1) = (xorZ a b).take i ++ [bits .xor .u8 (a.getD i 0) (b.getD i 0)] := by
  have hl : i < (xorZ a b).length := by simp [xorZ]; omega
  rw [List.take_succ_eq_append_getElem hl, getD_at _ _ ha, getD_at _ _ hb]
  simp [xorZ]
section
variable {ops : Array Oper} {rest : List Oper} {a : Act} {w w0 : World} {Q : Exit → Act → World → Prop} {dst : Option Tmp} {typ : TypeId} {pos : String} {aft : Array Edge} {S : List Nat} {rows : List (Nat × List Value × TypeId)}
theorem run_bslc {P : Program} (w : World) {t elem : TypeId} (z v : Value) (hu : P.underlying t = some (.slice elem)) (hi : (P.info? elem).map (fun i => (i.zero, i.size)) = some (some z, 1)) (hz : z.cells = #[z]) (hv : v.cells = #[v]) :
    (Instr.buildSlice t 1 #[(0, v)]).run P w = .ok (.slice (some ⟨w.heap.size, 0, none⟩) 1 1) (w.alloc (.cells [v].toArray elem)) := by
  obtain ⟨hz1, hs1⟩ := zero_of_info hi
  cases hq : P.info? elem with
  | none => simp [hq] at hi
  | some q =>
    have hs : q.size = 1 := by simpa [hq] using hs1
    have e : Array.map (fun x => ([z][x % 1]?).getD default) (Array.range 1) = #[z] := by
      apply Array.ext
      · simp
      · intro i h1 h2
        have h3 : i = 0 := by simpa using h2
        subst h3
        simp
    simp [Instr.buildSlice, run_underlying hu, sizeOf, typeInfo, hq, hs, hz1, hz, Instr.fill, hv, newRow, newObj]
    rw [e]
    rfl
theorem wpl_bslc {x : Operand} (y : Int) (hm : Mem w0 S w rows) (hx : a.eval x = .int .u8 y)
    (h : ∀ w' g, Below w.heap.size w w' → Mem w0 S w' ((g, u8s [y], 5) :: rows) → wpList Tryd.prog ops Q rest (a.put dst (.slice (some ⟨g, 0, none⟩) 1 1)) w') :
    wpList Tryd.prog ops Q ({ dst := dst, op := .buildSlice 26 1 #[(0, x)], type := typ, pos := pos, after := aft, guard := none } :: rest) a w := by
  refine wpList_plain rfl fun K hK => ?_
  have hh := hK _ _ (h _ _ ((Below.refl _ _).alloc (Nat.le_refl _) _) (hm.alloc (u8s [y]) 5))
  unfold Oper.wp execOp
  simp only [List.map_toArray, List.map_cons, List.map_nil, hx, run_bslc (P := Tryd.prog) w (.int .u8 0) (.int .u8 y) un_bs info_u8c rfl rfl, Sem.run_bind, Sem.run_pure, Result.andThen_ok]
  exact hh
end
set_option maxHeartbeats 1000000 in
set_option maxRecDepth 100000 in
theorem xorRef1_any (xs ys : List Int) (va vb : Value) (hxl : xs.length ≤ 100000) (w : World) (hva : SlOld w va xs) (hvb : SlOld w vb ys) :
    Calls Tryd.prog 37 #[va, vb] w fun e w' => ∃ v, e = .returned v ∧ SlOld w' v (xorZ xs ys) ∧ Below w.heap.size w w' := by
  obtain ⟨pa, ca, rfl, hca⟩ := hva.len
  obtain ⟨pb, cb, rfl, hcb⟩ := hvb.len
  have hm := Mem.start w
  have HPA : Hid (0 < xs.length → ∃ b off, pa = some ⟨b, off, none⟩ ∧ Seg w b off xs) := hva.src0.2.2
  have HPB : Hid (0 < ys.length → ∃ b off, pb = some ⟨b, off, none⟩ ∧ Seg w b off ys) := hvb.src0.2.2
  have HZL : Hid ((xorZ xs ys).length = min xs.length ys.length) := by show _ = _; simp [xorZ]
  clear hva hvb
  go_enter Tryd.func37, Tryd.ntmps37
  go_wp2_with fail
  go_loopw [5, 6] (fun vo vi wr => ∃ i : Nat, i ≤ xs.length ∧ i ≤ ys.length ∧ vi = .int .i64 i ∧ Hid (OwnB 5 wr w.heap.size vo ((xorZ xs ys).take i)) ∧ Mem w [] wr []) (fun _ vi _ => xs.length - (intOf vi).toNat)
  case atStart => exact ⟨0, by omega, by omega, rfl, OwnB.nil _ _ _, hm⟩
  case round =>
    clear hm
    obtain ⟨i, hix, hiy, rfl, HO, hm⟩ := hrel
    by_cases hlx : i < xs.length
    · have hxi : (i : Int) < (xs.length : Int) := by omega
      by_cases hly : i < ys.length
      · have hyi : (i : Int) < (ys.length : Int) := by omega
        obtain ⟨ba, oa, rfl, hsa⟩ := HPA.out (by omega)
        obtain ⟨bb, ob, rfl, hsb⟩ := HPB.out (by omega)
        obtain ⟨X, hX⟩ : ∃ A, A = xs.getD i 0 := ⟨_, rfl⟩
        obtain ⟨Y, hY⟩ : ∃ B, B = ys.getD i 0 := ⟨_, rfl⟩
        have HXC : Hid (w.cell? ⟨ba, oa + i, none⟩ = some (.int .u8 X)) := by rw [hX]; exact hsa i hlx
        have HYC : Hid (w.cell? ⟨bb, ob + i, none⟩ = some (.int .u8 Y)) := by rw [hY]; exact hsb i hly
        have HSN : Hid ((xorZ xs ys).take (i + 1) = (xorZ xs ys).take i ++ [bits .xor .u8 X Y]) := by show _ = _; rw [hX, hY]; exact xorZ_snoc xs ys i hlx hly
        have HTL : Hid (((xorZ xs ys).take i).length + [bits .xor .u8 X Y].length ≤ 1099511627776) := by show _ ≤ _; rw [List.length_take]; simp; omega
        obtain ⟨po, lo, co, hvo⟩ : ∃ p l c, u5 = Value.slice p l c := by
          obtain ⟨p, c, h, _⟩ := HO.out.old
          exact ⟨p, _, c, h⟩
        subst hvo
        clear hsa hsb hX hY
        go_wp2_with fail
        refine wp_ends0 ?_
        refine anyH_startO (T := fun W => Mem w [] W []) (by kernel_rfl) hm HO.out ?_
        clear hm HO
        intro w2 hm ho
        have HO : Hid (OwnB 5 w2 w.heap.size (.slice po lo co) ((xorZ xs ys).take i)) := ho
        clear ho
        refine anyH_take 0 (v := .slice po lo co) rfl (by kernel_rfl) (by kernel_rfl) (by kernel_rfl) rfl (fun W _ => by go_simp) hm ?_
        go_simp
        refine anyH_take 1 (v := .slice (some ⟨ba, oa, none⟩) xs.length ca) rfl (by kernel_rfl) (by kernel_rfl) (by kernel_rfl) rfl (fun W _ => by go_simp) hm ?_
        go_simp
        refine anyH_take 2 (v := .int .i64 (i : Int)) rfl (by kernel_rfl) (by kernel_rfl) (by kernel_rfl) rfl (fun W _ => by go_simp) hm ?_
        go_simp
        refine anyH_take 3 (v := .pointer (some ⟨ba, oa + i, none⟩)) rfl (by kernel_rfl) (by kernel_rfl) (by kernel_rfl) rfl (fun W _ => by go_simp) hm ?_
        go_simp
        refine anyH_take 4 (v := .int .u8 X) rfl (by kernel_rfl) (by kernel_rfl) (by kernel_rfl) rfl (fun W hW => exec_ldx (.int .u8 X) ((Mem.old hW (p := ⟨ba, oa + i, none⟩) (block_lt_of_cell HXC.out) (by simp)).trans HXC.out) rfl ag_u8) hm ?_
        go_simp
        refine anyH_take 5 (v := .slice (some ⟨bb, ob, none⟩) ys.length cb) rfl (by kernel_rfl) (by kernel_rfl) (by kernel_rfl) rfl (fun W _ => by go_simp) hm ?_
        go_simp
        refine anyH_take 6 (v := .int .i64 (i : Int)) rfl (by kernel_rfl) (by kernel_rfl) (by kernel_rfl) rfl (fun W _ => by go_simp) hm ?_
        go_simp
        refine anyH_take 7 (v := .pointer (some ⟨bb, ob + i, none⟩)) rfl (by kernel_rfl) (by kernel_rfl) (by kernel_rfl) rfl (fun W _ => by go_simp) hm ?_
        go_simp
        refine anyH_take 8 (v := .int .u8 Y) rfl (by kernel_rfl) (by kernel_rfl) (by kernel_rfl) rfl (fun W hW => exec_ldx (.int .u8 Y) ((Mem.old hW (p := ⟨bb, ob + i, none⟩) (block_lt_of_cell HYC.out) (by simp)).trans HYC.out) rfl ag_u8) hm ?_
        go_simp
        refine anyH_take 9 (v := .int .u8 (bits .xor .u8 X Y)) rfl (by kernel_rfl) (by kernel_rfl) (by kernel_rfl) rfl (fun W _ => by go_simp) hm ?_
        go_simp
        refine wpAnyH_all (rs := [10]) (by kernel_rfl) (by simp) ?_
        intro i hi
        simp only [List.mem_cons, List.not_mem_nil, or_false] at hi
        subst hi
        refine anyH_op 10 rfl rfl ?_
        intro K hK
        refine wpl_bslc (bits .xor .u8 X Y) hm rfl ?_
        intro w3 g29 hb3 hm3
        have HO3 : Hid (OwnB 5 w3 w.heap.size (.slice po lo co) ((xorZ xs ys).take i)) := OwnB.below HO.out hb3
        clear hm hb3 HO
        refine wpList_nil ?_
        refine hK _ _ hm3.tail ?_
        clear hK K
        refine wpAnyH_all (rs := [11]) (by kernel_rfl) (by simp) ?_
        intro i hi
        simp only [List.mem_cons, List.not_mem_nil, or_false] at hi
        subst hi
        refine anyH_op 11 rfl rfl ?_
        intro K hK
        refine wpl_app rfl un_bs made_u8 [bits .xor .u8 X Y] hm3.tail HO3.out (by intro r hr; cases hr) rfl rfl rfl (fun _ => ⟨g29, 0, rfl, Seg.row (hm3.get 0 rfl)⟩) HTL.out ?_
        intro v4 w4 ho4 hm4
        rw [← HSN.out] at ho4
        have HO4 : Hid (OwnB 5 w4 w.heap.size v4 ((xorZ xs ys).take (i + 1))) := ho4
        clear hm3 HO3 ho4
        refine wpList_nil ?_
        refine hK _ _ hm4 ?_
        clear hK K
        refine anyH_take 12 (v := v4) rfl (by kernel_rfl) (by kernel_rfl) (by kernel_rfl) rfl (fun W _ => by go_simp) hm4 ?_
        go_simp
        refine wpAnyH_done (by kernel_rfl) ?_ _
        simp only [endsIn]
        go_wp2_with fail
        go_roundw
        case rel => exact ⟨i + 1, by omega, by omega, by go_num, HO4.out, hm4⟩
        case measure => simp [intOf]; omega
      · have hyi : ¬ (i : Int) < (ys.length : Int) := by omega
        have hfull : (xorZ xs ys).take i = xorZ xs ys := List.take_of_length_le (by rw [HZL.out]; omega)
        have ho := HO.out.old
        rw [hfull] at ho
        have HO2 : Hid (SlOld wr u5 (xorZ xs ys)) := ho
        clear HO ho hfull
        go_wp2_with fail
        go_ret
        exact ⟨_, rfl, HO2.out, hm.below⟩
    · have hxi : ¬ (i : Int) < (xs.length : Int) := by omega
      have hfull : (xorZ xs ys).take i = xorZ xs ys := List.take_of_length_le (by rw [HZL.out]; omega)
      have ho := HO.out.old
      rw [hfull] at ho
      have HO2 : Hid (SlOld wr u5 (xorZ xs ys)) := ho
      clear HO ho hfull
      go_wp2_with fail
      go_ret
      exact ⟨_, rfl, HO2.out, hm.below⟩
end Go.Proofs.YtbfccepddfinoaaDoor

namespace Go.Proofs.YtbfccepddfinoaaDoor
open Go Go.RowKit

section
variable {P : Program} {ops : Array Oper} {rest : List Oper} {a : Act} {w w0 : World} {Q : Exit → Act → World → Prop} {dst : Option Tmp} {typ : TypeId} {pos : String} {aft : Array Edge} {S : List Nat} {rows : List (Nat × List Value × TypeId)}
theorem wpl_allocB4 {ty : TypeId} (z : List Value) (hz : ∀ w, (zeroValue ty).run P w = .ok (.agg z.toArray) w) (hm : Mem w0 S w rows)
    (h : ∀ w' g, Below w.heap.size w w' → Mem w0 S w' ((g, z, ty) :: rows) → wpList P ops Q rest (a.put dst (.pointer (some ⟨g, 0, none⟩))) w') :
    wpList P ops Q ({ dst := dst, op := .alloc ty, type := typ, pos := pos, after := aft, guard := none } :: rest) a w := by
  refine wpList_plain rfl fun K hK => ?_
  have hh := hK _ _ (h _ _ ((Below.refl _ _).alloc (Nat.le_refl _) _) (hm.alloc z ty))
  unfold Oper.wp execOp
  simp [Instr.alloc, newVar, newRow, newObj, hz, Value.cells]
  exact hh
theorem wpl_stwV2 {ty : TypeId} {x y : Operand} (i : Nat) {g : Nat} {l : List Value} {t : TypeId} (l' : List Value) (hm : Mem w0 S w rows) (hi : rows[i]? = some (g, l, t)) (hx : a.eval x = .pointer (some ⟨g, 0, none⟩))
    (hy : a.eval y = .agg l'.toArray) (n : Nat) (hs : (P.info? ty).map (·.size) = some n) (hn : l.length = n) (hn' : l'.length = n) (h1 : ∀ v ∈ l', v.oneCell' = true)
    (h : ∀ w', Upd g w w' → Mem w0 S w' (rows.set i (g, l', t)) → wpList P ops Q rest a w') :
    wpList P ops Q ({ dst := none, op := .store ty x y, type := typ, pos := pos, after := aft, guard := none } :: rest) a w := by
  refine wpList_plain rfl fun K hK => ?_
  have hr := hm.get i hi
  have hh := hK _ _ (h _ (Upd.setRow g w l'.toArray) (hm.upd i hi (Upd.setRow g w l'.toArray) (hr.setRow l')))
  unfold Oper.wp execOp
  simp only [hx, hy, Instr.storeAt, Instr.sureAddr, Sem.run_bind, Sem.run_pure, Result.andThen_ok,
    run_storeVar_row w g t ty l.toArray l'.toArray hr (by rw [hs]; simp [hn']) (by simp [hn, hn']) (by simpa using h1)]
  exact hh
end
theorem xor_piece (ks ns : List Int) (c : Int) (ms : List Int) (j n : Nat) (hn : n ≤ 64) (hj : 64 * j + n ≤ ms.length) (he : n = 64 ∨ 64 * j + n = ms.length) :
    (xorOf ks ns c ms).take (64 * j) ++ xorZ ((ms.drop (64 * j)).take n) (blockOf ks ns ((c + (j : Int)) % 4294967296)) = (xorOf ks ns c ms).take (64 * (j + 1)) := by
  have hb := blockOf_length ks ns ((c + (j : Int)) % 4294967296)
  have hx := xorOf_length ks ns c ms
  have hz : (xorZ ((ms.drop (64 * j)).take n) (blockOf ks ns ((c + (j : Int)) % 4294967296))).length = n := by
    rw [xorZ, List.length_zipWith, hb, List.length_take, List.length_drop]
    omega
  have ht : ((xorOf ks ns c ms).take (64 * j)).length = 64 * j := by rw [List.length_take, hx]; omega
  apply ext_getD
  · rw [List.length_append, ht, hz, List.length_take, hx]
    omega
  · intro i hi
    rw [List.length_append, ht, hz] at hi
    rw [getD_append, ht, getD_take _ _ _ (show i < 64 * (j + 1) by omega)]
    by_cases h1 : i < 64 * j
    · rw [if_pos h1, getD_take _ _ _ h1]
    · rw [if_neg h1, xorOf_get _ _ _ _ _ (by omega), getD_at _ _ (show i - 64 * j < _ by rw [hz]; omega)]
      have hk : keyAt ks ns c i = (blockOf ks ns ((c + (j : Int)) % 4294967296)).getD (i - 64 * j) 0 := by
        unfold keyAt
        rw [show i / 64 = j by omega, show i % 64 = i - 64 * j by omega]
      rw [hk, getD_at _ _ (show i < ms.length by omega), getD_at _ _ (show i - 64 * j < _ by rw [hb]; omega)]
      simp only [xorZ, List.getElem_zipWith, List.getElem_take, List.getElem_drop]
      have hidx : 64 * j + (i - 64 * j) = i := by omega
      simp only [hidx]
set_option maxHeartbeats 1000000 in
set_option maxRecDepth 100000 in
theorem xorRef4_own (ks ns ms : List Int) (c : Int) (v : Value) (hkl : ks.length = 32) (hnl : ns.length = 12) (hkb : Bytes ks) (hnb : Bytes ns) (hc : Word c) (hml : ms.length ≤ 60000) (w : World) (hv : SlOld w v ms) :
    Calls Tryd.prog 25 #[.agg (u8s ks).toArray, .agg (u8s ns).toArray, .int .u32 c, v] w fun e w' => ∃ v', e = .returned v' ∧ OwnB 5 w' w.heap.size v' (xorOf ks ns c ms) ∧ Below w.heap.size w w' := by
  obtain ⟨p, cap, rfl, hcap⟩ := hv.len
  have hm := Mem.start w
  have HKB : Hid _ := hkb
  have HNB : Hid _ := hnb
  have HKL : Hid _ := hkl
  have HNL : Hid _ := hnl
  have HPM : Hid (0 < ms.length → ∃ b off, p = some ⟨b, off, none⟩ ∧ Seg w b off ms) := hv.src0.2.2
  have HKU : Hid ((u8s ks).length = 32) := by show _ = _; rw [u8s_length]; exact hkl
  have HNU : Hid ((u8s ns).length = 12) := by show _ = _; rw [u8s_length]; exact hnl
  have HXL : Hid ((xorOf ks ns c ms).length = ms.length) := xorOf_length _ _ _ _
  obtain ⟨hc0, hc1⟩ := hc
  clear hkb hnb hkl hnl hv
  go_enter Tryd.func25, Tryd.ntmps25
  go_wp2_with (first
    | ((with_reducible refine at_op (some 4) (.box 23 (.tmp 0)) ?_); refine wpl_box (u8s ks) rfl hm ?_; clear hm; intro w1 g4 hm)
    | ((with_reducible refine at_op (some 5) (.box 30 (.tmp 1)) ?_); refine wpl_box (u8s ns) rfl hm ?_; clear hm; intro w2 g5 hm))

  go_loopw [2, 9, 10] (fun vc vo vi wr => ∃ j : Nat, vc = .int .u32 ((c + (j : Int)) % 4294967296) ∧ 64 * j < ms.length + 64 ∧ vi = .int .i64 ((64 * j : Nat) : Int) ∧ Hid (OwnB 5 wr w.heap.size vo ((xorOf ks ns c ms).take (64 * j))) ∧ Mem w [] wr [(g5, u8s ns, 30), (g4, u8s ks, 23)]) (fun _ _ vi _ => ms.length + 64 - (intOf vi).toNat)
  case atStart => exact ⟨0, by rw [show (c + ((0 : Nat) : Int)) % 4294967296 = c by omega], by omega, rfl, OwnB.nil _ _ _, hm⟩
  case round =>
    clear hm
    obtain ⟨j, rfl, hj, rfl, HO, hm⟩ := hrel
    by_cases hlt : 64 * j < ms.length
    · have hti : ((64 * j : Nat) : Int) < (ms.length : Int) := by omega
      obtain ⟨bm, om, rfl, hsm⟩ := HPM.out (by omega)
      have HSM : Hid (Seg w bm om ms) := hsm
      clear hsm
      obtain ⟨po, lo, co, hvo⟩ : ∃ p l c, u9 = Value.slice p l c := by
        obtain ⟨p, c, h, _⟩ := HO.out.old
        exact ⟨p, _, c, h⟩
      subst hvo
      obtain ⟨B, hB⟩ : ∃ B, B = blockOf ks ns ((c + (j : Int)) % 4294967296) := ⟨_, rfl⟩
      have HBE : Hid (∀ _ : Unit, blockOf ks ns ((c + (j : Int)) % 4294967296) = B) := fun _ => hB.symm
      have HBL : Hid (B.length = 64) := by show _ = _; rw [hB, blockOf_length]
      clear hB
      have HCE : Hid (((c + (j : Int)) % 4294967296 + 1) % 4294967296 = (c + ((j + 1 : Nat) : Int)) % 4294967296) := by show _ = _; omega
      go_wp2_with (first
        | ((with_reducible refine at_op (some 18) (.load 23 (.tmp 4)) ?_); refine wpl_ldw 1 hm rfl rfl _ un_key rfl 32 sz_key (HKU.out) ?_)
        | ((with_reducible refine at_op (some 19) (.load 30 (.tmp 5)) ?_); refine wpl_ldw 0 hm rfl rfl _ un_nce rfl 12 sz_nce (HNU.out) ?_)
        | (go_at_call 36; refine (sblockRef_any ks ns _ HKL.out HNL.out HKB.out HNB.out _).mono ?_; rintro e w3 ⟨he, hb⟩; rw [HBE.out ()] at he; subst he; have HOb : Hid (OwnB 5 w3 w.heap.size (.slice po lo co) ((xorOf ks ns c ms).take (64 * j))) := OwnB.below HO.out hb; replace hm := hm.call hb; clear hb HO)
        | ((with_reducible refine at_op (some 11) (.alloc 64) ?_); refine wpl_allocB4 _ zero_b64 hm ?_; clear hm; intro w4 g11 hb4 hm; have HOc : Hid (OwnB 5 w4 w.heap.size (.slice po lo co) ((xorOf ks ns c ms).take (64 * j))) := OwnB.below HOb.out hb4; clear hb4 HOb)
        | ((with_reducible refine at_op none (.store 64 (.tmp 11) (.tmp 21)) ?_); refine wpl_stwV2 0 (u8s B) hm rfl rfl rfl 64 sz_b64 (by simp [u8s_length]) (by rw [u8s_length]; exact HBL.out) (u8s_one _) ?_; intro w4b hu hm2; have HO : Hid (OwnB 5 w4b w.heap.size (.slice po lo co) ((xorOf ks ns c ms).take (64 * j))) := OwnB.upd HOc.out (hm.get 0 rfl) (by decide) hu; clear hm hu HOc; have hm := hm2; clear hm2))

      have HTY : Hid (∀ r ∈ [((g11, u8s B, 64) : Nat × List Value × TypeId), (g5, u8s ns, 30), (g4, u8s ks, 23)], r.2.2 ≠ 5) := by
        intro r hr
        simp only [List.mem_cons, List.not_mem_nil, or_false] at hr
        rcases hr with rfl | rfl | rfl
        · show (64 : Nat) ≠ 5; decide
        · show (30 : Nat) ≠ 5; decide
        · show (23 : Nat) ≠ 5; decide
      by_cases h64 : 64 * j + 64 < ms.length
      · have h64i : ((64 * j : Nat) : Int) + 64 < (ms.length : Int) := by omega
        have HPC : Hid (((ms.drop (64 * j)).take 64).length = 64) := by show _ = _; rw [List.length_take, List.length_drop]; omega
        have HNX : Hid (∀ _ : Unit, (xorOf ks ns c ms).take (64 * j) ++ xorZ ((ms.drop (64 * j)).take 64) B = (xorOf ks ns c ms).take (64 * (j + 1))) := by
          intro _
          rw [← HBE.out ()]
          exact xor_piece ks ns c ms j 64 (by omega) (by omega) (by omega)
        have HNL : Hid (((xorOf ks ns c ms).take (64 * j)).length + (xorZ ((ms.drop (64 * j)).take 64) B).length ≤ 1099511627776) := by
          show _ ≤ _
          rw [List.length_take, xorOf_length]
          simp [xorZ]
          omega
        refine wp_ends0 ?_
        refine anyH_startO (T := fun W => Mem w [] W [(g11, u8s B, 64), (g5, u8s ns, 30), (g4, u8s ks, 23)]) (by kernel_rfl) hm HO.out ?_
        clear hm HO
        intro w5 hm ho
        have HO : Hid (OwnB 5 w5 w.heap.size (.slice po lo co) ((xorOf ks ns c ms).take (64 * j))) := ho
        clear ho
        refine anyH_take 0 (v := .slice po lo co) rfl (by kernel_rfl) (by kernel_rfl) (by kernel_rfl) rfl (fun W _ => by go_simp) hm ?_
        go_simp
        refine anyH_take 1 (v := .slice (some ⟨bm, om, none⟩) ms.length cap) rfl (by kernel_rfl) (by kernel_rfl) (by kernel_rfl) rfl (fun W _ => by go_simp) hm ?_
        go_simp
        refine anyH_take 2 (v := .int .i64 ((64 * j : Nat) : Int)) rfl (by kernel_rfl) (by kernel_rfl) (by kernel_rfl) rfl (fun W _ => by go_simp) hm ?_
        go_simp
        refine anyH_take 3 (v := .slice (some ⟨bm, om, none⟩) ms.length cap) rfl (by kernel_rfl) (by kernel_rfl) (by kernel_rfl) rfl (fun W _ => by go_simp) hm ?_
        go_simp
        refine anyH_take 4 (v := .int .i64 (ms.length : Int)) rfl (by kernel_rfl) (by kernel_rfl) (by kernel_rfl) rfl (fun W _ => by go_simp) hm ?_
        go_simp
        refine anyH_take 5 (v := .int .i64 ((64 * j : Nat) : Int)) rfl (by kernel_rfl) (by kernel_rfl) (by kernel_rfl) rfl (fun W _ => by go_simp) hm ?_
        go_simp
        refine anyH_take 6 (v := .int .i64 (((64 * j : Nat) : Int) + 64)) rfl (by kernel_rfl) (by kernel_rfl) (by kernel_rfl) rfl (fun W _ => by go_simp; exact wrapi _ (by omega) (by omega)) hm ?_
        go_simp
        refine anyH_take 7 (v := .int .i64 (((64 * j : Nat) : Int) + 64)) rfl (by kernel_rfl) (by kernel_rfl) (by kernel_rfl) rfl (fun W _ => by go_simp; omega) hm ?_
        go_simp
        refine anyH_take 8 (v := .slice (some ⟨bm, om + 64 * j, none⟩) 64 (cap - 64 * j)) rfl (by kernel_rfl) (by kernel_rfl) (by kernel_rfl) rfl (fun W _ => exec_slh2 un_bs sz_u8 (64 * j) (om + 64 * j) 64 rfl (by omega) (by omega) rfl rfl rfl rfl (by omega)) hm ?_
        go_simp
        refine anyH_take 9 (v := .slice (some ⟨g11, 0, none⟩) 64 64) rfl (by kernel_rfl) (by kernel_rfl) (by kernel_rfl) rfl (fun W _ => by go_simp) hm ?_
        go_simp
        refine wpAnyH_all (rs := [10]) (by kernel_rfl) (by simp) ?_
        intro i hi
        simp only [List.mem_cons, List.not_mem_nil, or_false] at hi
        subst hi
        refine anyH_op 10 rfl rfl ?_
        intro K hK
        have hpc : SlOld w5 (.slice (some ⟨bm, om + 64 * j, none⟩) 64 (cap - 64 * j)) ((ms.drop (64 * j)).take 64) := by
          have hseg := ((HSM.out.mem hm (by simp)).drop (64 * j)).take 64
          exact ⟨_, _, by rw [HPC.out], by rw [HPC.out]; omega, fun _ => ⟨_, _, rfl, hseg⟩⟩
        have HPO : Hid (SlOld w5 (.slice (some ⟨bm, om + 64 * j, none⟩) 64 (cap - 64 * j)) ((ms.drop (64 * j)).take 64)) := hpc
        clear hpc
        go_wp2_with (go_at_call 37; refine (xorRef1_any ((ms.drop (64 * j)).take 64) B _ _ (by rw [HPC.out]; omega) _ HPO.out (old_all (hm.get 0 rfl) HBL.out (Nat.le_refl _))).mono ?_; rintro e w6 ⟨v34, rfl, hs34, hb⟩; obtain ⟨p34, c34, rfl, _⟩ := hs34.len; have HS34 : Hid (SlOld w6 (.slice p34 (xorZ ((ms.drop (64 * j)).take 64) B).length c34) (xorZ ((ms.drop (64 * j)).take 64) B)) := hs34; have HO6 : Hid (OwnB 5 w6 w.heap.size (.slice po lo co) ((xorOf ks ns c ms).take (64 * j))) := OwnB.below HO.out hb; replace hm := hm.call hb; clear hb hs34 HO)
        refine hK _ _ hm ?_
        clear hK K
        refine wpAnyH_all (rs := [11]) (by kernel_rfl) (by simp) ?_
        intro i hi
        simp only [List.mem_cons, List.not_mem_nil, or_false] at hi
        subst hi
        refine anyH_op 11 rfl rfl ?_
        intro K hK
        refine wpl_app rfl un_bs made_u8 (xorZ ((ms.drop (64 * j)).take 64) B) hm HO6.out HTY.out rfl rfl rfl HS34.out.src0.2.2 HNL.out ?_
        intro v7 w7 ho7 hm7
        rw [HNX.out ()] at ho7
        have HO7 : Hid (OwnB 5 w7 w.heap.size v7 ((xorOf ks ns c ms).take (64 * (j + 1)))) := ho7
        clear hm HO6 ho7
        refine wpList_nil ?_
        refine hK _ _ hm7 ?_
        clear hK K
        refine anyH_take 12 (v := v7) rfl (by kernel_rfl) (by kernel_rfl) (by kernel_rfl) rfl (fun W _ => by go_simp) hm7 ?_
        go_simp
        refine wpAnyH_done (by kernel_rfl) ?_ _
        simp only [endsIn]
        go_wp2_with fail
        go_roundw
        case rel => exact ⟨j + 1, by rw [← HCE.out]; try simp, by omega, by go_num, HO7.out, hm7.tail⟩
        case measure => simp [intOf]; omega
      · have h64i : ¬ ((64 * j : Nat) : Int) + 64 < (ms.length : Int) := by omega
        have HPC : Hid (((ms.drop (64 * j)).take (ms.length - 64 * j)).length = (ms.length - 64 * j)) := by show _ = _; rw [List.length_take, List.length_drop]; omega
        have HNX : Hid (∀ _ : Unit, (xorOf ks ns c ms).take (64 * j) ++ xorZ ((ms.drop (64 * j)).take (ms.length - 64 * j)) B = (xorOf ks ns c ms).take (64 * (j + 1))) := by
          intro _
          rw [← HBE.out ()]
          exact xor_piece ks ns c ms j (ms.length - 64 * j) (by omega) (by omega) (by omega)
        have HNL : Hid (((xorOf ks ns c ms).take (64 * j)).length + (xorZ ((ms.drop (64 * j)).take (ms.length - 64 * j)) B).length ≤ 1099511627776) := by
          show _ ≤ _
          rw [List.length_take, xorOf_length]
          simp [xorZ]
          omega
        refine wp_ends0 ?_
        refine anyH_startO (T := fun W => Mem w [] W [(g11, u8s B, 64), (g5, u8s ns, 30), (g4, u8s ks, 23)]) (by kernel_rfl) hm HO.out ?_
        clear hm HO
        intro w5 hm ho
        have HO : Hid (OwnB 5 w5 w.heap.size (.slice po lo co) ((xorOf ks ns c ms).take (64 * j))) := ho
        clear ho
        refine anyH_take 0 (v := .slice po lo co) rfl (by kernel_rfl) (by kernel_rfl) (by kernel_rfl) rfl (fun W _ => by go_simp) hm ?_
        go_simp
        refine anyH_take 1 (v := .slice (some ⟨bm, om, none⟩) ms.length cap) rfl (by kernel_rfl) (by kernel_rfl) (by kernel_rfl) rfl (fun W _ => by go_simp) hm ?_
        go_simp
        refine anyH_take 2 (v := .int .i64 ((64 * j : Nat) : Int)) rfl (by kernel_rfl) (by kernel_rfl) (by kernel_rfl) rfl (fun W _ => by go_simp) hm ?_
        go_simp
        refine anyH_take 3 (v := .slice (some ⟨bm, om, none⟩) ms.length cap) rfl (by kernel_rfl) (by kernel_rfl) (by kernel_rfl) rfl (fun W _ => by go_simp) hm ?_
        go_simp
        refine anyH_take 4 (v := .int .i64 (ms.length : Int)) rfl (by kernel_rfl) (by kernel_rfl) (by kernel_rfl) rfl (fun W _ => by go_simp) hm ?_
        go_simp
        refine anyH_take 5 (v := .int .i64 ((64 * j : Nat) : Int)) rfl (by kernel_rfl) (by kernel_rfl) (by kernel_rfl) rfl (fun W _ => by go_simp) hm ?_
        go_simp
        refine anyH_take 6 (v := .int .i64 (((64 * j : Nat) : Int) + 64)) rfl (by kernel_rfl) (by kernel_rfl) (by kernel_rfl) rfl (fun W _ => by go_simp; exact wrapi _ (by omega) (by omega)) hm ?_
        go_simp
        refine anyH_take 7 (v := .int .i64 (ms.length : Int)) rfl (by kernel_rfl) (by kernel_rfl) (by kernel_rfl) rfl (fun W _ => by go_simp; omega) hm ?_
        go_simp
        refine anyH_take 8 (v := .slice (some ⟨bm, om + 64 * j, none⟩) (ms.length - 64 * j) (cap - 64 * j)) rfl (by kernel_rfl) (by kernel_rfl) (by kernel_rfl) rfl (fun W _ => exec_slh2 un_bs sz_u8 (64 * j) (om + 64 * j) (ms.length - 64 * j) rfl (by omega) (by omega) rfl rfl rfl rfl (by omega)) hm ?_
        go_simp
        refine anyH_take 9 (v := .slice (some ⟨g11, 0, none⟩) 64 64) rfl (by kernel_rfl) (by kernel_rfl) (by kernel_rfl) rfl (fun W _ => by go_simp) hm ?_
        go_simp
        refine wpAnyH_all (rs := [10]) (by kernel_rfl) (by simp) ?_
        intro i hi
        simp only [List.mem_cons, List.not_mem_nil, or_false] at hi
        subst hi
        refine anyH_op 10 rfl rfl ?_
        intro K hK
        have hpc : SlOld w5 (.slice (some ⟨bm, om + 64 * j, none⟩) (ms.length - 64 * j) (cap - 64 * j)) ((ms.drop (64 * j)).take (ms.length - 64 * j)) := by
          have hseg := ((HSM.out.mem hm (by simp)).drop (64 * j)).take (ms.length - 64 * j)
          exact ⟨_, _, by rw [HPC.out], by rw [HPC.out]; omega, fun _ => ⟨_, _, rfl, hseg⟩⟩
        have HPO : Hid (SlOld w5 (.slice (some ⟨bm, om + 64 * j, none⟩) (ms.length - 64 * j) (cap - 64 * j)) ((ms.drop (64 * j)).take (ms.length - 64 * j))) := hpc
        clear hpc
        go_wp2_with (go_at_call 37; refine (xorRef1_any ((ms.drop (64 * j)).take (ms.length - 64 * j)) B _ _ (by rw [HPC.out]; omega) _ HPO.out (old_all (hm.get 0 rfl) HBL.out (Nat.le_refl _))).mono ?_; rintro e w6 ⟨v34, rfl, hs34, hb⟩; obtain ⟨p34, c34, rfl, _⟩ := hs34.len; have HS34 : Hid (SlOld w6 (.slice p34 (xorZ ((ms.drop (64 * j)).take (ms.length - 64 * j)) B).length c34) (xorZ ((ms.drop (64 * j)).take (ms.length - 64 * j)) B)) := hs34; have HO6 : Hid (OwnB 5 w6 w.heap.size (.slice po lo co) ((xorOf ks ns c ms).take (64 * j))) := OwnB.below HO.out hb; replace hm := hm.call hb; clear hb hs34 HO)
        refine hK _ _ hm ?_
        clear hK K
        refine wpAnyH_all (rs := [11]) (by kernel_rfl) (by simp) ?_
        intro i hi
        simp only [List.mem_cons, List.not_mem_nil, or_false] at hi
        subst hi
        refine anyH_op 11 rfl rfl ?_
        intro K hK
        refine wpl_app rfl un_bs made_u8 (xorZ ((ms.drop (64 * j)).take (ms.length - 64 * j)) B) hm HO6.out HTY.out rfl rfl rfl HS34.out.src0.2.2 HNL.out ?_
        intro v7 w7 ho7 hm7
        rw [HNX.out ()] at ho7
        have HO7 : Hid (OwnB 5 w7 w.heap.size v7 ((xorOf ks ns c ms).take (64 * (j + 1)))) := ho7
        clear hm HO6 ho7
        refine wpList_nil ?_
        refine hK _ _ hm7 ?_
        clear hK K
        refine anyH_take 12 (v := v7) rfl (by kernel_rfl) (by kernel_rfl) (by kernel_rfl) rfl (fun W _ => by go_simp) hm7 ?_
        go_simp
        refine wpAnyH_done (by kernel_rfl) ?_ _
        simp only [endsIn]
        go_wp2_with fail
        go_roundw
        case rel => exact ⟨j + 1, by rw [← HCE.out]; try simp, by omega, by go_num, HO7.out, hm7.tail⟩
        case measure => simp [intOf]; omega
    · have hti : ¬ ((64 * j : Nat) : Int) < (ms.length : Int) := by omega
      have hfull : (xorOf ks ns c ms).take (64 * j) = xorOf ks ns c ms := List.take_of_length_le (by rw [HXL.out]; omega)
      have ho := HO.out
      rw [hfull] at ho
      have HO2 : Hid (OwnB 5 wr w.heap.size u9 (xorOf ks ns c ms)) := ho
      clear HO ho hfull
      go_wp2_with fail
      go_ret
      exact ⟨_, rfl, HO2.out, hm.below⟩
theorem xorRef4_any (ks ns ms : List Int) (c : Int) (v : Value) (hkl : ks.length = 32) (hnl : ns.length = 12) (hkb : Bytes ks) (hnb : Bytes ns) (hc : Word c) (hml : ms.length ≤ 60000) (w : World) (hv : SlOld w v ms) :
    Calls Tryd.prog 25 #[.agg (u8s ks).toArray, .agg (u8s ns).toArray, .int .u32 c, v] w fun e w' => ∃ v', e = .returned v' ∧ SlOld w' v' (xorOf ks ns c ms) ∧ Below w.heap.size w w' :=
  (xorRef4_own ks ns ms c v hkl hnl hkb hnb hc hml w hv).mono fun _ _ ⟨v', he, ho, hb⟩ => ⟨v', he, ho.old, hb⟩
end Go.Proofs.YtbfccepddfinoaaDoor
