/- The reference's Put, Text, Get, GetText. -/
import Derived.Test.YtnahflppggoplaaNdFrame
import Derived.Test.YtnahflppggoplaaApp3
namespace Go.Proofs.Ytnahflppggoplaa
open Go Go.RowKit
set_option maxRecDepth 100000 in
theorem grown_below {w w1 w2 : World} {r : Option Nat} (h : w.grownBy w1 r) (hb : Below w1.heap.size w1 w2) : w.grownBy w2 r :=
  h.andThen (grown_of_below hb) (fun j hj => by cases hj)
set_option maxRecDepth 100000 in
theorem be4_shift (n : Int) : be4 n = [n / 16777216 % 256, n / 65536 % 256, n / 256 % 256, n % 256] := by
  unfold be4
  rw [show n / 256 / 256 / 256 = n / 16777216 by omega, show n / 256 / 256 = n / 65536 by omega]
set_option maxRecDepth 100000 in
theorem be2_shift (n : Int) : be2 n = [n / 256 % 256, n % 256] := rfl
set_option maxHeartbeats 1000000 in
set_option maxRecDepth 100000 in
theorem putR2_any (v : Value) (zs : List Int) (x : Int) (hx : 0 ≤ x ∧ x < 65536) (base : Nat) (w : World) (hown : OwnB 5 w base v zs) (hbase : base ≤ w.heap.size) (hlen : zs.length ≤ 1000000) :
    Calls Try.prog 36 #[v, .int .u64 x, .int .i64 2] w fun e w' => ∃ v', e = .returned v' ∧ OwnB 5 w' base v' (zs ++ be2 x) ∧ w.grownBy w' v.ownBlock ∧ Later w v v' := by
  obtain ⟨hx0, hx1⟩ := hx
  have HC0 : Hid (OwnB 5 w base v zs) := hown
  have HG0 : Hid (w.grownBy w v.ownBlock) := World.grownBy.refl _ _
  have HL0 : Hid (Later w v v) := Later.refl _ _
  have HB0 : Hid (base ≤ w.heap.size) := hbase
  clear hown hbase
  go_enter Try.func36, Try.ntmps36
  go_wp2_with fail
  refine wp_loop_rounds 3 ?_
  rw [rounds_succ]
  go_wp2_with (first
    | ((with_reducible refine at_op (some 25) (.buildSlice 22 1 #[(0, .tmp 24)]) ?_); go_must (refine wpl_bsl1 rfl (.int .u8 0) (.int .u8 (x / 256)) un_bs info_u8 rfl rfl rfl (Mem.start w) ?_); intro a0 g0 hb0 hm0; have HCa0 : Hid (OwnB 5 a0 base v zs) := OwnB.below HC0.out hb0; have HGa0 : Hid (w.grownBy a0 v.ownBlock) := grown_below HG0.out hb0; have HSa0 : Hid (Seg a0 g0 0 [x / 256]) := Seg.row (l := [x / 256]) (hm0.get 0 rfl); have HBa0 : Hid (base ≤ a0.heap.size) := Nat.le_trans HB0.out hb0.size; clear hb0 hm0)
    | ((with_reducible refine at_op (some 26) (.call { callee := .builtin .append, args := #[.tmp 18, .tmp 25], argTypes := #[22, 22] }) ?_); go_must (refine wpl_appG rfl un_bs made_u8 [x / 256] HCa0.out HBa0.out rfl rfl rfl HSa0.out (by simp; omega) ?_); intro v1 b1 hc hg hl; have HC1 : Hid (OwnB 5 b1 base v1 (zs ++ [x / 256])) := hc; have HG1 : Hid (w.grownBy b1 v.ownBlock) := grown_then HGa0.out HL0.out hg; have HL1 : Hid (Later w v v1) := Later.step HL0.out HGa0.out.size hl; have HB1 : Hid (base ≤ b1.heap.size) := Nat.le_trans HBa0.out hg.size; clear hc hg hl HCa0 HGa0 HSa0 HBa0))
  rw [rounds_succ]
  go_wp2_with (first
    | ((with_reducible refine at_op (some 25) (.buildSlice 22 1 #[(0, .tmp 24)]) ?_); go_must (refine wpl_bsl1 rfl (.int .u8 0) (.int .u8 (x % 256)) un_bs info_u8 rfl rfl rfl (Mem.start b1) ?_); intro a1 g1 hb1 hm1; have HCa1 : Hid (OwnB 5 a1 base v1 (zs ++ [x / 256])) := OwnB.below HC1.out hb1; have HGa1 : Hid (w.grownBy a1 v.ownBlock) := grown_below HG1.out hb1; have HSa1 : Hid (Seg a1 g1 0 [x % 256]) := Seg.row (l := [x % 256]) (hm1.get 0 rfl); have HBa1 : Hid (base ≤ a1.heap.size) := Nat.le_trans HB1.out hb1.size; clear hb1 hm1)
    | ((with_reducible refine at_op (some 26) (.call { callee := .builtin .append, args := #[.tmp 18, .tmp 25], argTypes := #[22, 22] }) ?_); go_must (refine wpl_appG rfl un_bs made_u8 [x % 256] HCa1.out HBa1.out rfl rfl rfl HSa1.out (by simp; omega) ?_); intro v2 b2 hc hg hl; have HC2 : Hid (OwnB 5 b2 base v2 ((zs ++ [x / 256]) ++ [x % 256])) := hc; have HG2 : Hid (w.grownBy b2 v.ownBlock) := grown_then HGa1.out HL1.out hg; have HL2 : Hid (Later w v v2) := Later.step HL1.out HGa1.out.size hl; have HB2 : Hid (base ≤ b2.heap.size) := Nat.le_trans HBa1.out hg.size; clear hc hg hl HCa1 HGa1 HSa1 HBa1))
  rw [rounds_succ]
  go_wp2_with fail
  go_ret
  refine ⟨_, rfl, ?_, HG2.out, HL2.out⟩
  have h := HC2.out
  rw [be2_shift, show x / 256 % 256 = x / 256 by omega]
  simpa using h
set_option maxHeartbeats 1000000 in
set_option maxRecDepth 100000 in
theorem putR4_any (v : Value) (zs : List Int) (x : Int) (hx : 0 ≤ x ∧ x < 4294967296) (base : Nat) (w : World) (hown : OwnB 5 w base v zs) (hbase : base ≤ w.heap.size) (hlen : zs.length ≤ 1000000) :
    Calls Try.prog 36 #[v, .int .u64 x, .int .i64 4] w fun e w' => ∃ v', e = .returned v' ∧ OwnB 5 w' base v' (zs ++ be4 x) ∧ w.grownBy w' v.ownBlock ∧ Later w v v' := by
  obtain ⟨hx0, hx1⟩ := hx
  have HC0 : Hid (OwnB 5 w base v zs) := hown
  have HG0 : Hid (w.grownBy w v.ownBlock) := World.grownBy.refl _ _
  have HL0 : Hid (Later w v v) := Later.refl _ _
  have HB0 : Hid (base ≤ w.heap.size) := hbase
  clear hown hbase
  go_enter Try.func36, Try.ntmps36
  go_wp2_with fail
  refine wp_loop_rounds 5 ?_
  rw [rounds_succ]
  go_wp2_with (first
    | ((with_reducible refine at_op (some 25) (.buildSlice 22 1 #[(0, .tmp 24)]) ?_); go_must (refine wpl_bsl1 rfl (.int .u8 0) (.int .u8 (x / 16777216)) un_bs info_u8 rfl rfl rfl (Mem.start w) ?_); intro a0 g0 hb0 hm0; have HCa0 : Hid (OwnB 5 a0 base v zs) := OwnB.below HC0.out hb0; have HGa0 : Hid (w.grownBy a0 v.ownBlock) := grown_below HG0.out hb0; have HSa0 : Hid (Seg a0 g0 0 [x / 16777216]) := Seg.row (l := [x / 16777216]) (hm0.get 0 rfl); have HBa0 : Hid (base ≤ a0.heap.size) := Nat.le_trans HB0.out hb0.size; clear hb0 hm0)
    | ((with_reducible refine at_op (some 26) (.call { callee := .builtin .append, args := #[.tmp 18, .tmp 25], argTypes := #[22, 22] }) ?_); go_must (refine wpl_appG rfl un_bs made_u8 [x / 16777216] HCa0.out HBa0.out rfl rfl rfl HSa0.out (by simp; omega) ?_); intro v1 b1 hc hg hl; have HC1 : Hid (OwnB 5 b1 base v1 (zs ++ [x / 16777216])) := hc; have HG1 : Hid (w.grownBy b1 v.ownBlock) := grown_then HGa0.out HL0.out hg; have HL1 : Hid (Later w v v1) := Later.step HL0.out HGa0.out.size hl; have HB1 : Hid (base ≤ b1.heap.size) := Nat.le_trans HBa0.out hg.size; clear hc hg hl HCa0 HGa0 HSa0 HBa0))
  rw [rounds_succ]
  go_wp2_with (first
    | ((with_reducible refine at_op (some 25) (.buildSlice 22 1 #[(0, .tmp 24)]) ?_); go_must (refine wpl_bsl1 rfl (.int .u8 0) (.int .u8 (x / 65536 % 256)) un_bs info_u8 rfl rfl rfl (Mem.start b1) ?_); intro a1 g1 hb1 hm1; have HCa1 : Hid (OwnB 5 a1 base v1 (zs ++ [x / 16777216])) := OwnB.below HC1.out hb1; have HGa1 : Hid (w.grownBy a1 v.ownBlock) := grown_below HG1.out hb1; have HSa1 : Hid (Seg a1 g1 0 [x / 65536 % 256]) := Seg.row (l := [x / 65536 % 256]) (hm1.get 0 rfl); have HBa1 : Hid (base ≤ a1.heap.size) := Nat.le_trans HB1.out hb1.size; clear hb1 hm1)
    | ((with_reducible refine at_op (some 26) (.call { callee := .builtin .append, args := #[.tmp 18, .tmp 25], argTypes := #[22, 22] }) ?_); go_must (refine wpl_appG rfl un_bs made_u8 [x / 65536 % 256] HCa1.out HBa1.out rfl rfl rfl HSa1.out (by simp; omega) ?_); intro v2 b2 hc hg hl; have HC2 : Hid (OwnB 5 b2 base v2 ((zs ++ [x / 16777216]) ++ [x / 65536 % 256])) := hc; have HG2 : Hid (w.grownBy b2 v.ownBlock) := grown_then HGa1.out HL1.out hg; have HL2 : Hid (Later w v v2) := Later.step HL1.out HGa1.out.size hl; have HB2 : Hid (base ≤ b2.heap.size) := Nat.le_trans HBa1.out hg.size; clear hc hg hl HCa1 HGa1 HSa1 HBa1))
  rw [rounds_succ]
  go_wp2_with (first
    | ((with_reducible refine at_op (some 25) (.buildSlice 22 1 #[(0, .tmp 24)]) ?_); go_must (refine wpl_bsl1 rfl (.int .u8 0) (.int .u8 (x / 256 % 256)) un_bs info_u8 rfl rfl rfl (Mem.start b2) ?_); intro a2 g2 hb2 hm2; have HCa2 : Hid (OwnB 5 a2 base v2 ((zs ++ [x / 16777216]) ++ [x / 65536 % 256])) := OwnB.below HC2.out hb2; have HGa2 : Hid (w.grownBy a2 v.ownBlock) := grown_below HG2.out hb2; have HSa2 : Hid (Seg a2 g2 0 [x / 256 % 256]) := Seg.row (l := [x / 256 % 256]) (hm2.get 0 rfl); have HBa2 : Hid (base ≤ a2.heap.size) := Nat.le_trans HB2.out hb2.size; clear hb2 hm2)
    | ((with_reducible refine at_op (some 26) (.call { callee := .builtin .append, args := #[.tmp 18, .tmp 25], argTypes := #[22, 22] }) ?_); go_must (refine wpl_appG rfl un_bs made_u8 [x / 256 % 256] HCa2.out HBa2.out rfl rfl rfl HSa2.out (by simp; omega) ?_); intro v3 b3 hc hg hl; have HC3 : Hid (OwnB 5 b3 base v3 (((zs ++ [x / 16777216]) ++ [x / 65536 % 256]) ++ [x / 256 % 256])) := hc; have HG3 : Hid (w.grownBy b3 v.ownBlock) := grown_then HGa2.out HL2.out hg; have HL3 : Hid (Later w v v3) := Later.step HL2.out HGa2.out.size hl; have HB3 : Hid (base ≤ b3.heap.size) := Nat.le_trans HBa2.out hg.size; clear hc hg hl HCa2 HGa2 HSa2 HBa2))
  rw [rounds_succ]
  go_wp2_with (first
    | ((with_reducible refine at_op (some 25) (.buildSlice 22 1 #[(0, .tmp 24)]) ?_); go_must (refine wpl_bsl1 rfl (.int .u8 0) (.int .u8 (x % 256)) un_bs info_u8 rfl rfl rfl (Mem.start b3) ?_); intro a3 g3 hb3 hm3; have HCa3 : Hid (OwnB 5 a3 base v3 (((zs ++ [x / 16777216]) ++ [x / 65536 % 256]) ++ [x / 256 % 256])) := OwnB.below HC3.out hb3; have HGa3 : Hid (w.grownBy a3 v.ownBlock) := grown_below HG3.out hb3; have HSa3 : Hid (Seg a3 g3 0 [x % 256]) := Seg.row (l := [x % 256]) (hm3.get 0 rfl); have HBa3 : Hid (base ≤ a3.heap.size) := Nat.le_trans HB3.out hb3.size; clear hb3 hm3)
    | ((with_reducible refine at_op (some 26) (.call { callee := .builtin .append, args := #[.tmp 18, .tmp 25], argTypes := #[22, 22] }) ?_); go_must (refine wpl_appG rfl un_bs made_u8 [x % 256] HCa3.out HBa3.out rfl rfl rfl HSa3.out (by simp; omega) ?_); intro v4 b4 hc hg hl; have HC4 : Hid (OwnB 5 b4 base v4 ((((zs ++ [x / 16777216]) ++ [x / 65536 % 256]) ++ [x / 256 % 256]) ++ [x % 256])) := hc; have HG4 : Hid (w.grownBy b4 v.ownBlock) := grown_then HGa3.out HL3.out hg; have HL4 : Hid (Later w v v4) := Later.step HL3.out HGa3.out.size hl; have HB4 : Hid (base ≤ b4.heap.size) := Nat.le_trans HBa3.out hg.size; clear hc hg hl HCa3 HGa3 HSa3 HBa3))
  rw [rounds_succ]
  go_wp2_with fail
  go_ret
  refine ⟨_, rfl, ?_, HG4.out, HL4.out⟩
  have h := HC4.out
  rw [be4_shift, show x / 16777216 % 256 = x / 16777216 by omega]
  simpa using h
section
variable {P : Program} {ops : Array Oper} {rest : List Oper} {a : Act} {w : World} {Q : Exit → Act → World → Prop} {dst : Option Tmp} {typ : TypeId} {pos : String} {aft : Array Edge} {gd : Option (Nat × Bool)}
set_option maxRecDepth 100000 in
theorem wpl_appSG {s x : Operand} {t u e : TypeId} (hw : Region.wanted { dst := dst, op := .call { callee := .builtin .append, args := #[s, x], argTypes := #[t, u] }, type := typ, pos := pos, after := aft, guard := gd } (yielded ops a.tmps) = true)
    (ht : P.underlying t = some (.slice e)) (hu : P.underlying u = some .string) (hi : (P.info? e).map (fun i => (i.zero, i.size, i.bytes)) = some (some (.int .u8 0), 1, 1)) {v : Value} {zs : List Int} {base : Nat} (str : ByteArray) (hown : OwnB e w base v zs) (hbase : base ≤ w.heap.size)
    (hs : a.eval s = v) (hx : a.eval x = .string str) (hlen : zs.length + str.size ≤ 1099511627776)
    (h : ∀ v' w', OwnB e w' base v' (zs ++ strB str) → w.grownBy w' v.ownBlock → wpList P ops Q rest (a.put dst v') w') :
    wpList P ops Q ({ dst := dst, op := .call { callee := .builtin .append, args := #[s, x], argTypes := #[t, u] }, type := typ, pos := pos, after := aft, guard := gd } :: rest) a w := by
  have hstr : Lib.strCells str = u8s (strB str) := by
    have h1 := byteCells_strB str
    rw [← h1]
    rfl
  cases hq : P.info? e with
  | none => simp [hq] at hi
  | some i =>
    simp only [hq, Option.map_some, Option.some.injEq, Prod.mk.injEq] at hi
    obtain ⟨hz, h1, h2⟩ := hi
    obtain ⟨v', w', hr, ho, hg, _⟩ := Lib.run_append_own_string (P := P) w base t u typ e i ht hu hq hz h1 h2 v zs.length (u8s zs) hown str (by unfold maxLen; omega) (by omega) hbase
    refine wpList_step fun K hK => ?_
    rw [if_pos hw]
    have ho2 : OwnB e w' base v' (zs ++ strB str) := by
      unfold OwnB
      rw [List.length_append, strB_length, show u8s (zs ++ strB str) = u8s zs ++ u8s (strB str) by simp [u8s], ← hstr]
      exact ho
    have hh := hK _ _ (h v' w' ho2 hg)
    unfold Oper.wp execOp
    simp only [resolve, invoke, builtin, Sem.run_bind, Sem.run_pure, Result.andThen_ok, List.map_toArray, List.map_cons, List.map_nil, hs, hx, hr]
    exact hh
end
set_option maxHeartbeats 1000000 in
set_option maxRecDepth 100000 in
theorem textR_any (v : Value) (zs : List Int) (s : ByteArray) (hs : s.size ≤ 300) (base : Nat) (w : World) (hown : OwnB 5 w base v zs) (hbase : base ≤ w.heap.size) (hlen : zs.length ≤ 900000) :
    Calls Try.prog 37 #[v, .string s] w fun e w' => ∃ v', e = .returned v' ∧ OwnB 5 w' base v' (zs ++ textB s) ∧ w.grownBy w' v.ownBlock := by
  have HC : Hid (OwnB 5 w base v zs) := hown
  have HB : Hid (base ≤ w.heap.size) := hbase
  have hsi : ¬ ((s.size : Int) > 65535) := by omega
  have HW : IntKind.u64.wrap (s.size : Int) = (s.size : Int) := wrapU_of s.size (by omega)
  have HX : Hid (0 ≤ (s.size : Int) ∧ (s.size : Int) < 65536) := by show _ ∧ _; omega
  have HTL : Hid (zs.length + 2 + s.size ≤ 1099511627776) := by show _ ≤ _; omega
  clear hown hbase
  go_enter Try.func37, Try.ntmps37
  go_wp2_with (first
    | (go_at_call 36; refine (putR2_any _ zs (s.size : Int) HX.out base _ HC.out HB.out (by omega)).mono ?_; rintro e w1 ⟨v1, rfl, ho, hg, hl⟩; have HO1 : Hid (OwnB 5 w1 base v1 (zs ++ be2 (s.size : Int))) := ho; have HG1 : Hid (w.grownBy w1 v.ownBlock) := hg; have HL1 : Hid (Later w v v1) := hl; clear ho hg hl)
    | ((with_reducible refine at_op (some 16) (.call { callee := .builtin .append, args := #[.tmp 14, .tmp 15], argTypes := #[22, 9] }) ?_); go_must (refine wpl_appSG rfl un_bs un_strT made_u8 s HO1.out (Nat.le_trans HB.out HG1.out.size) rfl rfl (by simp [be2_length]; exact HTL.out) ?_); intro v2 w2 ho hg; have HO2 : Hid (OwnB 5 w2 base v2 (zs ++ be2 (s.size : Int) ++ strB s)) := ho; have HG2 : Hid (w.grownBy w2 v.ownBlock) := grown_then HG1.out HL1.out hg; clear ho hg))
  go_ret
  refine ⟨_, rfl, ?_, HG2.out⟩
  have h9 := HO2.out
  rw [List.append_assoc] at h9
  exact h9
set_option maxRecDepth 100000 in
theorem SlR.lo {B : Nat} {w : World} {p : Option Addr} {n cap : Nat} {cs : List Int} (h : SlR B w (.slice p n cap) cs) (l : Nat) (hl : l ≤ n) : SlR B w (.slice (cutLo p cap l) (n - l) (cap - l)) (cs.drop l) := by
  obtain ⟨q, c, hv, hc, hs⟩ := h
  simp only [Value.slice.injEq] at hv
  obtain ⟨rfl, hn, rfl⟩ := hv
  have hd : (cs.drop l).length = n - l := by rw [List.length_drop, hn]
  refine ⟨_, cap - l, by rw [hd], by rw [hd]; omega, fun h0 => ?_⟩
  rw [hd] at h0
  have hne : ¬ cap = l := by omega
  have hpos : 0 < cs.length := by omega
  obtain ⟨b, off, rfl, hseg, hr⟩ := hs hpos
  refine ⟨b, off + l, ?_, hseg.drop l, hr⟩
  rw [cutLo, if_neg hne]
  simp [add_at]
section
variable {P : Program} {a : Act} {w : World} {dst : Option Tmp} {typ : TypeId} {pos : String} {aft : Array Edge} {gd : Option (Nat × Bool)}
set_option maxRecDepth 100000 in
theorem exec_sHiU {ty : TypeId} {x hi : Operand} {elem : TypeId} (hu : P.underlying ty = some (.slice elem)) (hs : (P.info? elem).map (·.size) = some 1) {p : Option Addr} {len cap : Nat} (m : Nat) {ih : Int} (hm : m ≤ cap) (hx : a.eval x = .slice p len cap) (hhi : a.eval hi = .int .u64 ih) (hih : ih = (m : Int)) :
    (execOp a.eval { dst := dst, op := .slice ty x none (some hi) none, type := typ, pos := pos, after := aft, guard := gd }).run P w = .ok (.value (.slice (cutHi p cap) m cap)) w := by
  subst hih
  cases hq : P.info? elem with
  | none => simp [hq] at hs
  | some q =>
    have hs1 : q.size = 1 := by simpa [hq] using hs
    have hsz : (sizeOf elem).run P w = .ok 1 w := by simp [sizeOf, typeInfo, hq, hs1]
    have bnd : ∀ code, (Instr.sliceBound (.int .u64 (m : Int)) cap code).run P w = .ok m w := by
      intro code
      rw [run_sliceBound (P := P) w .u64 (m : Int) cap code (by omega) (by omega)]
      simp
    have hb : (Instr.sliceBounds true len cap none (some (.int .u64 (m : Int))) none).run P w = .ok (0, m, cap) w := by
      simp [Instr.sliceBounds, bnd]
    have hr : (Instr.sliceAt ty (.slice p len cap) none (some (.int .u64 (m : Int))) none).run P w = .ok (.slice (cutHi p cap) m cap) w := by
      simp [Instr.sliceAt, Instr.slice, run_underlying hu, hb, hsz, cutHi]
    unfold execOp
    simp only [hx, hhi, Option.map_some, Option.map_none, hr, Sem.run_bind, Sem.run_pure, Result.andThen_ok]
set_option maxRecDepth 100000 in
theorem exec_sLoU {ty : TypeId} {x lo : Operand} {elem : TypeId} (hu : P.underlying ty = some (.slice elem)) (hs : (P.info? elem).map (·.size) = some 1) {p : Option Addr} {len cap : Nat} (l : Nat) {il : Int} (hl : l ≤ len) (hx : a.eval x = .slice p len cap) (hlo : a.eval lo = .int .u64 il) (hil : il = (l : Int)) :
    (execOp a.eval { dst := dst, op := .slice ty x (some lo) none none, type := typ, pos := pos, after := aft, guard := gd }).run P w = .ok (.value (.slice (cutLo p cap l) (len - l) (cap - l))) w := by
  subst hil
  cases hq : P.info? elem with
  | none => simp [hq] at hs
  | some q =>
    have hs1 : q.size = 1 := by simpa [hq] using hs
    have hsz : (sizeOf elem).run P w = .ok 1 w := by simp [sizeOf, typeInfo, hq, hs1]
    have hb : (Instr.sliceBounds true len cap (some (.int .u64 (l : Int))) none none).run P w = .ok (l, len, cap) w := by
      have := run_sliceBound (P := P) w .u64 (l : Int) len .sliceB (by omega) (by omega)
      simp [Instr.sliceBounds, this]
    have hr : (Instr.sliceAt ty (.slice p len cap) (some (.int .u64 (l : Int))) none none).run P w = .ok (.slice (cutLo p cap l) (len - l) (cap - l)) w := by
      simp [Instr.sliceAt, Instr.slice, run_underlying hu, hb, hsz, cutLo]
    unfold execOp
    simp only [hx, hlo, Option.map_some, Option.map_none, hr, Sem.run_bind, Sem.run_pure, Result.andThen_ok]
end
set_option maxRecDepth 100000 in
theorem SlR.len {B : Nat} {w : World} {v : Value} {cs : List Int} (h : SlR B w v cs) : ∃ p cap, v = .slice p cs.length cap ∧ cs.length ≤ cap := SlOld.len h.old
set_option maxHeartbeats 1000000 in
set_option maxRecDepth 100000 in
theorem getR2_short (p : Option Addr) (N cap : Nat) (h : N < 2) (w : World) :
    Calls Try.prog 19 #[.slice p N cap, .int .i64 2] w fun e w' => e = .returned (.tuple #[.int .u64 0, .slice p N cap, .bool false]) ∧ w' = w := by
  have hi : (N : Int) < 2 := by omega
  go_enter Try.func19, Try.ntmps19
  go_wp2_with fail
  go_ret3
  exact ⟨rfl, rfl⟩
set_option maxHeartbeats 1000000 in
set_option maxRecDepth 100000 in
theorem getR2_good (cs : List Int) (p : Option Addr) (N cap : Nat) (hN : cs.length = N) (h : 2 ≤ N) (hcb : Bytes cs) (w : World) (hv : SlOld w (.slice p N cap) cs) :
    Calls Try.prog 19 #[.slice p N cap, .int .i64 2] w fun e w' => e = .returned (.tuple #[.int .u64 (numL (cs.take 2)), .slice (cutLo p cap 2) (N - 2) (cap - 2), .bool true]) ∧ Below w.heap.size w w' := by
  have hi : ¬ (N : Int) < 2 := by omega
  obtain ⟨hNN, hcap, hs⟩ := hv.src0
  obtain ⟨b, off, rfl, hseg⟩ := hs (by omega)
  have HB : Hid (Bytes cs) := hcb
  have HSG : Hid (Seg w b off cs) := hseg
  have HN : Hid (cs.length = N) := hN
  clear hs hcb hseg hv hNN hN
  go_enter Try.func19, Try.ntmps19
  go_wp2_with fail
  go_loopw [8, 9] (fun vx vi wr => ∃ k : Nat, k ≤ 2 ∧ vx = .int .u64 (numL (cs.take k)) ∧ vi = .int .i64 (k : Int) ∧ wr = w) (fun _ vi _ => 2 - (intOf vi).toNat)
  case atStart => exact ⟨0, by omega, rfl, rfl, rfl⟩
  case round =>
    obtain ⟨k, hk, rfl, rfl, rfl⟩ := hrel
    by_cases hlt : k < 2
    · have hki : (k : Int) < 2 := by omega
      have hkn : (k : Int) < (N : Int) := by omega
      have hlc : k < cs.length := by rw [HN.out]; omega
      have hc := HSG.out k hlc
      have hb1 := Bytes.get HB.out k
      have hb2 : Bytes (cs.take k) := Bytes.take HB.out k
      have h1 := numL_nonneg hb2
      have h2 := numL_lt hb2
      have h3 : (256 : Int) ^ (cs.take k).length ≤ 256 ^ 7 := by
        rw [List.length_take, Nat.min_eq_left (by omega)]
        exact (show ∀ k : Nat, k < 8 → (256 : Int) ^ k ≤ 256 ^ 7 by decide) k (by omega)
      have h4 : numL (cs.take k) < 72057594037927936 := by
        have : (256 : Int) ^ 7 = 72057594037927936 := by decide
        omega
      have HNX : Hid (numL (cs.take (k + 1)) = Go.bits .or .u64 (numL (cs.take k) * 256) (cs.getD k 0)) := by
        show _ = _
        rw [take_next cs k hlc, or_next ⟨h1, h4⟩ hb1]
      obtain ⟨x, hx⟩ : ∃ x, x = numL (cs.take k) := ⟨_, rfl⟩
      obtain ⟨c, hcc⟩ : ∃ c, c = cs.getD k 0 := ⟨_, rfl⟩
      rw [← hx] at h1 h4 HNX ⊢
      rw [← hcc] at hc hb1 HNX
      obtain ⟨hb10, hb11⟩ := hb1
      clear h2 h3 hx hcc hb2
      go_wp2_with fail
      go_roundw
      case rel => exact ⟨k + 1, by omega, by rw [HNX.out], by go_num, trivial⟩
      case measure => simp [RowKit.intOf]; omega
    · have hkn : k = 2 := by omega
      subst hkn
      obtain ⟨X, hX⟩ : ∃ X, X = numL (cs.take 2) := ⟨_, rfl⟩
      have HX : Hid (∀ _ : Unit, numL (cs.take 2) = X) := fun _ => hX.symm
      rw [← hX]
      clear hX
      have hm := Mem.start wr
      have hni : ¬ ((2 : Nat) : Int) < 2 := by omega
      go_wp2_with fail
      refine wp_ends0 ?_
      refine anyH_start (T := fun W => Mem wr [] W []) (by kernel_rfl) hm ?_
      clear hm
      intro wz hm
      refine anyH_take 0 (v := .int .u64 X) rfl (by kernel_rfl) (by kernel_rfl) (by kernel_rfl) rfl (fun W _ => by go_simp) hm ?_
      go_simp
      refine anyH_take 1 (v := .slice (some ⟨b, off, none⟩) N cap) rfl (by kernel_rfl) (by kernel_rfl) (by kernel_rfl) rfl (fun W _ => by go_simp) hm ?_
      go_simp
      refine anyH_take 2 (v := .int .i64 2) rfl (by kernel_rfl) (by kernel_rfl) (by kernel_rfl) rfl (fun W _ => by go_simp) hm ?_
      go_simp
      refine anyH_take 3 (v := .slice (cutLo (some ⟨b, off, none⟩) cap 2) (N - 2) (cap - 2)) rfl (by kernel_rfl) (by kernel_rfl) (by kernel_rfl) rfl (fun W _ => exec_sLo un_bs sz_u8 2 h rfl rfl rfl) hm ?_
      go_simp
      refine anyH_take 4 (v := .int .u64 X) rfl (by kernel_rfl) (by kernel_rfl) (by kernel_rfl) rfl (fun W _ => by go_simp) hm ?_
      go_simp
      refine anyH_take 5 (v := .slice (cutLo (some ⟨b, off, none⟩) cap 2) (N - 2) (cap - 2)) rfl (by kernel_rfl) (by kernel_rfl) (by kernel_rfl) rfl (fun W _ => by go_simp) hm ?_
      go_simp
      refine anyH_take 6 (v := .bool true) rfl (by kernel_rfl) (by kernel_rfl) (by kernel_rfl) rfl (fun W _ => by go_simp) hm ?_
      go_simp
      refine wpAnyH_done (by kernel_rfl) ?_ _
      simp only [endsIn]
      go_wp2_with fail
      go_ret3
      exact ⟨by rw [HX.out ()]; rfl, hm.below⟩
set_option maxHeartbeats 1000000 in
set_option maxRecDepth 100000 in
theorem getR4_short (p : Option Addr) (N cap : Nat) (h : N < 4) (w : World) :
    Calls Try.prog 19 #[.slice p N cap, .int .i64 4] w fun e w' => e = .returned (.tuple #[.int .u64 0, .slice p N cap, .bool false]) ∧ w' = w := by
  have hi : (N : Int) < 4 := by omega
  go_enter Try.func19, Try.ntmps19
  go_wp2_with fail
  go_ret3
  exact ⟨rfl, rfl⟩
set_option maxHeartbeats 1000000 in
set_option maxRecDepth 100000 in
theorem getR4_good (cs : List Int) (p : Option Addr) (N cap : Nat) (hN : cs.length = N) (h : 4 ≤ N) (hcb : Bytes cs) (w : World) (hv : SlOld w (.slice p N cap) cs) :
    Calls Try.prog 19 #[.slice p N cap, .int .i64 4] w fun e w' => e = .returned (.tuple #[.int .u64 (numL (cs.take 4)), .slice (cutLo p cap 4) (N - 4) (cap - 4), .bool true]) ∧ Below w.heap.size w w' := by
  have hi : ¬ (N : Int) < 4 := by omega
  obtain ⟨hNN, hcap, hs⟩ := hv.src0
  obtain ⟨b, off, rfl, hseg⟩ := hs (by omega)
  have HB : Hid (Bytes cs) := hcb
  have HSG : Hid (Seg w b off cs) := hseg
  have HN : Hid (cs.length = N) := hN
  clear hs hcb hseg hv hNN hN
  go_enter Try.func19, Try.ntmps19
  go_wp2_with fail
  go_loopw [8, 9] (fun vx vi wr => ∃ k : Nat, k ≤ 4 ∧ vx = .int .u64 (numL (cs.take k)) ∧ vi = .int .i64 (k : Int) ∧ wr = w) (fun _ vi _ => 4 - (intOf vi).toNat)
  case atStart => exact ⟨0, by omega, rfl, rfl, rfl⟩
  case round =>
    obtain ⟨k, hk, rfl, rfl, rfl⟩ := hrel
    by_cases hlt : k < 4
    · have hki : (k : Int) < 4 := by omega
      have hkn : (k : Int) < (N : Int) := by omega
      have hlc : k < cs.length := by rw [HN.out]; omega
      have hc := HSG.out k hlc
      have hb1 := Bytes.get HB.out k
      have hb2 : Bytes (cs.take k) := Bytes.take HB.out k
      have h1 := numL_nonneg hb2
      have h2 := numL_lt hb2
      have h3 : (256 : Int) ^ (cs.take k).length ≤ 256 ^ 7 := by
        rw [List.length_take, Nat.min_eq_left (by omega)]
        exact (show ∀ k : Nat, k < 8 → (256 : Int) ^ k ≤ 256 ^ 7 by decide) k (by omega)
      have h4 : numL (cs.take k) < 72057594037927936 := by
        have : (256 : Int) ^ 7 = 72057594037927936 := by decide
        omega
      have HNX : Hid (numL (cs.take (k + 1)) = Go.bits .or .u64 (numL (cs.take k) * 256) (cs.getD k 0)) := by
        show _ = _
        rw [take_next cs k hlc, or_next ⟨h1, h4⟩ hb1]
      obtain ⟨x, hx⟩ : ∃ x, x = numL (cs.take k) := ⟨_, rfl⟩
      obtain ⟨c, hcc⟩ : ∃ c, c = cs.getD k 0 := ⟨_, rfl⟩
      rw [← hx] at h1 h4 HNX ⊢
      rw [← hcc] at hc hb1 HNX
      obtain ⟨hb10, hb11⟩ := hb1
      clear h2 h3 hx hcc hb2
      go_wp2_with fail
      go_roundw
      case rel => exact ⟨k + 1, by omega, by rw [HNX.out], by go_num, trivial⟩
      case measure => simp [RowKit.intOf]; omega
    · have hkn : k = 4 := by omega
      subst hkn
      obtain ⟨X, hX⟩ : ∃ X, X = numL (cs.take 4) := ⟨_, rfl⟩
      have HX : Hid (∀ _ : Unit, numL (cs.take 4) = X) := fun _ => hX.symm
      rw [← hX]
      clear hX
      have hm := Mem.start wr
      have hni : ¬ ((4 : Nat) : Int) < 4 := by omega
      go_wp2_with fail
      refine wp_ends0 ?_
      refine anyH_start (T := fun W => Mem wr [] W []) (by kernel_rfl) hm ?_
      clear hm
      intro wz hm
      refine anyH_take 0 (v := .int .u64 X) rfl (by kernel_rfl) (by kernel_rfl) (by kernel_rfl) rfl (fun W _ => by go_simp) hm ?_
      go_simp
      refine anyH_take 1 (v := .slice (some ⟨b, off, none⟩) N cap) rfl (by kernel_rfl) (by kernel_rfl) (by kernel_rfl) rfl (fun W _ => by go_simp) hm ?_
      go_simp
      refine anyH_take 2 (v := .int .i64 4) rfl (by kernel_rfl) (by kernel_rfl) (by kernel_rfl) rfl (fun W _ => by go_simp) hm ?_
      go_simp
      refine anyH_take 3 (v := .slice (cutLo (some ⟨b, off, none⟩) cap 4) (N - 4) (cap - 4)) rfl (by kernel_rfl) (by kernel_rfl) (by kernel_rfl) rfl (fun W _ => exec_sLo un_bs sz_u8 4 h rfl rfl rfl) hm ?_
      go_simp
      refine anyH_take 4 (v := .int .u64 X) rfl (by kernel_rfl) (by kernel_rfl) (by kernel_rfl) rfl (fun W _ => by go_simp) hm ?_
      go_simp
      refine anyH_take 5 (v := .slice (cutLo (some ⟨b, off, none⟩) cap 4) (N - 4) (cap - 4)) rfl (by kernel_rfl) (by kernel_rfl) (by kernel_rfl) rfl (fun W _ => by go_simp) hm ?_
      go_simp
      refine anyH_take 6 (v := .bool true) rfl (by kernel_rfl) (by kernel_rfl) (by kernel_rfl) rfl (fun W _ => by go_simp) hm ?_
      go_simp
      refine wpAnyH_done (by kernel_rfl) ?_ _
      simp only [endsIn]
      go_wp2_with fail
      go_ret3
      exact ⟨by rw [HX.out ()]; rfl, hm.below⟩
end Go.Proofs.Ytnahflppggoplaa
