/- The reference's Sum. -/
import Derived.Test.YtbfccepddfinoaaDoorPutRef
import Derived.Test.YtbfccepddfinoaaDoorRef2
import Derived.Test.YtbfccepddfinoaaDoorCopyF
namespace Go.Proofs.YtbfccepddfinoaaDoor
open Go Go.RowKit

theorem ty_sum (g g' : Nat) (l l' : List Value) : ∀ r ∈ [(g, l, 91), (g', l', 22)], r.2.2 ≠ 5 := by
  intro r hr
  have : r = (g, l, 91) ∨ r = (g', l', 22) := by simpa using hr
  rcases this with h | h <;> rw [h]
  · show (91 : Nat) ≠ 5
    decide
  · show (22 : Nat) ≠ 5
    decide
theorem OwnB.seg {e : TypeId} {w : World} {base b off n c : Nat} {zs : List Int} (h : OwnB e w base (.slice (some ⟨b, off, none⟩) n c) zs) (h0 : 0 < zs.length) : Seg w b off zs := by
  obtain ⟨p, d, hv, _, hs⟩ := h.old
  obtain ⟨b', off', hp, hs'⟩ := hs h0
  simp only [Value.slice.injEq] at hv
  rw [hp] at hv
  simp only [Option.some.injEq, Addr.mk.injEq, and_true] at hv
  obtain ⟨⟨rfl, rfl⟩, _⟩ := hv
  exact hs'
section
variable {P : Program} {ops : Array Oper} {rest : List Oper} {a : Act} {w : World} {dst : Option Tmp} {typ : TypeId} {pos : String} {aft : Array Edge}
theorem wps_slh {Q : Act → Prop} {ty : TypeId} {x lo hi : Operand} {elem : TypeId} (hu : P.underlying ty = some (.slice elem)) (hs : (P.info? elem).map (·.size) = some 1) {g o len cap : Nat} (l m : Nat) {il ih : Int} (hlm : l + m ≤ cap) (hlc : l < cap) (hx : a.eval x = .slice (some ⟨g, o, none⟩) len cap)
    (hlo : a.eval lo = .int .i64 il) (hil : il = (l : Int)) (hhi : a.eval hi = .int .i64 ih) (hih : ih = ((l + m : Nat) : Int))
    (h : wpStill P ops w Q rest (a.put dst (.slice (some ⟨g, o + l, none⟩) m (cap - l)))) :
    wpStill P ops w Q ({ dst := dst, op := .slice ty x (some lo) (some hi) none, type := typ, pos := pos, after := aft, guard := none } :: rest) a := by
  subst hil hih
  refine wps_run rfl _ ?_ h
  unfold execOp
  simp only [hx, hlo, hhi, Option.map_some, Option.map_none, run_slh (P := P) w hu hs l m hlm hlc, Sem.run_bind, Sem.run_pure, Result.andThen_ok]
theorem wpl_stwU {Q : Exit → Act → World → Prop} {w0 : World} {S : List Nat} {rows : List (Nat × List Value × TypeId)} {ty : TypeId} {x y : Operand} (i : Nat) {g : Nat} {l : List Value} {t : TypeId} (l' : List Value) (hm : Mem w0 S w rows) (hi : rows[i]? = some (g, l, t)) (hx : a.eval x = .pointer (some ⟨g, 0, none⟩))
    (hy : a.eval y = .agg l'.toArray) (n : Nat) (hs : (P.info? ty).map (·.size) = some n) (hn : l.length = n) (hn' : l'.length = n) (h1 : ∀ v ∈ l', v.oneCell' = true)
    (h : ∀ w', Upd g w w' → Mem w0 S w' (rows.set i (g, l', t)) → wpList P ops Q rest a w') :
    wpList P ops Q ({ dst := none, op := .store ty x y, type := typ, pos := pos, after := aft, guard := none } :: rest) a w := by
  refine wpList_plain rfl fun K hK => ?_
  have hr := hm.get i hi
  have hh := hK _ _ (h _ (Upd.setRow g w l'.toArray) (hm.upd i hi (Upd.setRow g w l'.toArray) (hr.setRow l')))
  unfold Oper.wp execOp
  simp only [hx, hy, Instr.storeAt, Instr.sureAddr, Sem.run_bind, Sem.run_pure, Result.andThen_ok,
    run_storeVar_row w g t ty l.toArray l'.toArray hr (by rw [hs]; simp [hn']) (by simp [hn, hn']) (by simpa using h1)]
  exact hh
theorem wp_tailO {id : Nat} {Q : Exit → Act → World → Prop} {w0 : World} {S : List Nat} {rows : List (Nat × List Value × TypeId)} {l : List Oper} {e : TypeId} {base : Nat} {v : Value} {zs : List Int} (n : Nat) (hmix : P.follows .mixedOrders = true) (hB : Region.lexTailB .any l.toArray n = true) (hm : Mem w0 S w rows) (hown : OwnB e w base v zs)
    (h : ∀ w', Mem w0 S w' rows → OwnB e w' base v zs → wpStill P l.toArray w' (fun a' => wpList P l.toArray Q (l.drop n) a' w') (l.take n) a) : (Code.region id l.toArray true).wp P Q a w :=
  wp_region_still_tail n hmix hB (h _ hm.drew hown)
end
theorem asB_at (W : List Int) (a r : Nat) (hr : r < 4) (ha : a < W.length) : (asB W).getD (4 * a + r) 0 = (four (W.getD a 0)).getD r 0 := by
  induction W generalizing a with
  | nil => exact absurd ha (by simp)
  | cons x l ih =>
    cases a with
    | zero =>
      match r, hr with
      | 0, _ => rfl
      | 1, _ => rfl
      | 2, _ => rfl
      | 3, _ => rfl
    | succ a =>
      rw [show 4 * (a + 1) + r = (4 * a + r) + 4 by omega]
      exact ih a (by simpa using ha)
theorem four_at (x : Int) (r : Nat) (hr : r < 4) : (four x).getD r 0 = x / 2 ^ (24 - 8 * r) % 256 := by
  match r, hr with
  | 0, _ => rfl
  | 1, _ => rfl
  | 2, _ => rfl
  | 3, _ => simp [four]
theorem asB_get (W : List Int) (i : Nat) (hi : i / 4 < W.length) : (asB W).getD i 0 = W.getD (i / 4) 0 / 2 ^ (24 - 8 * (i % 4)) % 256 := by
  rw [← four_at _ _ (by omega), ← asB_at W (i / 4) (i % 4) (by omega) hi, show 4 * (i / 4) + i % 4 = i by omega]
def byRow (W : List Int) (i : Nat) : List Int := (asB W).take i ++ List.replicate (32 - i) 0
theorem byRow_length (W : List Int) (h : W.length = 8) (i : Nat) (hi : i ≤ 32) : (byRow W i).length = 32 := by simp [byRow, asB_length W h]; omega
theorem byRow_full (W : List Int) (h : W.length = 8) : byRow W 32 = asB W := by
  unfold byRow
  rw [List.take_of_length_le (by rw [asB_length W h]; omega)]
  simp
theorem byRow_set (W : List Int) (h : W.length = 8) (i : Nat) (hi : i < 32) : (byRow W i).set i ((asB W).getD i 0) = byRow W (i + 1) := by
  have hl := asB_length W h
  unfold byRow
  have e : ((asB W).take i).length = i := by simp [hl]; omega
  have e2 : (asB W).take (i + 1) = (asB W).take i ++ [(asB W).getD i 0] := by
    rw [List.take_succ_eq_append_getElem (by omega)]
    congr 1
    simp [hl, hi]
  rw [List.set_append_right _ _ (by omega), e, Nat.sub_self, show 32 - i = (32 - (i + 1)) + 1 by omega, List.replicate_succ, List.set_cons_zero, e2, List.append_assoc]
  rfl
theorem SlOld.srcR {w : World} {p : Option Addr} {c : Nat} {cs : List Int} (h : SlOld w (.slice p cs.length c) cs) : 0 < cs.length → ∃ b off, p = some ⟨b, off, none⟩ ∧ Seg w b off cs := by
  obtain ⟨q, d, hv, _, hs⟩ := h
  simp only [Value.slice.injEq] at hv
  obtain ⟨rfl, _, _⟩ := hv
  exact hs
set_option maxHeartbeats 2000000 in
set_option maxRecDepth 100000 in
theorem sumRef_any (cs : List Int) (v : Value) (hbc : Bytes cs) (hlen : cs.length ≤ 1000000) (w : World) (hv : SlOld w v cs) :
    Calls Tryd.prog 43 #[v] w fun e w' => e = .returned (.agg (u8s (shaOf cs)).toArray) ∧ Below w.heap.size w w' := by
  have hv0 := hv
  obtain ⟨p, cap, rfl, hcap, _⟩ := hv0
  have hm := Mem.start w
  have HV : Hid (SlOld w (.slice p cs.length cap) cs) := hv
  have HB : Hid _ := hbc
  clear hv hbc
  go_enter Tryd.func43, Tryd.ntmps43
  go_wp2_with (first
    | ((with_reducible refine at_op (some 2) (.alloc 22) ?_); refine wpl_alloc _ zero_b32 hm ?_; clear hm; intro w1 g2 hm)
    | ((with_reducible refine at_op (some 3) (.alloc 91) ?_); refine wpl_alloc _ zero_w8 hm ?_; clear hm; intro w2 g3 hm)
    | ((with_reducible refine at_op none (.store 91 (.tmp 3) (.tmp 8)) ?_); refine wpl_stw 0 (u32s firstW) hm rfl rfl rfl 8 sz_w8 (by simp [u32s_length]) (rfl) (u32s_one _) ?_; clear hm; intro w3 hm)
    | ((with_reducible refine at_op (some 10) (.call { callee := .builtin .append, args := #[.const (.slice none 0 0), .tmp 9], argTypes := #[26, 26] }) ?_); refine wpl_app rfl un_bs made_u8 cs hm (OwnB.nil _ _ _) (ty_sum _ _ _ _) rfl rfl rfl (SlOld.srcR (SlOld.mem HV.out hm)) (by simp; omega) ?_; clear hm; intro v1 w4 hown hm; replace hown : OwnB 5 w4 w.heap.size v1 cs := hown)
    | ((with_reducible refine at_op (some 12) (.call { callee := .builtin .append, args := #[.tmp 10, .tmp 11], argTypes := #[26, 26] }) ?_); refine wpl_app rfl un_bs made_u8 [128] (hm.allocO _) (hown.alloc _) (ty_sum _ _ _ _) rfl rfl rfl (fun _ => ⟨_, _, rfl, Seg.newO w4 [128] 5 (0, 0)⟩) (by simp; omega) ?_; clear hm hown; intro v2 w5 hown hm))

  replace hm : Mem w [] w5 [(g3, u32s firstW, 91), (g2, u8s (List.replicate 32 0), 22)] := hm
  obtain ⟨Z, hZ⟩ : ∃ Z, Z = padZ cs.length := ⟨_, rfl⟩
  have hZ1 : Z < 64 := by rw [hZ]; unfold padZ; omega
  have hZ2 : (cs.length + 1 + Z) % 64 = 56 := by rw [hZ]; unfold padZ; omega
  have hZ3 : ∀ z, z < Z → (cs.length + 1 + z) % 64 ≠ 56 := by rw [hZ]; unfold padZ; intro z hz; omega
  have HZ : Hid _ := hZ
  have HZ2 : Hid _ := hZ2
  have HZ3 : Hid _ := hZ3
  clear hZ hZ2 hZ3
  go_loopw [4] (fun vs wr => ∃ z, z ≤ Z ∧ OwnB 5 wr w.heap.size vs (cs ++ [128] ++ List.replicate z 0) ∧ Mem w [] wr [(g3, u32s firstW, 91), (g2, u8s (List.replicate 32 0), 22)]) (fun vs _ => cs.length + 1 + Z - slLen vs)
  case atStart => exact ⟨0, by omega, by rw [List.replicate_zero, List.append_nil]; exact hown, hm⟩
  case round =>
    clear hm hown
    obtain ⟨z, hz, hown, hm⟩ := hrel
    obtain ⟨q, c, hq, hqc, hqs⟩ := hown.old
    clear hqs
    have hL : (cs ++ [128] ++ List.replicate z (0 : Int)).length = cs.length + 1 + z := by simp; omega
    rw [hL] at hq hqc
    subst hq
    by_cases hlt : z < Z
    · have hne : ¬ ((cs.length + 1 + z : Nat) : Int) % 64 = 56 := by have := HZ3.out z hlt; omega
      have hln : (cs ++ [128] ++ List.replicate z (0 : Int)).length + [(0 : Int)].length ≤ 1099511627776 := by rw [hL]; simp; omega
      have HLN : Hid _ := hln
      have hn2 : ∀ v' w', OwnB 5 w' w.heap.size v' (cs ++ [128] ++ List.replicate z 0 ++ [0]) → OwnB 5 w' w.heap.size v' (cs ++ [128] ++ List.replicate (z + 1) 0) := by
        intro v' w' h
        rw [List.replicate_succ', ← List.append_assoc]
        exact h
      have HN2 : Hid _ := hn2
      clear hln hn2 hL
      go_wp2_with (first
        | ((with_reducible refine at_op (some 19) (.call { callee := .builtin .append, args := #[.tmp 17, .tmp 18], argTypes := #[26, 26] }) ?_); refine wpl_app rfl un_bs made_u8 [0] (hm.allocO _) (hown.alloc _) (ty_sum _ _ _ _) rfl rfl rfl (fun _ => ⟨_, _, rfl, Seg.newO wr [0] 5 (0, 0)⟩) HLN.out ?_; clear hm hown; intro v3 w6 hown hm; replace hown := HN2.out _ _ hown))

      obtain ⟨q3, c3, hq3, hqc3, _⟩ := hown.old
      have hL3 : (cs ++ [128] ++ List.replicate (z + 1) (0 : Int)).length = cs.length + 1 + (z + 1) := by simp; omega
      rw [hL3] at hq3
      clear hL3 hqc3
      subst hq3
      go_roundw
      case rel => exact ⟨z + 1, by omega, hown, hm⟩
      case measure => simp [slLen]; omega
    · have hzZ : z = Z := by omega
      subst hzZ
      have heq : ((cs.length + 1 + z : Nat) : Int) % 64 = 56 := by have := HZ2.out; omega
      have hpd : ∀ v' w', OwnB 5 w' w.heap.size v' (cs ++ [128] ++ List.replicate z 0 ++ be8 (cs.length * 8)) → OwnB 5 w' w.heap.size v' (padOf cs) := by
        intro v' w' h
        unfold padOf
        rw [← HZ.out]
        exact h
      have hln : (cs ++ [128] ++ List.replicate z (0 : Int)).length + 8 ≤ 1099511627776 := by rw [hL]; omega
      have HPD : Hid _ := hpd
      have HLN : Hid _ := hln
      clear hpd hln hL
      go_wp2_with (first
        | (go_at_call 27; refine (putRef_any _ (cs ++ [128] ++ List.replicate z 0) (cs.length * 8) w.heap.size _ hown hm.size HLN.out).mono ?_; rintro e w7 ⟨v4, rfl, ho, hgr⟩; replace hm := hm.grown hown (ty_sum _ _ _ _) hgr; replace hown := HPD.out _ _ ho; clear ho hgr))

      obtain ⟨N, hN⟩ : ∃ N, (padOf cs).length = 64 * N := ⟨(padOf cs).length / 64, by have := padOf_length cs; omega⟩
      have hN0 : 0 < (padOf cs).length := by simp [padOf, be8_length]; omega
      have hN1 : N ≤ 100000 := by
        have : (padOf cs).length = cs.length + 1 + padZ cs.length + 8 := by simp [padOf, be8_length]; omega
        unfold padZ at this
        omega
      obtain ⟨q4, c4, hq4, hqc4, hqs4⟩ := hown.old
      obtain ⟨b4, o4, rfl, _⟩ := hqs4 hN0
      rw [hN] at hq4 hqc4
      subst hq4
      have hpb : Bytes (padOf cs) := by
        unfold padOf
        refine ((Bytes.append HB.out ?_).append (Bytes.zeros _)).append (be8_bytes _)
        intro x hx
        simp only [List.mem_cons, List.not_mem_nil, or_false] at hx
        omega
      have HPB : Hid _ := hpb
      have HN : Hid _ := hN
      have HN0 : Hid _ := hN0
      clear hpb hN hN0
      replace hm : Mem w [] w7 [(g3, u32s (absorb (padOf cs) 0), 91), (g2, u8s (List.replicate 32 0), 22)] := hm
      go_loopw [5] (fun vi wr => ∃ k : Nat, k ≤ N ∧ vi = .int .i64 (64 * k : Nat) ∧ OwnB 5 wr w.heap.size (.slice (some ⟨b4, o4, none⟩) (64 * N) c4) (padOf cs) ∧ Mem w [] wr [(g3, u32s (absorb (padOf cs) k), 91), (g2, u8s (List.replicate 32 0), 22)]) (fun vi _ => 64 * N - (intOf vi).toNat)
      case atStart => exact ⟨0, by omega, rfl, hown, hm⟩
      case round =>
        clear hm hown
        obtain ⟨k, hk, rfl, hown, hm⟩ := hrel
        by_cases hlt : k < N
        · have hti : ((64 * k : Nat) : Int) < ((64 * N : Nat) : Int) := by omega
          have hb64 : (((padOf cs).drop (64 * k)).take 64).length = 64 := by simp [HN.out]; omega
          have hbb : Bytes (((padOf cs).drop (64 * k)).take 64) := (Bytes.drop HPB.out _).take _
          have HB64 : Hid _ := hb64
          have HBB : Hid _ := hbb
          clear hb64 hbb
          go_wp2_with fail
          refine wp_tailO 6 (by kernel_rfl) (by kernel_rfl) hm hown ?_
          clear hm hown
          intro w8 hm hown
          simp only [List.take_succ_cons, List.take_zero, List.drop_succ_cons, List.drop_zero]
          refine wps_lds 0 0 (u32s (absorb (padOf cs) k)) hm rfl rfl _ un_w8 rfl 8 sz_w8 (by simp [u32s_length, absorb_length]) (by rw [List.drop_zero, List.take_of_length_le (by simp [u32s_length, absorb_length])]) ?_
          still_step
          still_step
          still_step
          still_step
          refine wps_slh un_bs sz_u8 (64 * k) 64 (by omega) (by omega) rfl rfl (by omega) rfl (by rw [show 64 * (k : Int) + 64 = ((64 * k + 64 : Nat) : Int) by omega, wrap_nat _ (by omega)]) ?_
          refine wpStill_nil ?_
          go_wp2_with (first
            | (go_at_call 54; refine (blockRef_any (absorb (padOf cs) k) (((padOf cs).drop (64 * k)).take 64) b4 (o4 + 64 * k) (c4 - 64 * k) (absorb_length _ _) HB64.out (by omega) (Bytes.get HBB.out) _ ((Seg.drop (OwnB.seg hown HN0.out) (64 * k)).take 64)).mono ?_; rintro e w9 ⟨rfl, hb⟩; replace hown := hown.below hb; replace hm := hm.call hb; clear hb)
            | ((with_reducible refine at_op none (.store 91 (.tmp 3) (.tmp 38)) ?_); refine wpl_stwU 0 (u32s (absorb (padOf cs) (k + 1))) hm rfl rfl rfl 8 sz_w8 (by rw [u32s_length]; exact absorb_length _ _) (by rw [u32s_length]; exact absorb_length _ _) (u32s_one _) ?_; intro w10 hu hm10; replace hown := hown.upd (hm.get 0 rfl) (by decide) hu; clear hm hu; have hm := hm10; clear hm10))

          replace hm : Mem w [] w10 [(g3, u32s (absorb (padOf cs) (k + 1)), 91), (g2, u8s (List.replicate 32 0), 22)] := hm
          go_roundw
          case rel => exact ⟨k + 1, by omega, by go_num, hown, hm⟩
          case measure => simp [intOf]; omega
        · have hkN : k = N := by omega
          subst hkN
          have hni : ¬ ((64 * k : Nat) : Int) < ((64 * k : Nat) : Int) := by omega
          obtain ⟨W, hW⟩ : ∃ W, W = absorb (padOf cs) k := ⟨_, rfl⟩
          have hsh : shaOf cs = asB W := by rw [shaOf_pad, HN.out, hW, show 64 * k / 64 = k by omega]
          have hWl : W.length = 8 := by rw [hW]; exact absorb_length _ _
          rw [← hW] at hm
          have HSH : Hid _ := hsh
          have HWL : Hid _ := hWl
          clear hW hsh hWl hown
          go_wp2_with (first
            | ((with_reducible refine at_op (some 6) (.alloc 22) ?_); refine wpl_alloc _ zero_b32 hm ?_; clear hm; intro w11 g6 hm))

          go_loopw [7] (fun vi wr => ∃ i : Nat, i ≤ 32 ∧ vi = .int .i64 i ∧ Mem w [] wr [(g6, u8s (byRow W i), 22), (g3, u32s W, 91), (g2, u8s (List.replicate 32 0), 22)]) (fun vi _ => 32 - (intOf vi).toNat)
          case atStart => exact ⟨0, by omega, rfl, hm⟩
          case round =>
            clear hm
            obtain ⟨i, hi, rfl, hm⟩ := hrel
            by_cases hlt : i < 32
            · obtain ⟨x, hx⟩ : ∃ x, x = W.getD (i / 4) 0 := ⟨_, rfl⟩
              obtain ⟨a, ha⟩ : ∃ a, a = i / 4 := ⟨_, rfl⟩
              obtain ⟨r, hr⟩ : ∃ r, r = i % 4 := ⟨_, rfl⟩
              have hr4 : r < 4 := by omega
              have ha8 : a < 8 := by omega
              have hqi : (i : Int) / 4 = (a : Int) := by omega
              have hri : (i : Int) % 4 = (r : Int) := by omega
              have hc3 : (u32s W)[a]? = some (.int .u32 x) := by rw [u32s_get _ _ (by rw [HWL.out]; exact ha8), ha, hx]
              have hby : (asB W).getD i 0 = x / 2 ^ (24 - 8 * r) % 256 := by
                rw [hx, hr]
                exact asB_get W i (by rw [HWL.out]; omega)
              have HC3 : Hid _ := hc3
              have HBY : Hid _ := hby
              have hlti : (i : Int) < 32 := by omega
              have hjl : i < (u8s (byRow W i)).length := by rw [u8s_length, byRow_length W HWL.out i hi]; exact hlt
              have hset : (u8s (byRow W i)).set i (.int .u8 (x / 2 ^ (24 - 8 * r) % 256)) = u8s (byRow W (i + 1)) := by rw [u8s_set, ← hby, byRow_set W HWL.out i hlt]
              have HJ : Hid _ := hjl
              have HSET : Hid _ := hset
              clear hx ha hr hc3 hby hjl hset
              go_wp2_with (first
                | ((with_reducible refine at_op (some 47) (.load 24 (.tmp 46)) ?_); refine wpl_ldc 1 a (.int .u32 x) hm rfl rfl ag_u32 (HC3.out) ?_)
                | ((with_reducible refine at_op none (.store 5 (.tmp 55) (.tmp 54)) ?_); refine wpl_stc 0 i (.int .u8 (x / 2 ^ (24 - 8 * r) % 256)) hm rfl (rfl) rfl sz_u8 (HJ.out) rfl rfl ?_; clear hm; intro w12 hm))

              rw [List.set_cons_zero, HSET.out] at hm
              go_roundw
              case rel => exact ⟨i + 1, by omega, by go_num, hm⟩
              case measure => simp [intOf]; omega
            · have hi32 : i = 32 := by omega
              subst hi32
              rw [byRow_full W HWL.out, ← HSH.out] at hm
              have hln : (u8s (shaOf cs)).length = 32 := by rw [u8s_length, shaOf_length]
              have HLN : Hid _ := hln
              clear hln
              go_wp2_with (first
                | ((with_reducible refine at_op (some 56) (.load 22 (.tmp 6)) ?_); refine wpl_ldw 0 hm rfl rfl _ un_b32 rfl 32 sz_b32 (HLN.out) ?_)
                | ((with_reducible refine at_op none (.store 22 (.tmp 2) (.tmp 56)) ?_); refine wpl_stw 2 (u8s (shaOf cs)) hm rfl rfl rfl 32 sz_b32 (by simp [u8s_length]) (HLN.out) (u8s_one _) ?_; clear hm; intro w13 hm))
              exact ret_cell 2 hm rfl Tryd.results43 rfl _ un_b32 rfl 32 sz_b32 HLN.out rfl ⟨rfl, hm.below⟩
end Go.Proofs.YtbfccepddfinoaaDoor
