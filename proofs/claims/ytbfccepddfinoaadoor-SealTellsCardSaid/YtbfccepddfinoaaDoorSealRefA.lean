/- The document's NonceOf and TagOf. -/
import Derived.Test.YtbfccepddfinoaaDoorSealOpen
import Derived.Test.YtbfccepddfinoaaDoorSealKnown
import Derived.Test.YtbfccepddfinoaaDoorPutRef
import Derived.Test.YtbfccepddfinoaaDoorMacRefD
import Derived.Test.YtbfccepddfinoaaDoorStRefY
namespace Go.Proofs.YtbfccepddfinoaaDoor
open Go Go.RowKit
set_option maxRecDepth 100000 in
theorem bytes_set {X : List Int} (h : Bytes X) (i : Nat) {x : Int} (hx : 0 ≤ x ∧ x < 256) : Bytes (X.set i x) := by
  intro y hy
  rcases List.mem_or_eq_of_mem_set hy with h1 | h1
  · exact h y h1
  · rw [h1]; exact hx
set_option maxRecDepth 100000 in
theorem old_tail {w : World} {g c : Nat} {X : List Int} {r : List Value} {t : TypeId} (hr : Row w g (u8s X ++ r) t) (m k : Nat) (hX : X.length = m + k) (hc : k ≤ c) : SlOld w (.slice (some ⟨g, m, none⟩) k c) (X.drop m) := by
  have hl : (X.drop m).length = k := by rw [List.length_drop]; omega
  refine ⟨_, c, by rw [hl], by rw [hl]; exact hc, fun _ => ⟨g, m, rfl, ?_⟩⟩
  have := (seg_head hr).drop m
  rw [Nat.zero_add] at this
  exact this
set_option maxRecDepth 100000 in
theorem old_head {w : World} {g cap n : Nat} {X : List Int} {r : List Value} {t : TypeId} (hr : Row w g (u8s X ++ r) t) (hX : X.length = n) (hc : n ≤ cap) : SlOld w (.slice (some ⟨g, 0, none⟩) n cap) X := by
  subst hX
  exact ⟨_, cap, rfl, hc, fun _ => ⟨g, 0, rfl, seg_head hr⟩⟩
set_option maxRecDepth 100000 in
theorem old_segT {w : World} {b o cap : Nat} {X : List Int} (h : Seg w b o X) (n : Nat) (hX : n ≤ X.length) (hc : n ≤ cap) : SlOld w (.slice (some ⟨b, o, none⟩) n cap) (X.take n) := by
  have hl : (X.take n).length = n := by rw [List.length_take]; omega
  exact ⟨_, cap, by rw [hl], by rw [hl]; exact hc, fun _ => ⟨b, o, rfl, h.take n⟩⟩
set_option maxRecDepth 100000 in
theorem old_segD {w : World} {b o c : Nat} {X : List Int} (h : Seg w b o X) (n k : Nat) (hX : X.length = n + k) (hc : k ≤ c) : SlOld w (.slice (some ⟨b, o + n, none⟩) k c) (X.drop n) := by
  have hl : (X.drop n).length = k := by rw [List.length_drop]; omega
  exact ⟨_, c, by rw [hl], by rw [hl]; exact hc, fun _ => ⟨b, o + n, rfl, h.drop n⟩⟩
set_option maxRecDepth 100000 in
theorem code_turned (ks ns ds ms : List Int) (j m : Nat) (x b : Int) (hj : j < 16) (hml : ms.length = m) (hmb : Bytes ms) (hx : x = (sealOf ks ns ds ms).getD (m + j) 0) (hb : 0 ≤ b ∧ b ≤ 255) : (openCode ks ns ds ((sealOf ks ns ds ms).set (m + j) (bits .xor .u8 x b)) == 0) = (b == 0) := by
  have hxb : 0 ≤ x ∧ x < 256 := by rw [hx]; exact (sealOf_bytes ks ns ds hmb).get _
  have hf := fits_turned ks ns ds ms j (bits .xor .u8 x b) hj
  rw [hml, ← hx] at hf
  have hl : ((sealOf ks ns ds ms).set (m + j) (bits .xor .u8 x b)).length = m + 16 := by rw [List.length_set, sealOf_length, hml]
  unfold openCode
  rw [if_neg (by rw [hl]; omega), hf]
  by_cases hb0 : b = 0
  · subst hb0
    have e : bits .xor .u8 x 0 = x := (xor_same hxb (by omega)).2 rfl
    rw [e]
    simp
  · have e : ¬ x = bits .xor .u8 x b := fun e => hb0 ((xor_same hxb (by omega)).1 e.symm)
    rw [decide_eq_false e]
    simp [hb0]
set_option maxRecDepth 100000 in
theorem Mem.adoptO {w0 w : World} {S : List Nat} {rows : List (Nat × List Value × TypeId)} {e : TypeId} {v : Value} {zs : List Int} (hm : Mem w0 S w rows) (ho : OwnB e w w0.heap.size v zs) (hty : ∀ r ∈ rows, r.2.2 ≠ e) (h0 : 0 < zs.length) :
    ∃ g cap l, v = .slice (some ⟨g, 0, none⟩) zs.length cap ∧ zs.length ≤ cap ∧ Mem w0 S w ((g, u8s zs ++ l, e) :: rows) := by
  obtain ⟨g, cap, l, hv, hge, hr, hc⟩ := ho.row h0
  refine ⟨g, cap, l, hv, hc, hm.os, hm.tape, hm.output, hm.size, hm.block, ?_, ?_, ?_⟩
  · intro r hr'
    rcases List.mem_cons.1 hr' with rfl | hr'
    · exact hr
    · exact hm.row r hr'
  · simp only [List.map_cons, List.nodup_cons]
    refine ⟨fun hc => ?_, hm.nodup⟩
    obtain ⟨r, hr', he⟩ := List.mem_map.1 hc
    refine ho.apart (hm.row r hr') (hty r hr') ?_
    rw [hv, he]
    rfl
  · intro r hr'
    rcases List.mem_cons.1 hr' with rfl | hr'
    · exact Or.inr hge
    · exact hm.fresh r hr'
set_option maxRecDepth 100000 in
theorem seal_head (ks ns ds ms : List Int) (i : Nat) (h : i < ms.length) : (sealOf ks ns ds ms).getD i 0 = bits .xor .u8 (ms.getD i 0) (keyAt (encKey ks) ns 1 i) := by
  rw [sealOf, getD_append, if_pos (by rw [encOf_length]; exact h), encOf_get _ _ _ _ h]
set_option maxRecDepth 100000 in
theorem xor_inj {x y k : Int} (hx : 0 ≤ x ∧ x < 256) (hy : 0 ≤ y ∧ y < 256) (hk : 0 ≤ k ∧ k < 256) : bits .xor .u8 x k = bits .xor .u8 y k ↔ x = y := by
  constructor
  · intro h
    have h2 := congrArg (fun z => bits .xor .u8 z k) h
    simpa [xor_twice8 hx hk, xor_twice8 hy hk] using h2
  · intro h
    rw [h]
set_option maxRecDepth 100000 in
/-- Where the two sealed texts differ. -/
theorem seal_diff (ks ns ds ms : List Int) (j i : Nat) (b : Int) (hmb : Bytes ms) (hj : j < ms.length) (hi : i < ms.length) (hb : 0 ≤ b ∧ b ≤ 255) : bits .xor .u8 ((sealOf ks ns ds ms).getD i 0) ((sealOf ks ns ds (ms.set j (bits .xor .u8 (ms.getD j 0) b))).getD i 0) = 0 ↔ ¬ (i = j ∧ ¬ b = 0) := by
  have hk := keyAt_byte (encKey ks) ns 1 i
  have hx := hmb.get j
  have hy := byte_xor hx (show 0 ≤ b ∧ b < 256 by omega)
  have hsb : Bytes (ms.set j (bits .xor .u8 (ms.getD j 0) b)) := bytes_set hmb j hy
  rw [seal_head ks ns ds ms i hi, seal_head ks ns ds _ i (by rw [List.length_set]; exact hi), xor_nought (byte_xor (hmb.get i) hk) (byte_xor (hsb.get i) hk), xor_inj (hmb.get i) (hsb.get i) hk]
  by_cases hij : i = j
  · subst hij
    have e : (ms.set i (bits .xor .u8 (ms.getD i 0) b)).getD i 0 = bits .xor .u8 (ms.getD i 0) b := by simp [hi]
    rw [e]
    constructor
    · intro h hc
      exact hc.2 ((xor_same hx (by omega)).1 h.symm)
    · intro h
      have hb0 : b = 0 := Classical.byContradiction fun hn => h ⟨rfl, hn⟩
      exact ((xor_same hx (by omega)).2 hb0).symm
  · have e : (ms.set j (bits .xor .u8 (ms.getD j 0) b)).getD i 0 = ms.getD i 0 := by simp [Ne.symm hij]
    rw [e]
    simp [hij]
set_option maxRecDepth 100000 in
theorem Below.of_grown {w w' : World} (h : w.grownBy w' none) : Below w.heap.size w w' := ⟨h.os, h.tape, h.output, h.size, fun k hk => h.block k hk (by simp)⟩
def putQ (x : Int) : Nat → List Int
  | 0 => []
  | k + 1 => putQ x k ++ [x / 2 ^ (8 * (3 - k)) % 256]
set_option maxRecDepth 100000 in
theorem putQ_4 (x : Int) : putQ x 4 = be4 x := by
  simp only [putQ, be4, List.nil_append, List.cons_append, List.cons.injEq, and_true]
  refine ⟨?_, ?_, ?_, ?_⟩ <;> omega
set_option maxRecDepth 100000 in
theorem putQ_length (x : Int) (k : Nat) : (putQ x k).length = k := by
  induction k with
  | zero => rfl
  | succ k ih => simp [putQ, ih]
set_option maxHeartbeats 1000000 in
set_option maxRecDepth 100000 in
theorem putRefO4 (v : Value) (zs : List Int) (x : Int) (base : Nat) (w : World) (hown : OwnB 5 w base v zs) (hbase : base ≤ w.heap.size) (hlen : zs.length + 4 ≤ 1099511627776) :
    Calls Tryd.prog 27 #[v, .int .u64 x, .int .i64 4] w fun e w' => ∃ v', e = .returned v' ∧ OwnB 5 w' base v' (zs ++ be4 x) ∧ w.grownBy w' v.ownBlock := by
  have HO : Hid _ := hown
  clear hown
  go_enter Tryd.func27, Tryd.ntmps27
  go_wp2_with fail
  go_loopw [0, 8] (fun vs vi wr => ∃ i : Nat, i ≤ 4 ∧ vi = .int .i64 ((i : Int) - 1) ∧ OwnB 5 wr base vs (zs ++ putQ x (4 - i)) ∧ w.grownBy wr v.ownBlock ∧ Later w v vs) (fun _ vi _ => ((intOf vi) + 1).toNat)
  case atStart => exact ⟨4, by omega, rfl, by rw [show 4 - 4 = 0 from rfl, putQ, List.append_nil]; exact HO.out, World.grownBy.refl _ _, Later.refl _ _⟩
  case round =>
    obtain ⟨i, hi, rfl, hown, hg, hl⟩ := hrel
    match i with
    | j + 1 =>
      rw [show (((j + 1 : Nat) : Int) - 1) = (j : Int) by omega]
      have hbz : base ≤ (wr.alloc (.cells (u8s [x / 2 ^ (8 * j) % 256]).toArray 5)).heap.size := by have := hg.size; simp; omega
      have hz : ∀ vs' w', OwnB 5 w' base vs' (zs ++ putQ x (4 - (j + 1)) ++ [x / 2 ^ (8 * j) % 256]) → OwnB 5 w' base vs' (zs ++ putQ x (4 - j)) := by
        intro vs' w' h
        rw [show 4 - j = (4 - (j + 1)) + 1 by omega, putQ, show 3 - (4 - (j + 1)) = j by omega, ← List.append_assoc]
        exact h
      have hll : (zs ++ putQ x (4 - (j + 1))).length + [x / 2 ^ (8 * j) % 256].length ≤ 1099511627776 := by simp [putQ_length]; omega
      have HBZ : Hid _ := hbz
      have HZ : Hid _ := hz
      have HLL : Hid _ := hll
      have HG : Hid (w.grownBy wr v.ownBlock) := hg
      have HLt : Hid _ := hl
      have HOW : Hid _ := hown
      clear hg hl hown hbz hz hll
      go_wp2_with (first
        | ((with_reducible refine at_op (some 26) (.call { callee := .builtin .append, args := #[.tmp 18, .tmp 25], argTypes := #[26, 26] }) ?_); refine wpl_appG rfl un_bs made_u8 [x / 2 ^ (8 * j) % 256] (OwnB.alloc HOW.out _) HBZ.out rfl rfl rfl (Seg.newO wr [x / 2 ^ (8 * j) % 256] 5 (0, 0)) HLL.out ?_; intro v2 w2 ho hg2 hv2; have HOW2 : Hid _ := HZ.out _ _ ho; have HG2 : Hid (w.grownBy w2 v.ownBlock) := grown_then HG.out HLt.out ((World.grownBy_alloc _ _ _).trans hg2); have HL2 : Hid _ := Later.step HLt.out (Nat.le_trans HG.out.size (by simp)) hv2; clear ho hg2 hv2))
      go_roundw
      case rel => exact ⟨j, by omega, by go_num, HOW2.out, HG2.out, HL2.out⟩
      case measure => simp [intOf]
    | 0 =>
      have HG : Hid (w.grownBy wr v.ownBlock) := hg
      rw [show 4 - 0 = 4 from rfl, putQ_4] at hown
      have HOW : Hid _ := hown
      clear hg hl hown
      rw [show (((0 : Nat) : Int) - 1) = -1 from rfl]
      go_wp2_with fail
      go_ret
      exact ⟨_, rfl, HOW.out, HG.out⟩
/-- The first i of a list, noughts behind them, n in all. -/
def cpTo (n : Nat) (l : List Int) (i : Nat) : List Int := l.take i ++ List.replicate (n - i) 0
set_option maxRecDepth 100000 in
theorem cpTo_zero (n : Nat) (l : List Int) : cpTo n l 0 = List.replicate n 0 := by simp [cpTo]
set_option maxRecDepth 100000 in
theorem cpTo_length (n : Nat) (l : List Int) (h : l.length = n) (i : Nat) (hi : i ≤ n) : (cpTo n l i).length = n := by simp [cpTo, h]; omega
set_option maxRecDepth 100000 in
theorem cpTo_full (n : Nat) (l : List Int) (h : l.length = n) : cpTo n l n = l := by
  unfold cpTo
  rw [List.take_of_length_le (by omega)]
  simp
set_option maxRecDepth 100000 in
theorem cpTo_set (n : Nat) (l : List Int) (h : l.length = n) (i : Nat) (hi : i < n) : (cpTo n l i).set i (l.getD i 0) = cpTo n l (i + 1) := by
  have ht : (l.take i).length = i := by rw [List.length_take]; omega
  have hg : l.getD i 0 = l[i]'(by omega) := by simp [show i < l.length by omega]
  unfold cpTo
  rw [List.set_append_right _ _ (by omega), ht, Nat.sub_self, show n - i = (n - (i + 1)) + 1 by omega, List.replicate_succ, List.set_cons_zero, List.take_succ_eq_append_getElem (by omega), hg, List.append_assoc]
  rfl
set_option maxHeartbeats 1000000 in
set_option maxRecDepth 100000 in
theorem nonceRef_any (p n : Int) (hp : 0 ≤ p ∧ p < 4294967296) (w : World) :
    Calls Tryd.prog 15 #[.int .u32 p, .int .u64 n] w fun e w' => e = .returned (.agg (u8s (nonceOf p n)).toArray) ∧ Below w.heap.size w w' := by
  obtain ⟨hp0, hp1⟩ := hp
  have hm := Mem.start w
  have HWR : Hid (IntKind.u64.wrap p = p) := wrapu_int p hp0 hp1
  obtain ⟨L, hL⟩ : ∃ L, L = nonceOf p n := ⟨_, rfl⟩
  have HLL : Hid (∀ _ : Unit, nonceOf p n = L) := fun _ => hL.symm
  have HL : Hid (L.length = 12) := by show _ = _; rw [hL, nonceOf_length]
  have HLU : Hid ((u8s L).length = 12) := by show _ = _; rw [u8s_length]; exact HL.out
  have HLE : Hid (∀ _ : Unit, [] ++ be4 p ++ be8 n = L) := fun _ => by rw [hL]; rfl
  have hty : ∀ (g : Nat), ∀ r ∈ [(g, u8s (List.replicate 12 0), (30 : TypeId))], r.2.2 ≠ 5 := by
    intro g r hr
    simp only [List.mem_cons, List.not_mem_nil, or_false] at hr
    subst hr
    simp
  have HTY : Hid _ := hty
  clear hL hty
  go_enter Tryd.func15, Tryd.ntmps15
  go_wp2_with (first
    | ((with_reducible refine at_op (some 4) (.alloc 30) ?_); refine wpl_alloc _ zero_nce hm ?_; clear hm; intro w1 g4 hm))
  refine (putRefO4 _ [] p w.heap.size _ (OwnB.nil _ _ _) hm.size (by simp)).mono ?_
  rintro e w2 ⟨v10, he, ho, hg⟩
  subst he
  replace hm := hm.call (Below.of_grown hg)
  have HO1 : Hid (OwnB 5 w2 w.heap.size v10 ([] ++ be4 p)) := ho
  clear ho hg
  go_wp2_with fail
  refine (putRef_any _ ([] ++ be4 p) n w.heap.size _ HO1.out hm.size (by simp [be4_length])).mono ?_
  rintro e w3 ⟨v12, he, ho, hg⟩
  subst he
  replace hm := hm.grown HO1.out (HTY.out _) hg
  rw [HLE.out ()] at ho
  obtain ⟨gb, cb, l, hv, hc, hm2⟩ := Mem.adoptO hm ho (HTY.out _) (by rw [HL.out]; omega)
  rw [HL.out] at hv hc
  subst hv
  clear hm ho hg HO1
  have hm := hm2
  clear hm2
  go_wp2_with (first
    | ((with_reducible refine at_op (some 6) (.alloc 30) ?_); refine wpl_alloc _ zero_nce hm ?_; clear hm; intro w4 g6 hm))
  go_loopw [7] (fun vi wr => ∃ i : Nat, i ≤ 12 ∧ vi = .int .i64 i ∧ Mem w [] wr ((g6, u8s (cpTo 12 L i), 30) :: [(gb, u8s L ++ l, 5), (g4, u8s (List.replicate 12 0), 30)])) (fun vi _ => 12 - (intOf vi).toNat)
  case atStart => exact ⟨0, by omega, rfl, by rw [cpTo_zero]; exact hm⟩
  case round =>
    clear hm
    obtain ⟨i, hi, rfl, hm⟩ := hrel
    by_cases hlt : i < 12
    · have hii : (i : Int) < 12 := by omega
      obtain ⟨x, hx⟩ : ∃ x, x = L.getD i 0 := ⟨_, rfl⟩
      have HVX : Hid ((u8s L ++ l)[i]? = some (.int .u8 x)) := by show _ = _; rw [List.getElem?_append_left (by rw [HLU.out]; omega), u8s_get _ _ (by rw [HL.out]; omega), hx]
      have HST : Hid ((u8s (cpTo 12 L i)).set i (.int .u8 x) = u8s (cpTo 12 L (i + 1))) := by show _ = _; rw [u8s_set, hx, cpTo_set 12 L HL.out i hlt]
      have HLN : Hid (i < (u8s (cpTo 12 L i)).length) := by show _ < _; rw [u8s_length, cpTo_length 12 L HL.out i hi]; exact hlt
      clear hx
      go_wp2_with (first
        | ((with_reducible refine at_op (some 21) (.load 5 (.tmp 20)) ?_); refine wpl_ldc 1 i (.int .u8 x) hm rfl rfl ag_u8 (HVX.out) ?_)
        | ((with_reducible refine at_op none (.store 5 (.tmp 22) (.tmp 21)) ?_); go_must (refine wpl_stc 0 i (.int .u8 x) hm rfl rfl (rfl) sz_u8 (HLN.out) rfl rfl ?_); clear hm; intro wq hm))
      rw [List.set_cons_zero, HST.out] at hm
      go_roundw
      case rel => exact ⟨i + 1, by omega, by go_num, hm⟩
      case measure => simp [intOf]; omega
    · have hin : i = 12 := by omega
      subst hin
      rw [cpTo_full 12 L HL.out] at hm
      go_wp2_with (first
        | ((with_reducible refine at_op (some 23) (.load 30 (.tmp 6)) ?_); refine wpl_ldw 0 hm rfl rfl _ un_nce rfl 12 sz_nce (HLU.out) ?_)
        | ((with_reducible refine at_op none (.store 30 (.tmp 4) (.tmp 23)) ?_); refine wpl_stw 2 (u8s L) hm rfl rfl rfl 12 sz_nce (by simp [u8s_length]) (HLU.out) (u8s_one _) ?_; clear hm; intro wr2 hm))
      exact ret_cell 2 hm rfl Tryd.results15 rfl _ un_nce rfl 12 sz_nce HLU.out rfl ⟨by rw [HLL.out ()], hm.below⟩
set_option maxHeartbeats 2000000 in
set_option maxRecDepth 100000 in
theorem tagRef_any (ks ns ds cs : List Int) (va vc : Value) (hkl : ks.length = 32) (hnl : ns.length = 12) (hkb : Bytes ks) (hnb : Bytes ns) (hdb : Bytes ds) (hcb : Bytes cs) (hal : ds.length ≤ 20000) (hcl : cs.length ≤ 20000) (w : World) (hva : SlOld w va ds) (hvc : SlOld w vc cs) :
    Calls Tryd.prog 17 #[.agg (u8s ks).toArray, .agg (u8s ns).toArray, va, vc] w fun e w' => e = .returned (.agg (u8s (tagOf ks ns ds cs)).toArray) ∧ Below w.heap.size w w' := by
  obtain ⟨pa, ca, rfl, _⟩ := hva.len
  obtain ⟨pc, cc, rfl, _⟩ := hvc.len
  have hm := Mem.start w
  have HKL : Hid _ := hkl
  have HNL : Hid _ := hnl
  have HKB : Hid _ := hkb
  have HKU : Hid ((u8s ks).length = 32) := by show _ = _; rw [u8s_length]; exact hkl
  have HNU : Hid ((u8s ns).length = 12) := by show _ = _; rw [u8s_length]; exact hnl
  have HA : Hid (SlOld w (.slice pa ds.length ca) ds) := hva
  have HC : Hid (SlOld w (.slice pc cs.length cc) cs) := hvc
  have HWR : Hid (IntKind.u64.wrap (ds.length : Int) = (ds.length : Int)) := wrapu_int _ (by omega) (by omega)
  obtain ⟨E, hE⟩ : ∃ E, E = macKey ks := ⟨_, rfl⟩
  have HEE : Hid (∀ _ : Unit, deriveOf ks (strB { data := #[109, 97, 99] }) 0 = E) := fun _ => hE.symm
  have HEL : Hid (E.length = 32) := by show _ = _; rw [hE, macKey, deriveOf_length]
  have HEU : Hid ((u8s E).length = 32) := by show _ = _; rw [u8s_length]; exact HEL.out
  have HEB : Hid (Bytes E) := by rw [hE]; exact deriveOf_bytes _ _ _
  obtain ⟨M, hM⟩ : ∃ M, M = msgOf ns ds cs := ⟨_, rfl⟩
  have HMM : Hid (∀ _ : Unit, [] ++ be8 (ds.length : Int) ++ ds ++ ns ++ cs = M) := fun _ => by rw [hM]; rfl
  have HMB : Hid (Bytes M) := by rw [hM]; exact msgOf_bytes hnb hdb hcb
  obtain ⟨ml, hml⟩ : ∃ ml, M.length = ml := ⟨_, rfl⟩
  have hml2 : 8 + ds.length + 12 + cs.length ≤ ml := by rw [← hml, hM, msgOf_length, hnl]; exact Nat.le_refl _
  have hml3 : ml ≤ 40020 := by rw [← hml, hM, msgOf_length, hnl]; omega
  have HML : Hid (M.length = ml) := hml
  obtain ⟨X, hX⟩ : ∃ X, X = macOf E M := ⟨_, rfl⟩
  have HXX : Hid (∀ _ : Unit, macOf E M = X) := fun _ => hX.symm
  have HXL : Hid (X.length = 32) := by show _ = _; rw [hX, macOf_length]
  have HXU : Hid ((u8s X).length = 32) := by show _ = _; rw [u8s_length]; exact HXL.out
  obtain ⟨G, hG⟩ : ∃ G, G = tagOf ks ns ds cs := ⟨_, rfl⟩
  have HGG : Hid (∀ _ : Unit, tagOf ks ns ds cs = G) := fun _ => hG.symm
  have HGL : Hid (G.length = 16) := by show _ = _; rw [hG, tagOf_length]
  have HGU : Hid ((u8s G).length = 16) := by show _ = _; rw [u8s_length]; exact HGL.out
  have HXG : Hid (∀ i, i < 16 → G.getD i 0 = X.getD i 0) := fun i hi => by
    rw [hG, hX, hE, hM]
    exact getD_take _ 16 i hi
  have hty : ∀ (a b c : Nat), ∀ r ∈ [(a, u8s (List.replicate 16 0), (42 : TypeId)), (b, u8s ns, (30 : TypeId)), (c, u8s ks, (23 : TypeId))], r.2.2 ≠ 5 := by
    intro a b c r hr
    simp only [List.mem_cons, List.not_mem_nil, or_false] at hr
    rcases hr with rfl | rfl | rfl <;> simp
  have HTY : Hid _ := hty
  clear hkl hnl hkb hnb hdb hcb hva hvc hE hM hml hX hG hty
  go_enter Tryd.func17, Tryd.ntmps17
  go_wp2_with (first
    | ((with_reducible refine at_op (some 4) (.box 23 (.tmp 0)) ?_); refine wpl_box (u8s ks) rfl hm ?_; clear hm; intro w1 g4 hm)
    | ((with_reducible refine at_op (some 5) (.box 30 (.tmp 1)) ?_); refine wpl_box (u8s ns) rfl hm ?_; clear hm; intro w2 g5 hm)
    | ((with_reducible refine at_op (some 8) (.alloc 42) ?_); refine wpl_alloc _ zero_tag hm ?_; clear hm; intro w3 g8 hm)
    | (go_at_call 27; refine (putRef_any _ [] (ds.length : Int) w.heap.size _ (OwnB.nil _ _ _) hm.size (by simp)).mono ?_; rintro e w4 ⟨v17, he, ho, hg⟩; subst he; replace hm := hm.call (Below.of_grown hg); have HO1 : Hid (OwnB 5 w4 w.heap.size v17 ([] ++ be8 (ds.length : Int))) := ho; clear ho hg))
  refine wp_ends0 ?_
  refine anyH_startO (T := fun W => Mem w [] W [(g8, u8s (List.replicate 16 0), 42), (g5, u8s ns, 30), (g4, u8s ks, 23)]) (by kernel_rfl) hm HO1.out ?_
  clear hm HO1
  intro w5 hm ho
  have HO1 : Hid (OwnB 5 w5 w.heap.size v17 ([] ++ be8 (ds.length : Int))) := ho
  clear ho
  refine anyH_takeG 0 (v := v17) rfl (by kernel_rfl) (by kernel_rfl) (by kernel_rfl) rfl (fun W _ => by go_simp) hm ?_
  go_simp
  refine anyH_takeG 1 (v := .slice pa ds.length ca) rfl (by kernel_rfl) (by kernel_rfl) (by kernel_rfl) rfl (fun W _ => by go_simp) hm ?_
  go_simp
  refine anyH_takeG 3 (v := .slice (some ⟨g5, 0, none⟩) 12 12) rfl (by kernel_rfl) (by kernel_rfl) (by kernel_rfl) rfl (fun W _ => by go_simp) hm ?_
  go_simp
  refine anyH_takeG 5 (v := .slice pc cs.length cc) rfl (by kernel_rfl) (by kernel_rfl) (by kernel_rfl) rfl (fun W _ => by go_simp) hm ?_
  go_simp
  refine wpAnyH_all (rs := [2]) (by kernel_rfl) (by simp) ?_
  intro i hi
  simp only [List.mem_cons, List.not_mem_nil, or_false] at hi
  subst hi
  refine anyH_op 2 rfl rfl ?_
  intro K hK
  refine wpl_app rfl un_bs made_u8 ds hm HO1.out (HTY.out _ _ _) rfl rfl rfl ((SlOld.mem HA.out hm).src0.2.2) (by simp [be8_length]; omega) ?_
  clear hm
  intro v20 w6 ho hm
  have HO2 : Hid (OwnB 5 w6 w.heap.size v20 ([] ++ be8 (ds.length : Int) ++ ds)) := ho
  clear ho HO1
  refine wpList_nil ?_
  refine hK _ _ hm ?_
  clear hK K
  refine wpAnyH_all (rs := [4]) (by kernel_rfl) (by simp) ?_
  intro i hi
  simp only [List.mem_cons, List.not_mem_nil, or_false] at hi
  subst hi
  refine anyH_op 4 rfl rfl ?_
  intro K hK
  refine wpl_app rfl un_bs made_u8 ns hm HO2.out (HTY.out _ _ _) rfl rfl HNL.out.symm (fun _ => ⟨g5, 0, rfl, Seg.row (hm.get 1 rfl)⟩) (by simp [be8_length, HNL.out]; omega) ?_
  clear hm
  intro v22 w7 ho hm
  have HO3 : Hid (OwnB 5 w7 w.heap.size v22 ([] ++ be8 (ds.length : Int) ++ ds ++ ns)) := ho
  clear ho HO2
  refine wpList_nil ?_
  refine hK _ _ hm ?_
  clear hK K
  refine wpAnyH_all (rs := [6]) (by kernel_rfl) (by simp) ?_
  intro i hi
  simp only [List.mem_cons, List.not_mem_nil, or_false] at hi
  subst hi
  refine anyH_op 6 rfl rfl ?_
  intro K hK
  refine wpl_app rfl un_bs made_u8 cs hm HO3.out (HTY.out _ _ _) rfl rfl rfl ((SlOld.mem HC.out hm).src0.2.2) (by simp [be8_length, HNL.out]; omega) ?_
  clear hm
  intro v24 w8 ho hm
  have HO4 : Hid (OwnB 5 w8 w.heap.size v24 ([] ++ be8 (ds.length : Int) ++ ds ++ ns ++ cs)) := ho
  clear ho HO3
  refine wpList_nil ?_
  refine hK _ _ hm ?_
  clear hK K
  have ho := HO4.out
  rw [HMM.out ()] at ho
  obtain ⟨gm, cm, l, hv, hc, hm2⟩ := Mem.adoptO hm ho (HTY.out _ _ _) (by rw [HML.out]; omega)
  rw [HML.out] at hv hc
  subst hv
  clear ho HO4
  refine anyH_takeG 7 (v := .slice (some ⟨gm, 0, none⟩) ml cm) rfl (by kernel_rfl) (by kernel_rfl) (by kernel_rfl) rfl (fun W _ => by go_simp) hm ?_
  go_simp
  refine wpAnyH_done (by kernel_rfl) ?_ _
  simp only [endsIn]
  clear hm
  have hm := hm2
  clear hm2
  go_wp2_with (first
    | ((with_reducible refine at_op (some 25) (.load 23 (.tmp 4)) ?_); refine wpl_ldw 3 hm rfl rfl _ un_key rfl 32 sz_key (HKU.out) ?_)
    | (go_at_call 26; refine (deriveRef_any ks _ 0 HKL.out HKB.out (by decide) (by omega) _).mono ?_; rintro e w9 ⟨he, hb⟩; rw [HEE.out ()] at he; subst he; replace hm := hm.call hb; clear hb)
    | ((with_reducible refine at_op (some 10) (.alloc 23) ?_); refine wpl_alloc _ zero_key hm ?_; clear hm; intro w10 g10 hm)
    | ((with_reducible refine at_op none (.store 23 (.tmp 10) (.tmp 26)) ?_); refine wpl_stw 0 (u8s E) hm rfl rfl rfl 32 sz_key (by simp [u8s_length]) (HEU.out) (u8s_one _) ?_; clear hm; intro w11 hm)
    | (go_at_call 31; refine (macRef_any E M _ _ HEB.out HMB.out (by rw [HEL.out]; omega) (by rw [HML.out]; omega) _ (old_all (hm.get 0 rfl) HEL.out (Nat.le_refl _)) (old_head (hm.get 1 rfl) HML.out hc)).mono ?_; rintro e w12 ⟨he, hb⟩; rw [HXX.out ()] at he; subst he; replace hm := hm.call hb; clear hb)
    | ((with_reducible refine at_op (some 11) (.alloc 22) ?_); refine wpl_alloc _ zero_b32 hm ?_; clear hm; intro w13 g11 hm)
    | ((with_reducible refine at_op none (.store 22 (.tmp 11) (.tmp 29)) ?_); refine wpl_stw 0 (u8s X) hm rfl rfl rfl 32 sz_b32 (by simp [u8s_length]) (HXU.out) (u8s_one _) ?_; clear hm; intro w14 hm)
    | ((with_reducible refine at_op (some 12) (.alloc 42) ?_); refine wpl_alloc _ zero_tag hm ?_; clear hm; intro w15 g12 hm))
  go_loopw [13] (fun vi wr => ∃ i : Nat, i ≤ 16 ∧ vi = .int .i64 i ∧ Mem w [] wr ((g12, u8s (cpTo 16 G i), 42) :: [(g11, u8s X, 22), (g10, u8s E, 23), (gm, u8s M ++ l, 5), (g8, u8s (List.replicate 16 0), 42), (g5, u8s ns, 30), (g4, u8s ks, 23)])) (fun vi _ => 16 - (intOf vi).toNat)
  case atStart => exact ⟨0, by omega, rfl, by rw [cpTo_zero]; exact hm⟩
  case round =>
    clear hm
    obtain ⟨i, hi, rfl, hm⟩ := hrel
    by_cases hlt : i < 16
    · have hii : (i : Int) < 16 := by omega
      obtain ⟨x, hx⟩ : ∃ x, x = G.getD i 0 := ⟨_, rfl⟩
      have HVX : Hid ((u8s X)[i]? = some (.int .u8 x)) := by show _ = _; rw [u8s_get _ _ (by rw [HXL.out]; omega), ← HXG.out i hlt, hx]
      have HST : Hid ((u8s (cpTo 16 G i)).set i (.int .u8 x) = u8s (cpTo 16 G (i + 1))) := by show _ = _; rw [u8s_set, hx, cpTo_set 16 G HGL.out i hlt]
      have HLN : Hid (i < (u8s (cpTo 16 G i)).length) := by show _ < _; rw [u8s_length, cpTo_length 16 G HGL.out i hi]; exact hlt
      clear hx
      go_wp2_with (first
        | ((with_reducible refine at_op (some 37) (.load 5 (.tmp 36)) ?_); refine wpl_ldc 1 i (.int .u8 x) hm rfl rfl ag_u8 (HVX.out) ?_)
        | ((with_reducible refine at_op none (.store 5 (.tmp 38) (.tmp 37)) ?_); go_must (refine wpl_stc 0 i (.int .u8 x) hm rfl rfl (rfl) sz_u8 (HLN.out) rfl rfl ?_); clear hm; intro wq hm))
      rw [List.set_cons_zero, HST.out] at hm
      go_roundw
      case rel => exact ⟨i + 1, by omega, by go_num, hm⟩
      case measure => simp [intOf]; omega
    · have hin : i = 16 := by omega
      subst hin
      rw [cpTo_full 16 G HGL.out] at hm
      go_wp2_with (first
        | ((with_reducible refine at_op (some 39) (.load 42 (.tmp 12)) ?_); refine wpl_ldw 0 hm rfl rfl _ un_tag rfl 16 sz_tag (HGU.out) ?_)
        | ((with_reducible refine at_op none (.store 42 (.tmp 8) (.tmp 39)) ?_); refine wpl_stw 4 (u8s G) hm rfl rfl rfl 16 sz_tag (by simp [u8s_length]) (HGU.out) (u8s_one _) ?_; clear hm; intro wr2 hm))
      exact ret_cell 4 hm rfl Tryd.results17 rfl _ un_tag rfl 16 sz_tag HGU.out rfl ⟨by rw [HGG.out ()], hm.below⟩
end Go.Proofs.YtbfccepddfinoaaDoor
