/- Terms put together of terms, as text; a region's end told by what it leaves. -/
import Derived.Test.YtbiinchmbclmcaaDoorTmSame
import Derived.Test.YtbiinchmbclmcaaDoorTmKnown
namespace Go.Proofs.YtbiinchmbclmcaaDoor
open Go Go.RowKit
set_option maxRecDepth 100000 in
theorem txt_two {k : Int} (hk : k = 3 ∨ k = 4) (a b : Tm) : txt (mkT k 0 [a, b]) = (((wd k ++ [40] ++ txt a) ++ [44]) ++ txt b) ++ [41] := by
  rcases hk with rfl | rfl
  · rw [txt_k (by decide) rfl]
    simp [hdT, txtK, nb, wd]
  · rw [txt_k (by decide) rfl]
    simp [hdT, txtK, nb, wd]
set_option maxRecDepth 100000 in
theorem txt_one (n : Int) (a : Tm) : txt (mkT 5 n [a]) = ((([100] ++ dig n) ++ [40]) ++ txt a) ++ [41] := by
  rw [txt_k (by decide) rfl]
  simp [hdT, txtK, nb, wd]
set_option maxRecDepth 100000 in
theorem ok_two {k : Int} (hk : k = 3 ∨ k = 4) {a b : Tm} (ha : okT a = true) (hb : okT b = true) : okT (mkT k 0 [a, b]) = true := by
  rcases hk with rfl | rfl <;> rw [ok_mk] <;> simp [ha, hb, okF, kn, nb]
set_option maxRecDepth 100000 in
theorem ok_one {n : Int} (h0 : 0 ≤ n) (h1 : n ≤ 99) {a : Tm} (ha : okT a = true) : okT (mkT 5 n [a]) = true := by
  rw [ok_mk]; simp [ha, okF, kn, nb, h0, h1]
set_option maxRecDepth 100000 in
theorem rd_of {t : Tm} (ho : okT t = true) (hc : cnt t ≤ 60) : rdT 60 60 (txt t) = some (t, [], 60 - cnt t) := by
  have := rdT_full 60 t ho 60 [] hc hc noD_nil
  rwa [List.append_nil] at this
set_option maxRecDepth 100000 in
theorem rd_cut {a b : Tm} (ha : okT a = true) (hb : okT b = true) (hc : cnt a + cnt b ≤ 59) : rdT 60 60 ((([40] ++ txt a) ++ [44]) ++ txt b) = none := by
  have e1 : ((([40] ++ txt a) ++ [44]) ++ txt b) = 40 :: (txt a ++ 44 :: txt b) := by simp
  have ek : kdOf (40 :: (txt a ++ 44 :: txt b)) = 4 := by simp [kdOf, Lib.hasPrefix]
  have pa := cnt_pos a
  have pb := cnt_pos b
  have h1 := rdT_full 59 a ha 59 (44 :: txt b) (by omega) (by omega) (noD_cons (by decide))
  have h2 := rdT_full 59 b hb (59 - cnt a) [] (by omega) (by omega) noD_nil
  rw [List.append_nil] at h2
  have hp : ∀ (c : UInt8) (r : List UInt8), Lib.hasPrefix (c :: r) [c] = true := fun c r => hp_of [c] r
  have e2 : rdK (rdT 59) 2 40 (40 :: (txt a ++ 44 :: txt b)) 59 = some ([a, b], [], 59 - cnt a - cnt b) := by
    rw [rdK, if_pos (hp 40 _)]
    show (match rdT 59 59 (txt a ++ 44 :: txt b) with
      | none => none
      | some (t, s2, r2) => match rdK (rdT 59) 1 44 s2 r2 with
        | none => none
        | some (l, s3, r3) => some (t :: l, s3, r3)) = _
    rw [h1]
    have e3 : rdK (rdT 59) 1 44 (44 :: txt b) (59 - cnt a) = some ([b], [], 59 - cnt a - cnt b) := by
      rw [rdK, if_pos (hp 44 _)]
      show (match rdT 59 (59 - cnt a) (txt b) with
        | none => none
        | some (t, s2, r2) => match rdK (rdT 59) 0 44 s2 r2 with
          | none => none
          | some (l, s3, r3) => some (t :: l, s3, r3)) = _
      rw [h2]
      rfl
    simp only [e3]
  rw [e1, rdT, if_neg (by decide), ek]
  show (match rdNum 4 (40 :: (txt a ++ 44 :: txt b)) with
    | none => none
    | some (n, s2) => if kn 4 = 0 then some (mkT 4 n [], s2, 59) else
      match rdK (rdT 59) 2 40 s2 59 with
      | none => none
      | some (l, s3, r3) => if Lib.hasPrefix s3 [41] then some (mkT 4 n l, s3.drop 1, r3) else none) = none
  have e4 : rdNum 4 (40 :: (txt a ++ 44 :: txt b)) = some (0, 40 :: (txt a ++ 44 :: txt b)) := rfl
  rw [e4]
  simp only [e2]
  rfl
set_option maxRecDepth 100000 in
theorem dig_small {k : Nat} (h : k < 10) : strOf [48 + ((k : Nat) : Int)] = mkS (dig (k : Int)) := by
  unfold strOf mkS dig
  rw [if_pos (by omega)]
  simp only [List.map_cons, List.map_nil]
  congr 4
set_option maxRecDepth 100000 in
theorem dig_great {k : Nat} (h : ¬ k < 10) : mkS (dig (k : Int)) = strOf [48 + ((k / 10 : Nat) : Int)] ++ strOf [48 + ((k % 10 : Nat) : Int)] := by
  have : ∀ x y : Int, strOf [x] ++ strOf [y] = mkS [UInt8.ofNat x.toNat, UInt8.ofNat y.toNat] := fun x y => by
    show mkS [_] ++ mkS [_] = _
    rw [mkS_append]; rfl
  rw [this]
  unfold dig
  rw [if_neg (by omega)]
  congr 3 <;> omega
/-- The frame behind a region: these slots hold these values. -/
def putL : Act → List (Nat × Value) → Act
  | a, [] => a
  | a, (t, v) :: l => putL (a.put (some t) v) l
set_option maxRecDepth 100000 in
theorem region_mid {P : Program} {c : Code} {R : Act → World → Prop} {a0 : Act} {w : World} (M : Act → Act → World → Prop) (h1 : ∀ K : Act → World → Prop, Hid (∀ a' w', M a0 a' w' → K a' w') → c.wp P (endsIn K) a0 w) (h2 : ∀ a' w', M a0 a' w' → R a' w') : c.wp P (endsIn R) a0 w :=
  wp_ends (M a0) (h1 _ fun _ _ h => h) h2
set_option maxRecDepth 100000 in
/-- Two may come up: each of them. -/
theorem anyH_two {P : Program} {md : Region.Mode} {ops : Array Oper} {R : Act → World → Prop} {T : World → Prop} {fuel : Nat} {listed : Array Bool} {a : Act} {w : World} (i j : Nat) {o p : Oper} (hr : Region.ready md ops listed = [i, j]) (hi : ops[i]? = some o) (hj : ops[j]? = some p) (hw : Region.wanted o (yielded ops a.tmps) = true) (hv : Region.wanted p (yielded ops a.tmps) = true)
    (h : ∀ K : Act → World → Prop, (∀ a' w', T w' → wpAnyH P md ops (endsIn R) T fuel (listed.setIfInBounds i true) a' w' → K a' w') → wpList P ops (endsIn K) [o] a w)
    (h' : ∀ K : Act → World → Prop, (∀ a' w', T w' → wpAnyH P md ops (endsIn R) T fuel (listed.setIfInBounds j true) a' w' → K a' w') → wpList P ops (endsIn K) [p] a w) : wpAnyH P md ops (endsIn R) T (fuel + 1) listed a w :=
  wpAnyH_all hr (by simp) (fun k hk => by
    simp only [List.mem_cons, List.not_mem_nil, or_false] at hk
    rcases hk with rfl | rfl
    · exact anyH_opW k hi hw h
    · exact anyH_opW k hj hv h')
set_option maxRecDepth 100000 in
theorem add_ok {z x y : List UInt8} (hz : z = x ++ y) (h : x.length + y.length ≤ 10000) : mkS z = mkS x ++ mkS y ∧ (mkS x).size + (mkS y).size ≤ 1000000000 := by
  refine ⟨by rw [hz]; exact (mkS_append x y).symm, ?_⟩
  rw [mkS_size, mkS_size]
  omega
set_option maxRecDepth 100000 in
theorem parse_built {k n : Int} {l : List Tm} {m : Nat} (z : List UInt8) (hz : z = txt (mkT k n l)) (hm : m = l.length) (ho : okT (mkT k n l) = true) (hc : cnt (mkT k n l) ≤ 60) (w : World) (hE : Esx w) (h10 : 10 ≤ w.heap.size) :
    Calls Tryd.prog 12 #[.string (mkS z)] w fun e w' => ∃ (p : Option Addr) (c : Nat), e = .returned (.tuple #[.agg [.int .i64 k, .int .i64 n, .slice p m c].toArray, .int .i64 0]) ∧ UX w.heap.size w'.heap.size w' (.slice p m c) l ∧ Below w.heap.size w w' := by
  subst hz
  have hl : (txt (mkT k n l)).length ≤ 100000 := by have := txt_len _ ho; omega
  refine (parse_yesX _ w hl hE h10 _ _ (rd_of ho hc)).mono ?_
  rintro e w' ⟨s, he, hux, hb⟩
  rw [mkT_l] at hux
  obtain ⟨p, c, hs, _⟩ := hux.len
  rw [← hm] at hs
  subst hs
  exact ⟨p, c, he, hux, hb⟩
set_option maxRecDepth 100000 in
theorem built_same {W wE w' : World} {t : Tm} {s : Value} {p0 : Option Addr} {c0 : Nat} {z0 : List Nat} (hs : SlT (fun _ => True) W s t.l) (h1 : Below W.heap.size W wE) (h3 : SlX wE (.slice p0 t.l.length c0) t.l z0) (h4 : z0.Nodup) (h5 : ∀ q ∈ z0, W.heap.size ≤ q ∧ q < wE.heap.size) (hc : cnt t ≤ 60) (hW : Below wE.heap.size wE w') :
    Calls Tryd.prog 9 #[.agg (tcs t (.slice p0 t.l.length c0)).toArray, .agg (tcs t s).toArray] w' fun e w'' => e = .returned (.bool true) ∧ Below w'.heap.size w' w'' := by
  obtain ⟨ps, cps, rfl, _⟩ := hs.len
  have z1 := h1.size
  have z2 := hW.size
  have hb : Below W.heap.size W w' := h1.trans (hW.mono z1)
  exact same_x t t p0 ps _ _ c0 cps z0 true w' (by omega) (h3.keep (fun q hq => hW.block q (h5 q hq).2)) h4 (SlT.lts hs |>.below hb) (fun q hq => ⟨by omega, fun hm => by have := (h5 q hm).1; omega⟩) (by simp)
set_option maxRecDepth 100000 in
theorem UX.elemB {w : World} {lo hi : Nat} {v : Value} {l : List Tm} (h : UX lo hi w v l) {i : Nat} {x : Tm} (hx : l[i]? = some x) : ∃ b cap s zx, v = .slice (some ⟨b, 0, none⟩) l.length cap ∧ (w.cell? ⟨b, i * 3, none⟩ = some (.int .i64 x.k) ∧ w.cell? ⟨b, i * 3 + 1, none⟩ = some (.int .i64 x.n) ∧ w.cell? ⟨b, i * 3 + 2, none⟩ = some s) ∧ SlX w s x.l zx ∧ zx.Nodup ∧ ∀ q ∈ zx, lo ≤ q ∧ q < w.heap.size := by
  obtain ⟨xs, hs, hn, hb⟩ := h
  obtain ⟨b, cap, y1, y, y2, s, hv, rfl, c0, c1, c2, hx2⟩ := hs.cells hx
  refine ⟨b, cap, s, y, hv, ⟨c0, c1, c2⟩, hx2, ?_, fun q hq => ⟨(hb q (List.mem_cons_of_mem _ (List.mem_append.2 (Or.inr (List.mem_append.2 (Or.inl hq)))))).1, ?_⟩⟩
  · have h1 := (List.nodup_cons.1 hn).2
    have h2 := (List.nodup_append.1 h1).2.1
    exact (List.nodup_append.1 h2).1
  · obtain ⟨ca, e, _⟩ := hx2.plain q hq
    exact (Array.getElem?_eq_some_iff.1 e).1
set_option maxRecDepth 100000 in
/-- An element of a list of trees that lie apart: its cells, and that it is the same as the tree it was made of. -/
theorem built_elem {lo hi : Nat} {W wE : World} {p : Option Addr} {m c : Nat} {l : List Tm} (h : UX lo hi wE (.slice p m c) l) (hlo : W.heap.size ≤ lo) (h1 : Below W.heap.size W wE) {i : Nat} {t : Tm} {s : Value} (hi : l[i]? = some t) (hc : cnt t ≤ 60) (hs : SlT (fun _ => True) W s t.l) :
    ∃ b q n d, p = some ⟨b, 0, none⟩ ∧ (∀ w', Below wE.heap.size wE w' → w'.cell? ⟨b, i * 3, none⟩ = some (.int .i64 t.k) ∧ w'.cell? ⟨b, i * 3 + 1, none⟩ = some (.int .i64 t.n) ∧ w'.cell? ⟨b, i * 3 + 2, none⟩ = some (.slice q n d)) ∧
      ∀ w', Below wE.heap.size wE w' → Calls Tryd.prog 9 #[.agg (tcs t (.slice q n d)).toArray, .agg (tcs t s).toArray] w' fun e w'' => e = .returned (.bool true) ∧ Below w'.heap.size w' w'' := by
  obtain ⟨b, cap, s0, zx, hv, hcx, hx, hz, hb⟩ := h.elemB hi
  obtain ⟨q, d, rfl, _⟩ := hx.len
  simp only [Value.slice.injEq] at hv
  exact ⟨b, q, _, d, hv.1, fun w' hW => ⟨(hW.cell (p := ⟨b, _, none⟩) (block_lt_of_cell hcx.1)).trans hcx.1, (hW.cell (p := ⟨b, _, none⟩) (block_lt_of_cell hcx.2.1)).trans hcx.2.1, (hW.cell (p := ⟨b, _, none⟩) (block_lt_of_cell hcx.2.2)).trans hcx.2.2⟩,
    fun w' hW => built_same hs h1 hx hz (fun r hr => ⟨Nat.le_trans hlo (hb r hr).1, (hb r hr).2⟩) hc hW⟩
def AddOk (z x y : List UInt8) : Prop := mkS z = mkS x ++ mkS y ∧ (mkS x).size + (mkS y).size ≤ 1000000000
set_option maxRecDepth 100000 in
theorem chain_two (f la lb : List UInt8) (hf : f.length ≤ 5) (ha : la.length ≤ 500) (hb : lb.length ≤ 500) : ∃ s1 s2 s3 s4 : List UInt8, s3 = ((f ++ la) ++ [44]) ++ lb ∧ s4 = (((f ++ la) ++ [44]) ++ lb) ++ [41] ∧ s3.length ≤ 100000 ∧ AddOk s1 f la ∧ AddOk s2 s1 [44] ∧ AddOk s3 s2 lb ∧ AddOk s4 s3 [41] := by
  refine ⟨f ++ la, (f ++ la) ++ [44], ((f ++ la) ++ [44]) ++ lb, _, rfl, rfl, ?_, add_ok rfl ?_, add_ok rfl ?_, add_ok rfl ?_, add_ok rfl ?_⟩ <;> (first | omega | (simp only [List.length_append, List.length_cons, List.length_nil]; omega))
set_option maxRecDepth 100000 in
theorem chain_one (ld la : List UInt8) (hd : ld.length ≤ 2) (ha : la.length ≤ 500) : ∃ s1 s2 s3 s4 : List UInt8, s4 = ((([100] ++ ld) ++ [40]) ++ la) ++ [41] ∧ AddOk s1 [100] ld ∧ AddOk s2 s1 [40] ∧ AddOk s3 s2 la ∧ AddOk s4 s3 [41] := by
  refine ⟨[100] ++ ld, ([100] ++ ld) ++ [40], (([100] ++ ld) ++ [40]) ++ la, _, rfl, add_ok rfl ?_, add_ok rfl ?_, add_ok rfl ?_, add_ok rfl ?_⟩ <;> (first | omega | (simp only [List.length_append, List.length_cons, List.length_nil]; omega))
set_option maxRecDepth 100000 in
theorem nums_small {k : Nat} (h : k < 10) : ∃ c : Int, strOf [c] = mkS (dig (k : Int)) ∧ (k : Int) % 10 = (k : Int) ∧ Int.tmod (k : Int) 10 = (k : Int) ∧ 48 + (k : Int) = c ∧ IntKind.i64.wrap c = c ∧ IntKind.u8.wrap c = c ∧ wrap64 c = c ∧ c % 256 = c ∧ ¬ (9 : Int) < (k : Int) := by
  refine ⟨48 + (k : Int), dig_small h, by omega, ?_, rfl, wrapi _ (by omega) (by omega), ?_, ?_, by omega, by omega⟩
  · rw [Int.tmod_eq_emod_of_nonneg (by omega)]; omega
  · simp [IntKind.wrap, IntKind.bits, IntKind.signed]; omega
  · unfold wrap64; omega
set_option maxRecDepth 100000 in
theorem nums_great {k : Nat} (h : ¬ k < 10) (h2 : k < 100) : ∃ (r1 r2 : Nat) (c d : Int), (mkS (dig (k : Int)) = strOf [d] ++ strOf [c] ∧ (strOf [d]).size + (strOf [c]).size ≤ 1000000000) ∧ ((k : Int) % 10 = (r1 : Int) ∧ Int.tmod (k : Int) 10 = (r1 : Int) ∧ 48 + (r1 : Int) = c ∧ IntKind.i64.wrap c = c ∧ IntKind.u8.wrap c = c ∧ wrap64 c = c ∧ c % 256 = c) ∧
    ((k : Int) / 10 = (r2 : Int) ∧ Int.tdiv (k : Int) 10 = (r2 : Int) ∧ 48 + (r2 : Int) = d ∧ IntKind.i64.wrap d = d ∧ IntKind.u8.wrap d = d ∧ wrap64 d = d ∧ d % 256 = d) ∧ IntKind.i64.wrap (r2 : Int) = (r2 : Int) ∧ wrap64 (r2 : Int) = (r2 : Int) ∧ (9 : Int) < (k : Int) := by
  have e1 : k % 10 < 10 := by omega
  have e2 : k / 10 < 10 := by omega
  have e3 : (k : Int) % 10 = ((k % 10 : Nat) : Int) := by omega
  have e4 : (k : Int) / 10 = ((k / 10 : Nat) : Int) := by omega
  have e5 := dig_great h
  generalize k % 10 = r1 at e1 e3 e5
  generalize k / 10 = r2 at e2 e4 e5
  refine ⟨r1, r2, 48 + (r1 : Int), 48 + (r2 : Int), ⟨e5, by rw [strOf_size, strOf_size]; simp⟩, ⟨e3, ?_, rfl, wrapi _ (by omega) (by omega), ?_, ?_, by omega⟩, ⟨e4, ?_, rfl, wrapi _ (by omega) (by omega), ?_, ?_, by omega⟩, wrapi _ (by omega) (by omega), ?_, by omega⟩
  · rw [Int.tmod_eq_emod_of_nonneg (by omega)]; exact e3
  · simp [IntKind.wrap, IntKind.bits, IntKind.signed]; omega
  · unfold wrap64; omega
  · rw [Int.tdiv_eq_ediv_of_nonneg (by omega)]; exact e4
  · simp [IntKind.wrap, IntKind.bits, IntKind.signed]; omega
  · unfold wrap64; omega
  · unfold wrap64; omega
set_option maxRecDepth 100000 in
theorem wrap_small {k : Nat} (h : k ≤ 99) : wrap64 (k : Int) = (k : Int) := by unfold wrap64; omega
set_option maxRecDepth 100000 in
theorem sum_small {a b : Nat} (ha : a ≤ 61) (hb : b ≤ 61) : IntKind.i64.wrap ((a : Int) + (b : Int)) = (a : Int) + (b : Int) := wrapi _ (by omega) (by omega)
set_option maxRecDepth 100000 in
theorem min_small {x y : Nat} (h : x + y ≤ 59) : ((min 61 x : Nat) : Int) + ((min 61 y : Nat) : Int) ≤ 59 := by omega
set_option maxRecDepth 100000 in
theorem rem_small {n : Int} {k : Nat} (h0 : 0 ≤ n) (h : n % 100 = (k : Int)) : ((0 : Int) ≤ (k : Int) ∧ (k : Int) ≤ 99) ∧ k ≤ 99 ∧ n.tmod 100 = (k : Int) := by
  refine ⟨⟨by omega, by omega⟩, by omega, ?_⟩
  rw [Int.tmod_eq_emod_of_nonneg h0]
  exact h
end Go.Proofs.YtbiinchmbclmcaaDoor
