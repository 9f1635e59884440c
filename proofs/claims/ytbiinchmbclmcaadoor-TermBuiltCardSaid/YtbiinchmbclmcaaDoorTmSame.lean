/- Package term: Same, where the first tree shares nothing with anything. -/
import Derived.Deep.LoopGhost
import Derived.Test.YtbiinchmbclmcaaDoorTmSm
namespace Go.Proofs.YtbiinchmbclmcaaDoor
open Go Go.RowKit
set_option maxRecDepth 100000 in
theorem run_bslP {P : Program} (w : World) {t elem : TypeId} (z l : List Value) (hu : P.underlying t = some (.slice elem)) (hi : (P.info? elem).map (fun i => (i.zero, i.size)) = some (some (.agg z.toArray), 2)) (hz : z.length = 2) (hl : l.length = 2) :
    (Instr.buildSlice t 1 #[(0, .agg l.toArray)]).run P w = .ok (.slice (some ⟨w.heap.size, 0, none⟩) 1 1) (w.alloc (.cells l.toArray elem)) := by
  obtain ⟨hz1, hs1⟩ := zero_of_info hi
  cases hq : P.info? elem with
  | none => simp [hq] at hi
  | some qq =>
    have hs : qq.size = 2 := by simpa [hq] using hs1
    have e : ∀ cs : Array Value, cs.size = 2 → List.foldl (fun (cs : Array Value) (x : Value × Nat) => cs.setIfInBounds x.2 x.1) cs l.zipIdx = l.toArray := by
      intro cs hcs
      apply Array.ext_getElem?
      intro i
      rw [fold_set l 0 cs i]
      by_cases h : i < 2
      · rw [if_pos (by omega)]; simp
      · rw [if_neg (by omega), Array.getElem?_eq_none (by omega), Array.getElem?_eq_none (by simp; omega)]
    simp [Instr.buildSlice, run_underlying hu, sizeOf, typeInfo, hq, hs, hz1, Value.cells, Instr.fill, hl, hz, newRow, newObj]
    rw [e _ (by simp)]
    rfl
section
variable {ops : Array Oper} {rest : List Oper} {a : Act} {w w0 : World} {Q : Exit → Act → World → Prop} {dst : Option Tmp} {typ : TypeId} {pos : String} {aft : Array Edge} {gd : Option (Nat × Bool)} {S : List Nat} {rows : List (Nat × List Value × TypeId)}
set_option maxRecDepth 100000 in
theorem wpl_bslTk {x : Operand} (t : Tm) (s : Value) (hw : Region.wanted { dst := dst, op := .buildSlice 22 1 #[(0, x)], type := typ, pos := pos, after := aft, guard := gd } (yielded ops a.tmps) = true) (hx : a.eval x = .agg (tcs t s).toArray) (hm : Mem w0 S w rows)
    (h : ∀ w' g, Below w.heap.size w w' → w.heap.size ≤ g → Mem w0 S w' ((g, tcs t s, 24) :: rows) → wpList Tryd.prog ops Q rest (a.put dst (.slice (some ⟨g, 0, none⟩) 1 1)) w') :
    wpList Tryd.prog ops Q ({ dst := dst, op := .buildSlice 22 1 #[(0, x)], type := typ, pos := pos, after := aft, guard := gd } :: rest) a w := by
  refine wpList_step fun K hK => ?_
  rw [if_pos hw]
  have hh := hK _ _ (h _ _ ((Below.refl _ _).alloc (Nat.le_refl _) _) (Nat.le_refl _) (hm.alloc (tcs t s) 24))
  unfold Oper.wp execOp
  simp only [List.map_toArray, List.map_cons, List.map_nil, hx, run_bslK (P := Tryd.prog) w _ (tcs t s) un_terms info_term rfl rfl, Sem.run_bind, Sem.run_pure, Result.andThen_ok]
  exact hh
set_option maxRecDepth 100000 in
theorem wpl_bslP {x : Operand} (p q : Value) (hw : Region.wanted { dst := dst, op := .buildSlice 45 1 #[(0, x)], type := typ, pos := pos, after := aft, guard := gd } (yielded ops a.tmps) = true) (hx : a.eval x = .agg [p, q].toArray) (hm : Mem w0 S w rows)
    (h : ∀ w' g, Below w.heap.size w w' → w.heap.size ≤ g → Mem w0 S w' ((g, [p, q], 44) :: rows) → wpList Tryd.prog ops Q rest (a.put dst (.slice (some ⟨g, 0, none⟩) 1 1)) w') :
    wpList Tryd.prog ops Q ({ dst := dst, op := .buildSlice 45 1 #[(0, x)], type := typ, pos := pos, after := aft, guard := gd } :: rest) a w := by
  refine wpList_step fun K hK => ?_
  rw [if_pos hw]
  have hh := hK _ _ (h _ _ ((Below.refl _ _).alloc (Nat.le_refl _) _) (Nat.le_refl _) (hm.alloc [p, q] 44))
  unfold Oper.wp execOp
  simp only [List.map_toArray, List.map_cons, List.map_nil, hx, run_bslP (P := Tryd.prog) w _ [p, q] un_prs info_pr rfl rfl, Sem.run_bind, Sem.run_pure, Result.andThen_ok]
  exact hh
set_option maxRecDepth 100000 in
theorem exec_cut {x hi : Operand} {g len n cap : Nat} {ih : Int} (hn : n ≤ cap) (hx : a.eval x = .slice (some ⟨g, 0, none⟩) len cap) (hhi : a.eval hi = .int .i64 ih) (hih : ih = (n : Int)) :
    (execOp a.eval { dst := dst, op := .slice 45 x none (some hi) none, type := typ, pos := pos, after := aft, guard := gd }).run Tryd.prog w = .ok (.value (.slice (some ⟨g, 0, none⟩) n cap)) w := by
  subst hih
  unfold execOp
  simp only [hx, hhi, Option.map_some, Option.map_none, Instr.sliceAt, Sem.run_bind, run_underlying un_prs, Result.andThen_ok, run_cut hn, Sem.run_pure]
end
set_option maxRecDepth 100000 in
theorem same_join {F : Nat → Prop} {w0 w : World} {m : Nat} {ks : List Ky} {v : Value} {cs : List Value} {g7 b0 : Nat} {vx vy : Value} {l u : List Tm} {i : Nat} {P : List Pd2} {y2 ys : List Nat} {b1 c1 mx b3 o3 c3 : Nat} {x y : List Tm} (h : Si F w0 w m ks v cs g7 b0 vx vy l u i ((b1 :: ys) ++ y2) P) (hsx : SlX w (.slice (some ⟨b1, 0, none⟩) mx c1) x (b1 :: ys)) (hsy : SlT F w (.slice (some ⟨b3, o3, none⟩) mx c3) y) (h0 : 0 < mx) :
    Calls Tryd.prog 18 #[.map (some m), kyv (b1, 0, mx), kyv (b3, o3, mx)] w fun e w' => e = .returned (.bool true) ∧ KeysAt w' m (ks ++ [(b1, 0, mx)]) ∧ Upd m w w' := by
  have hb1 : b1 ∈ ((b1 :: ys) ++ y2) ++ ahead P := by simp
  obtain ⟨ca, e1, e2⟩ := hsx.plain b1 (by simp)
  have hF3 : F b3 ∧ Filled w b3 := by
    obtain ⟨p, cap, cs', hv, hc, htc, hs⟩ := hsy
    simp only [Value.slice.injEq] at hv
    obtain ⟨hv1, hv2, _⟩ := hv
    obtain ⟨b, o, hp, hFb, hseg⟩ := hs (by omega)
    rw [hp] at hv1
    simp only [Option.some.injEq, Addr.mk.injEq] at hv1
    obtain ⟨rfl, rfl, _⟩ := hv1
    have hl := htc.len
    obtain ⟨z, hz⟩ : ∃ z, cs'[0]? = some z := ⟨cs'[0]'(by omega), by simp⟩
    have hcell := hseg 0 z hz
    refine ⟨hFb, ?_⟩
    unfold World.cell? at hcell
    split at hcell
    · next cells t fr he =>
      refine ⟨cells, t, fr, he, ?_⟩
      have := (Array.getElem?_eq_some_iff.1 (by simpa using hcell)).1
      omega
    · cases hcell
  exact join_yes m ks (b1, 0, mx) (b3, o3, mx) w h.sm.keys h.sm.plain (fun q hq => by rw [List.mem_singleton.1 hq]; exact ⟨ca, _, e1⟩) ⟨ca, _, _, e1, e2⟩ hF3.2
    (fun q hq he => (h.sm.kn q hq).1 (by rw [← he]; simp)) (fun q hq he => (h.sm.kn q hq).2.1 (by rw [← he]; exact hF3.1)) (fun he => (h.sm.al b1 hb1).1 (by rw [show b1 = b3 from he]; exact hF3.1))
set_option maxRecDepth 100000 in
theorem same_push {F : Nat → Prop} {w0 w : World} {m : Nat} {ks : List Ky} {v : Value} {cs : List Value} {g7 b0 : Nat} {vx vy : Value} {l u : List Tm} {i : Nat} {P : List Pd2} {y2 ys : List Nat} {b1 c1 mx : Nat} {wA wB wC wD : World} {x y : Tm} {sy v' : Value} (hmx : mx = x.l.length) (hmy : mx = y.l.length) (h : Si F w0 w m ks v cs g7 b0 vx vy l u i ((b1 :: ys) ++ y2) P) (hc : Cu F w b0 vy l u (i + 1) y2)
    (hsx : SlX w (.slice (some ⟨b1, 0, none⟩) mx c1) x.l (b1 :: ys)) (hsy : SlT F w sy y.l) (hpos : 0 < mx) (hA : Below w.heap.size w wA)
    (hk : KeysAt wB m (ks ++ [(b1, 0, mx)])) (hu : Upd m wA wB) (hb : Below wB.heap.size wB wC)
    (ho : wD.ownsRow w0.heap.size 44 2 v' (P.length + 1) (cs ++ [.slice (some ⟨b1, 0, none⟩) mx c1, sy])) (hg : wC.grownBy wD v.ownBlock) (hl : v'.ownBlock = v.ownBlock ∨ v'.ownBlock = some wC.heap.size) :
    Si F w0 wD m (ks ++ [(b1, 0, mx)]) v' (cs ++ [.slice (some ⟨b1, 0, none⟩) mx c1, sy]) g7 b0 vx vy l u (i + 1) y2 (P ++ [(x.l, y.l, b1 :: ys)]) := by
  subst hmx
  exact h.push2 hc hsx hsy hmy hpos hA hk hu hb ho hg hl
set_option maxHeartbeats 16000000 in
set_option maxRecDepth 100000 in
theorem same_x {F : Nat → Prop} (t u : Tm) (p1 p2 : Option Addr) (n1 n2 c1 c2 : Nat) (xs : List Nat) (r : Bool) (w : World) (hc : cnt t ≤ 1000) (hxs : SlX w (.slice p1 n1 c1) t.l xs) (hnd : xs.Nodup) (hv : SlT F w (.slice p2 n2 c2) u.l) (hF : ∀ b, F b → b < w.heap.size ∧ b ∉ xs) (hr : r = true ↔ t = u) :
    Calls Tryd.prog 9 #[.agg (tcs t (.slice p1 n1 c1)).toArray, .agg (tcs u (.slice p2 n2 c2)).toArray] w fun e w' => e = .returned (.bool r) ∧ Below w.heap.size w w' := by
  have hm := Mem.start w
  have HXS : Hid (SlX w (.slice p1 n1 c1) t.l xs) := hxs
  have HND : Hid (xs.Nodup) := hnd
  have HV : Hid (SlT F w (.slice p2 n2 c2) u.l) := hv
  have HF : Hid (∀ b, F b → b < w.heap.size ∧ b ∉ xs) := hF
  have HR : Hid (r = true ↔ t = u) := hr
  have HC : Hid (cnt t ≤ 1000) := hc
  clear hxs hnd hv hF hr hc
  go_enter Tryd.func9, Tryd.ntmps9
  go_wp2_with (first
    | ((with_reducible refine at_op (some 2) (.box 24 (.tmp 0)) ?_); go_must (refine wpl_box (tcs t (.slice p1 n1 c1)) rfl hm ?_); clear hm; intro w1 g1 hm)
    | ((with_reducible refine at_op (some 3) (.box 24 (.tmp 1)) ?_); go_must (refine wpl_box (tcs u (.slice p2 n2 c2)) rfl hm ?_); clear hm; intro w2 g2 hm)
    | ((with_reducible refine at_op (some 11) (.makeMap 43 none) ?_); go_must (refine wpl_mkmap (Mem.start w2) ?_); intro w3 m hmap hnew hm3; have HMAP : Hid (w3.heap[m]? = some (.map #[] 0)) := hmap; have HMW : Hid (w.heap.size ≤ m) := Nat.le_trans hm.size hnew; have HB3 : Hid (Below w.heap.size w w3) := hm.below.trans (hm3.below.mono hm.size); replace hm := hm.call hm3.below; clear hmap hnew hm3)
    | ((with_reducible refine at_op (some 12) (.load 24 (.tmp 2)) ?_); go_must (refine wpl_ldw 1 hm rfl rfl _ Tryd.underlying24 rfl 3 sz_term rfl ?_))
    | ((with_reducible refine at_op (some 13) (.buildSlice 22 1 #[(0, .tmp 12)]) ?_); go_must (refine wpl_bslTk t (.slice p1 n1 c1) rfl rfl hm ?_); clear hm; intro w4 g4 hb4 hg4 hm; have HB4 : Hid (Below w3.heap.size w3 w4) := hb4; have HG4 : Hid (w3.heap.size ≤ g4) := hg4; have HR4 : Hid (Row w4 g4 (tcs t (.slice p1 n1 c1)) 24) := hm.get 0 rfl; clear hb4 hg4)
    | ((with_reducible refine at_op (some 14) (.load 24 (.tmp 3)) ?_); go_must (refine wpl_ldw 1 hm rfl rfl _ Tryd.underlying24 rfl 3 sz_term rfl ?_))
    | ((with_reducible refine at_op (some 15) (.buildSlice 22 1 #[(0, .tmp 14)]) ?_); go_must (refine wpl_bslTk u (.slice p2 n2 c2) rfl rfl hm ?_); clear hm; intro w5 g5 hb5 hg5 hm; have HB5 : Hid (Below w4.heap.size w4 w5) := hb5; have HG5 : Hid (w4.heap.size ≤ g5) := hg5; have HR5 : Hid (Row w5 g5 (tcs u (.slice p2 n2 c2)) 24) := hm.get 0 rfl; clear hb5 hg5)
    | ((with_reducible refine at_op (some 17) (.buildSlice 45 1 #[(0, .tmp 16)]) ?_); go_must (refine wpl_bslP (.slice (some ⟨g4, 0, none⟩) 1 1) (.slice (some ⟨g5, 0, none⟩) 1 1) rfl rfl hm ?_); clear hm; intro w6 g6 hb6 hg6 hm; have HSM : Hid (Sm (fun b => F b ∨ b = g5) w w6 m [] (.slice (some ⟨g6, 0, none⟩) 1 1) [.slice (some ⟨g4, 0, none⟩) 1 1, .slice (some ⟨g5, 0, none⟩) 1 1] [] [([t], [u], g4 :: xs)]) := same_start HXS.out HND.out HV.out HF.out HB3.out HMAP.out HMW.out HB4.out HG4.out HR4.out HB5.out HG5.out HR5.out hb6 hg6 (hm.get 0 rfl); clear hb6 hg6 hm))
  clear HXS HND HV HF HB3 HMAP HMW HB4 HG4 HR4 HB5 HG5 HR5
  go_loopg [6] (cnt t) (fun gq v6 wr => ∃ (ks : List Ky) (P : List Pd2) (cs : List Value), Hid (Sm (fun b => F b ∨ b = g5) w wr m ks v6 cs [] P) ∧ Hid (t = u ↔ PEq P) ∧ Hid (wtP P = gq) ∧ Hid (gq ≤ cnt t))
  case atStart => exact ⟨[], [([t], [u], g4 :: xs)], _, HSM.out, by show _ ↔ _; simp [PEq], by show wtP _ = _; simp [wtP, wt], Nat.le_refl _⟩
  case round =>
    clear HSM
    obtain ⟨ks, P, cs, HS, HQ, HW, HL⟩ := hrel
    rcases List.eq_nil_or_concat P with hP | ⟨P0, pp, hP⟩
    · subst hP
      obtain ⟨p6, c6, hv6⟩ : ∃ p c, u6 = .slice p 0 c := by
        obtain ⟨p, c, h1, _⟩ := SlV.len (own_sl HS.out.own)
        exact ⟨p, c, h1⟩
      subst hv6
      have HRT : Hid (r = true) := HR.out.2 (HQ.out.2 (fun p hp => by cases hp))
      have HBE : Hid (Below w.heap.size w wr) := HS.out.bel
      clear HS HQ HW HL
      go_wp2_with fail
      go_ret
      exact ⟨(by rw [HRT.out]; rfl), HBE.out⟩
    · rw [List.concat_eq_append] at hP
      obtain ⟨l, u2, xs2⟩ := pp
      subst hP
      obtain ⟨n, hn⟩ : ∃ n, n = P0.length := ⟨_, rfl⟩
      obtain ⟨bv, cv, hv6⟩ : ∃ b c, u6 = .slice (some ⟨b, 0, none⟩) (n + 1) c := by
        have h := HS.out.own
        rw [List.length_append, List.length_singleton, ← hn] at h
        exact own_form h
      subst hv6
      obtain ⟨cs0, b0, c0, A, vy, hcs, hcl, hc1, hc2, hlen, hpos, hsy, hmk⟩ := HS.out.pop hn.symm
      have hncv : n ≤ cv := by
        obtain ⟨_, h2⟩ := HS.out.own
        rcases h2 with ⟨h3, _⟩ | ⟨g', cap', cur, h3, _, _, h4, _⟩
        · cases h3
        · simp only [Value.slice.injEq] at h3
          simp only [List.length_append, List.length_singleton] at h4
          omega
      obtain ⟨p2y, c2y, hvy, _⟩ := hsy.len
      obtain ⟨nl, hnl⟩ : ∃ nl, nl = l.length := ⟨_, rfl⟩
      rw [← hlen, ← hnl] at hvy
      rw [← hnl] at hc1 hmk hlen hpos
      subst hvy
      obtain ⟨b2, o2, hp2⟩ := hsy.at hpos
      subst hp2
      have HMK : Hid (∀ w' g7, Below wr.heap.size wr w' → wr.heap.size ≤ g7 → Row w' g7 [.slice (some ⟨b0, 0, none⟩) nl c0, .slice (some ⟨b2, o2, none⟩) nl c2y] 44 → Si (fun b => F b ∨ b = g5) w w' m ks (.slice (some ⟨bv, 0, none⟩) n cv) cs0 g7 b0 (.slice (some ⟨b0, 0, none⟩) nl c0) (.slice (some ⟨b2, o2, none⟩) nl c2y) l u2 0 A P0) := hmk
      have HNL : Hid (∀ _ : Unit, nl = l.length ∧ nl = u2.length) := fun _ => ⟨hnl, hlen⟩
      have HW1 : Hid (wtP P0 + wt l = gk) := by
        have := HW.out
        rw [wtP_snoc] at this
        exact this
      have HQ1 : Hid (t = u ↔ PEq P0 ∧ l.drop 0 = u2.drop 0) := by
        have := HQ.out
        rw [PEq.snoc] at this
        exact this
      have hn4 : P0.length ≤ 100000 := by
        have h1 := pos_wt (P := P0) (fun p hp => HS.out.pos p (List.mem_append.2 (Or.inl hp)))
        have h2 := HW1.out
        have h3 := HL.out
        have h4 := HC.out
        omega
      rw [← hn] at hn4
      obtain ⟨nv, hnv⟩ : ∃ nv, nv = n + 1 := ⟨_, rfl⟩
      have hgt : (0 : Int) < (nv : Int) := by omega
      have hw1 : IntKind.i64.wrap ((nv : Int) - 1) = (n : Int) := (wrapi _ (by omega) (by omega)).trans (by omega)
      have hlt1 : n < nv := by omega
      rw [← hnv]
      have HC1 : Hid (wr.cell? ⟨bv, n * 2, none⟩ = some (.slice (some ⟨b0, 0, none⟩) nl c0)) := hc1
      have HC2 : Hid (wr.cell? ⟨bv, n * 2 + 1, none⟩ = some (.slice (some ⟨b2, o2, none⟩) nl c2y)) := hc2
      have HPOS : Hid (0 < nl) := hpos
      have hm := Mem.start wr
      clear hcs hcl hc1 hc2 hlen hsy hmk HS HQ HW hnl hn hnv hpos
      go_wp2_with (first
        | ((with_reducible refine at_op (some 25) (.indexAddr 45 (.tmp 21) (.tmp 24)) ?_); go_must (refine wpl_execG (.pointer (some ⟨bv, n * 2, none⟩)) rfl (exec_ixP n rfl rfl rfl hlt1) ?_))
        | ((with_reducible refine at_op (some 26) (.load 44 (.tmp 25)) ?_); go_must (refine wpl_execG (.agg [.slice (some ⟨b0, 0, none⟩) nl c0, .slice (some ⟨b2, o2, none⟩) nl c2y].toArray) rfl (exec_ldP rfl HC1.out HC2.out) ?_))
        | ((with_reducible refine at_op (some 7) (.alloc 44) ?_); go_must (refine wpl_alloc _ zero_pr hm ?_); clear hm; intro w8 g7 hm)
        | ((with_reducible refine at_op none (.store 44 (.tmp 7) (.tmp 26)) ?_); go_must (refine wpl_stw 0 [.slice (some ⟨b0, 0, none⟩) nl c0, .slice (some ⟨b2, o2, none⟩) nl c2y] hm rfl rfl rfl 2 sz_pr rfl rfl (by intro z hz; simp only [List.mem_cons, List.not_mem_nil, or_false] at hz; rcases hz with rfl | rfl <;> rfl) ?_); clear hm; intro w9 hm; have HSI0 : Hid (Si (fun b => F b ∨ b = g5) w w9 m ks (.slice (some ⟨bv, 0, none⟩) n cv) cs0 g7 b0 (.slice (some ⟨b0, 0, none⟩) nl c0) (.slice (some ⟨b2, o2, none⟩) nl c2y) l u2 0 A P0) := HMK.out w9 g7 hm.below (by have h2 := hm.fresh (g7, _, _) (List.mem_cons_self ..); simpa using h2) (hm.get 0 rfl))
        | ((with_reducible refine at_op (some 31) (.slice 45 (.tmp 27) none (some (.tmp 30)) none) ?_); go_must (refine wpl_execG (.slice (some ⟨bv, 0, none⟩) n cv) rfl (exec_cut hncv rfl rfl rfl) ?_))
        | ((with_reducible refine at_op (some 33) (.load 22 (.tmp 32)) ?_); go_must (refine wpl_execG (.slice (some ⟨b0, 0, none⟩) nl c0) rfl (exec_ldx (.slice (some ⟨b0, 0, none⟩) nl c0) (Mem.cell hm 0 rfl 0) rfl ag_terms) ?_)))
      clear hm HMK HC1 HC2 hgt hw1 hlt1 hncv
      have HIN : Hid (t = u ↔ PEq P0 ∧ l.drop 0 = u2.drop 0) := HQ1.out
      clear HQ1
      go_loopw [35, 6] (fun vi v7 wr => ∃ (k : Nat) (ks2 : List Ky) (P : List Pd2) (cs2 : List Value) (A2 : List Nat), vi = .int .i64 (k : Int) ∧ k ≤ nl ∧ Hid (Si (fun b => F b ∨ b = g5) w wr m ks2 v7 cs2 g7 b0 (.slice (some ⟨b0, 0, none⟩) nl c0) (.slice (some ⟨b2, o2, none⟩) nl c2y) l u2 k A2 P) ∧ Hid (t = u ↔ PEq P ∧ l.drop k = u2.drop k) ∧ Hid (wtP P + wt (l.drop k) + k ≤ gk)) (fun vi _ _ => nl - (intOf vi).toNat)
      case atStart => exact ⟨0, ks, P0, cs0, A, rfl, Nat.zero_le _, HSI0.out, HIN.out, by show _ ≤ _; have := HW1.out; rw [List.drop_zero]; omega⟩
      case round =>
        clear HSI0 HIN
        obtain ⟨k, ks2, P, cs2, A2, rfl, hk, HSI, HQI, HWI⟩ := hrel
        by_cases hlt : k < nl
        · have hki : (k : Int) < (nl : Int) := by omega
          obtain ⟨x, hx⟩ : ∃ x, l[k]? = some x := ⟨_, List.getElem?_eq_getElem (by rw [← (HNL.out ()).1]; exact hlt)⟩
          obtain ⟨y, hy⟩ : ∃ y, u2[k]? = some y := ⟨_, List.getElem?_eq_getElem (by rw [← (HNL.out ()).2]; exact hlt)⟩
          have HXY : Hid (l[k]? = some x ∧ u2[k]? = some y) := ⟨hx, hy⟩
          obtain ⟨sx, y1, y2, hA2, e0, e1, e2, hsx, hcu⟩ := HSI.out.elem hx
          obtain ⟨px, cx, hvx, _⟩ := hsx.len
          obtain ⟨py, my, cy, d0, d1, d2, hmy, hsy⟩ := HSI.out.cu.2.cells hy
          subst hA2 hvx hmy
          have HE : Hid (wr.cell? ⟨b0, k * 3, none⟩ = some (.int .i64 x.k) ∧ wr.cell? ⟨b0, k * 3 + 1, none⟩ = some (.int .i64 x.n) ∧ wr.cell? ⟨b0, k * 3 + 2, none⟩ = some (.slice px x.l.length cx)) := ⟨e0, e1, e2⟩
          have HD : Hid (∀ W, Below wr.heap.size wr W → W.cell? ⟨b2, o2 + k * 3, none⟩ = some (.int .i64 y.k) ∧ W.cell? ⟨b2, o2 + k * 3 + 1, none⟩ = some (.int .i64 y.n) ∧ W.cell? ⟨b2, o2 + k * 3 + 2, none⟩ = some (.slice py y.l.length cy)) := fun W hW => ⟨(hW.cell (p := ⟨b2, _, none⟩) (block_lt_of_cell d0)).trans d0, (hW.cell (p := ⟨b2, _, none⟩) (block_lt_of_cell d1)).trans d1, (hW.cell (p := ⟨b2, _, none⟩) (block_lt_of_cell d2)).trans d2⟩
          have HSX : Hid (SlX wr (.slice px x.l.length cx) x.l y1) := hsx
          have HSY : Hid (SlT (fun b => F b ∨ b = g5) wr (.slice py y.l.length cy) y.l) := hsy
          have HCU : Hid (Cu (fun b => F b ∨ b = g5) wr b0 (.slice (some ⟨b2, o2, none⟩) nl c2y) l u2 (k + 1) y2) := hcu
          have HCX : Hid (wt (l.drop k) = 1 + wt x.l + wt (l.drop (k + 1))) := by
            show _ = _
            rw [wt_drop hx, wt_kids]
          have hk4 : k ≤ 100000 := by
            have h1 := HWI.out
            have h2 := HL.out
            have h3 := HC.out
            omega
          have hm := Mem.start wr
          clear hx hy e0 e1 e2 d0 d1 d2 hsx hsy hcu
          by_cases hal : alike x y
          · have HAL : Hid (∀ W, Calls Tryd.prog 17 #[.agg (tcs x (.slice px x.l.length cx)).toArray, .agg (tcs y (.slice py y.l.length cy)).toArray] W fun e w' => e = .returned (.bool true) ∧ Below W.heap.size W w') := fun W => by have h := alike_any x y px py cx cy W; rw [decide_eq_true (show x.k = y.k ∧ x.n = y.n ∧ x.l.length = y.l.length from hal)] at h; exact h
            have HA : Hid (alike x y) := hal
            clear hal
            by_cases h0 : x.l.length = 0
            · have h0y : y.l.length = 0 := by have := HA.out.2.2; omega
              rw [h0, h0y] at HAL
              rw [h0] at HE
              rw [h0y] at HD
              have HQN : Hid (t = u ↔ PEq P ∧ l.drop (k + 1) = u2.drop (k + 1)) := HQI.out.trans (q_next HXY.out.1 HXY.out.2 HA.out h0)
              have HSN : Hid (Si (fun b => F b ∨ b = g5) w wr m ks2 u6 cs2 g7 b0 (.slice (some ⟨b0, 0, none⟩) nl c0) (.slice (some ⟨b2, o2, none⟩) nl c2y) l u2 (k + 1) y2 P) := HSI.out.next HCU.out
              have HWN : Hid (wtP P + wt (l.drop (k + 1)) + (k + 1) ≤ gk) := by
                show _ ≤ _
                have h1 := HWI.out
                have h2 := HCX.out
                omega
              clear h0 h0y
              go_wp2_with (first
                | ((with_reducible refine at_op (some 38) (.indexAddr 22 (.tmp 33) (.tmp 35)) ?_); go_must (refine wpl_execG (.pointer (some ⟨b0, k * 3, none⟩)) rfl (exec_ixT0 k rfl rfl rfl hlt) ?_))
                | ((with_reducible refine at_op (some 39) (.load 24 (.tmp 38)) ?_); go_must (refine wpl_execG (.agg (tcs x (.slice px 0 cx)).toArray) rfl (exec_ldT rfl HE.out.1 HE.out.2.1 HE.out.2.2) ?_))
                | ((with_reducible refine at_op (some 9) (.alloc 24) ?_); go_must (refine wpl_alloc _ zero_term hm ?_); clear hm; intro w10 g9 hm)
                | ((with_reducible refine at_op none (.store 24 (.tmp 9) (.tmp 39)) ?_); go_must (refine wpl_stw 0 (tcs x (.slice px 0 cx)) hm rfl rfl rfl 3 sz_term rfl rfl (oneTcs _ _ _ _) ?_); clear hm; intro w11 hm)
                | ((with_reducible refine at_op (some 41) (.load 22 (.tmp 40)) ?_); go_must (refine wpl_execG (.slice (some ⟨b2, o2, none⟩) nl c2y) rfl (exec_ldx (.slice (some ⟨b2, o2, none⟩) nl c2y) ((HSI.out.below hm.below).row.cell 1) rfl ag_terms) ?_))
                | ((with_reducible refine at_op (some 43) (.indexAddr 22 (.tmp 41) (.tmp 42)) ?_); go_must (refine wpl_execG (.pointer (some ⟨b2, o2 + k * 3, none⟩)) rfl (exec_ixT k rfl rfl rfl hlt) ?_))
                | ((with_reducible refine at_op (some 44) (.load 24 (.tmp 43)) ?_); go_must (refine wpl_execG (.agg (tcs y (.slice py 0 cy)).toArray) rfl (exec_ldT rfl (HD.out _ hm.below).1 (HD.out _ hm.below).2.1 (HD.out _ hm.below).2.2) ?_))
                | ((with_reducible refine at_op (some 10) (.alloc 24) ?_); go_must (refine wpl_alloc _ zero_term hm ?_); clear hm; intro w12 g10 hm)
                | ((with_reducible refine at_op none (.store 24 (.tmp 10) (.tmp 44)) ?_); go_must (refine wpl_stw 0 (tcs y (.slice py 0 cy)) hm rfl rfl rfl 3 sz_term rfl rfl (oneTcs _ _ _ _) ?_); clear hm; intro w13 hm)
                | ((with_reducible refine at_op (some 45) (.load 24 (.tmp 9)) ?_); go_must (refine wpl_ldw 1 hm rfl rfl _ Tryd.underlying24 rfl 3 sz_term rfl ?_))
                | ((with_reducible refine at_op (some 46) (.load 24 (.tmp 10)) ?_); go_must (refine wpl_ldw 0 hm rfl rfl _ Tryd.underlying24 rfl 3 sz_term rfl ?_))
                | (go_at_call 17; go_must (refine (HAL.out _).mono ?_); rintro e w14 ⟨he, hb⟩; subst he; replace hm := hm.call hb; clear hb))
              refine wp_ends0 ?_
              refine anyH_startB (T := fun W => Row W g9 (tcs x (.slice px 0 cx)) 24 ∧ Row W g10 (tcs y (.slice py 0 cy)) 24) (by kernel_rfl) hm ?_
              intro wc hbw hmw
              have HBW : Hid (Below wr.heap.size wr wc) := hm.below.trans (hbw.mono hm.size)
              replace hm : Row wc g9 (tcs x (.slice px 0 cx)) 24 ∧ Row wc g10 (tcs y (.slice py 0 cy)) 24 := ⟨hmw.get 1 rfl, hmw.get 0 rfl⟩
              clear hbw hmw
              refine anyH_take 0 (v := .pointer (some ⟨g9, 2, none⟩)) rfl (by kernel_rfl) (by kernel_rfl) (by kernel_rfl) rfl (fun W _ => by go_simp) hm ?_
              go_simp
              refine anyH_take 1 (v := .slice px 0 cx) rfl (by kernel_rfl) (by kernel_rfl) (by kernel_rfl) rfl (fun W hW => exec_ldx (.slice px 0 cx) (hW.1.cell 2) rfl ag_terms) hm ?_
              go_simp
              refine anyH_take 2 (v := .int .i64 (0 : Int)) rfl (by kernel_rfl) (by kernel_rfl) (by kernel_rfl) rfl (fun W _ => by go_simp) hm ?_
              go_simp
              refine anyH_take 3 (v := .bool false) rfl (by kernel_rfl) (by kernel_rfl) (by kernel_rfl) rfl (fun W _ => by go_simp) hm ?_
              go_simp
              refine anyH_take 4 (v := .bool false) rfl (by kernel_rfl) (by kernel_rfl) (by kernel_rfl) rfl (fun W _ => by go_simp) hm ?_
              go_simp
              refine anyH_skip 5 rfl (by kernel_rfl) (by kernel_rfl) (by kernel_rfl) rfl hm ?_
              go_simp
              refine anyH_skip 6 rfl (by kernel_rfl) (by kernel_rfl) (by kernel_rfl) rfl hm ?_
              go_simp
              refine anyH_skip 7 rfl (by kernel_rfl) (by kernel_rfl) (by kernel_rfl) rfl hm ?_
              go_simp
              refine anyH_skip 8 rfl (by kernel_rfl) (by kernel_rfl) (by kernel_rfl) rfl hm ?_
              go_simp
              refine anyH_skip 9 rfl (by kernel_rfl) (by kernel_rfl) (by kernel_rfl) rfl hm ?_
              go_simp
              refine anyH_skip 10 rfl (by kernel_rfl) (by kernel_rfl) (by kernel_rfl) rfl hm ?_
              go_simp
              refine anyH_take 11 (v := .bool false) rfl (by kernel_rfl) (by kernel_rfl) (by kernel_rfl) rfl (fun W _ => by go_simp) hm ?_
              go_simp
              refine wpAnyH_done (by kernel_rfl) ?_ _
              simp only [endsIn]
              go_wp2_with fail
              go_roundw
              case rel => exact ⟨k + 1, ks2, P, cs2, y2, by go_num, by omega, HSN.out.below HBW.out, HQN.out, HWN.out⟩
              case measure => simp [intOf]; omega
            · have hpx : 0 < x.l.length := by omega
              obtain ⟨b1, o1, hp1⟩ : ∃ b1 ys, px = some ⟨b1, 0, none⟩ ∧ y1 = b1 :: ys := by
                obtain ⟨cap, hc, h | ⟨_, b, ys, cs, ca, hv, hxs, _⟩⟩ := HSX.out
                · omega
                · simp only [Value.slice.injEq] at hv
                  exact ⟨b, ys, hv.1, hxs⟩
              obtain ⟨hp1, hy1⟩ := hp1
              subst hp1 hy1
              obtain ⟨b3, o3, hp3⟩ := HSY.out.at (by have := HA.out.2.2; omega)
              subst hp3
              obtain ⟨mx, hmx⟩ : ∃ mx, mx = x.l.length := ⟨_, rfl⟩
              have hmy : y.l.length = mx := by have := HA.out.2.2; omega
              have HMX : Hid (∀ _ : Unit, mx = x.l.length ∧ mx = y.l.length) := fun _ => ⟨hmx, hmy.symm⟩
              rw [← hmx, hmy] at HAL
              rw [← hmx] at HE HSX
              rw [hmy] at HD HSY
              have hpm : 0 < mx := by omega
              have hpi : (0 : Int) < (mx : Int) := by omega
              have HP : Hid (0 < mx) := hpm
              have HQN : Hid (t = u ↔ PEq (P ++ [(x.l, y.l, b1 :: o1)]) ∧ l.drop (k + 1) = u2.drop (k + 1)) := HQI.out.trans (q_push HXY.out.1 HXY.out.2 HA.out)
              have HWN : Hid (wtP (P ++ [(x.l, y.l, b1 :: o1)]) + wt (l.drop (k + 1)) + (k + 1) ≤ gk) := by
                show _ ≤ _
                have h1 := HWI.out
                have h2 := HCX.out
                rw [wtP_snoc]
                show wtP P + wt x.l + _ + _ ≤ _
                omega
              have hP4 : P.length ≤ 100000 := by
                have h1 := pos_wt HSI.out.sm.pos
                have h2 := HWI.out
                have h3 := HL.out
                have h4 := HC.out
                omega
              clear hmx hmy h0 hpx hpm
              go_wp2_with (first
                | ((with_reducible refine at_op (some 38) (.indexAddr 22 (.tmp 33) (.tmp 35)) ?_); go_must (refine wpl_execG (.pointer (some ⟨b0, k * 3, none⟩)) rfl (exec_ixT0 k rfl rfl rfl hlt) ?_))
                | ((with_reducible refine at_op (some 39) (.load 24 (.tmp 38)) ?_); go_must (refine wpl_execG (.agg (tcs x (.slice (some ⟨b1, 0, none⟩) mx cx)).toArray) rfl (exec_ldT rfl HE.out.1 HE.out.2.1 HE.out.2.2) ?_))
                | ((with_reducible refine at_op (some 9) (.alloc 24) ?_); go_must (refine wpl_alloc _ zero_term hm ?_); clear hm; intro w10 g9 hm)
                | ((with_reducible refine at_op none (.store 24 (.tmp 9) (.tmp 39)) ?_); go_must (refine wpl_stw 0 (tcs x (.slice (some ⟨b1, 0, none⟩) mx cx)) hm rfl rfl rfl 3 sz_term rfl rfl (oneTcs _ _ _ _) ?_); clear hm; intro w11 hm)
                | ((with_reducible refine at_op (some 41) (.load 22 (.tmp 40)) ?_); go_must (refine wpl_execG (.slice (some ⟨b2, o2, none⟩) nl c2y) rfl (exec_ldx (.slice (some ⟨b2, o2, none⟩) nl c2y) ((HSI.out.below hm.below).row.cell 1) rfl ag_terms) ?_))
                | ((with_reducible refine at_op (some 43) (.indexAddr 22 (.tmp 41) (.tmp 42)) ?_); go_must (refine wpl_execG (.pointer (some ⟨b2, o2 + k * 3, none⟩)) rfl (exec_ixT k rfl rfl rfl hlt) ?_))
                | ((with_reducible refine at_op (some 44) (.load 24 (.tmp 43)) ?_); go_must (refine wpl_execG (.agg (tcs y (.slice (some ⟨b3, o3, none⟩) mx cy)).toArray) rfl (exec_ldT rfl (HD.out _ hm.below).1 (HD.out _ hm.below).2.1 (HD.out _ hm.below).2.2) ?_))
                | ((with_reducible refine at_op (some 10) (.alloc 24) ?_); go_must (refine wpl_alloc _ zero_term hm ?_); clear hm; intro w12 g10 hm)
                | ((with_reducible refine at_op none (.store 24 (.tmp 10) (.tmp 44)) ?_); go_must (refine wpl_stw 0 (tcs y (.slice (some ⟨b3, o3, none⟩) mx cy)) hm rfl rfl rfl 3 sz_term rfl rfl (oneTcs _ _ _ _) ?_); clear hm; intro w13 hm)
                | ((with_reducible refine at_op (some 45) (.load 24 (.tmp 9)) ?_); go_must (refine wpl_ldw 1 hm rfl rfl _ Tryd.underlying24 rfl 3 sz_term rfl ?_))
                | ((with_reducible refine at_op (some 46) (.load 24 (.tmp 10)) ?_); go_must (refine wpl_ldw 0 hm rfl rfl _ Tryd.underlying24 rfl 3 sz_term rfl ?_))
                | (go_at_call 17; go_must (refine (HAL.out _).mono ?_); rintro e w14 ⟨he, hb⟩; subst he; replace hm := hm.call hb; clear hb))
              refine wp_ends0 ?_
              refine anyH_startB (T := fun W => Row W g9 (tcs x (.slice (some ⟨b1, 0, none⟩) mx cx)) 24 ∧ Row W g10 (tcs y (.slice (some ⟨b3, o3, none⟩) mx cy)) 24) (by kernel_rfl) hm ?_
              intro wc hbw hmw
              have HBW : Hid (Below wr.heap.size wr wc) := hm.below.trans (hbw.mono hm.size)
              replace hm : Row wc g9 (tcs x (.slice (some ⟨b1, 0, none⟩) mx cx)) 24 ∧ Row wc g10 (tcs y (.slice (some ⟨b3, o3, none⟩) mx cy)) 24 := ⟨hmw.get 1 rfl, hmw.get 0 rfl⟩
              clear hbw hmw
              refine anyH_take 0 (v := .pointer (some ⟨g9, 2, none⟩)) rfl (by kernel_rfl) (by kernel_rfl) (by kernel_rfl) rfl (fun W _ => by go_simp) hm ?_
              go_simp
              refine anyH_take 1 (v := .slice (some ⟨b1, 0, none⟩) mx cx) rfl (by kernel_rfl) (by kernel_rfl) (by kernel_rfl) rfl (fun W hW => exec_ldx (.slice (some ⟨b1, 0, none⟩) mx cx) (hW.1.cell 2) rfl ag_terms) hm ?_
              go_simp
              refine anyH_take 2 (v := .int .i64 (mx : Int)) rfl (by kernel_rfl) (by kernel_rfl) (by kernel_rfl) rfl (fun W _ => by go_simp) hm ?_
              go_simp
              refine anyH_take 3 (v := .bool true) rfl (by kernel_rfl) (by kernel_rfl) (by kernel_rfl) rfl (fun W _ => by go_simp; exact HP.out) hm ?_
              go_simp
              refine anyH_take 4 (v := .bool true) rfl (by kernel_rfl) (by kernel_rfl) (by kernel_rfl) rfl (fun W _ => by go_simp) hm ?_
              go_simp
              refine anyH_takeG 5 (v := .map (some m)) rfl (by kernel_rfl) (by kernel_rfl) (by kernel_rfl) rfl (fun W _ => by go_simp) hm ?_
              go_simp
              refine anyH_takeG 6 (v := .agg (tcs x (.slice (some ⟨b1, 0, none⟩) mx cx)).toArray) rfl (by kernel_rfl) (by kernel_rfl) (by kernel_rfl) rfl (fun W hW => exec_ldsG 0 (tcs x (.slice (some ⟨b1, 0, none⟩) mx cx)) hW.1 rfl _ Tryd.underlying24 rfl 3 sz_term (Nat.le_refl _) rfl) hm ?_
              go_simp
              refine anyH_takeG 8 (v := .agg (tcs y (.slice (some ⟨b3, o3, none⟩) mx cy)).toArray) rfl (by kernel_rfl) (by kernel_rfl) (by kernel_rfl) rfl (fun W hW => exec_ldsG 0 (tcs y (.slice (some ⟨b3, o3, none⟩) mx cy)) hW.2 rfl _ Tryd.underlying24 rfl 3 sz_term (Nat.le_refl _) rfl) hm ?_
              go_simp
              refine wpAnyH_all (rs := [7]) (by kernel_rfl) (by simp) ?_
              intro i hi
              simp only [List.mem_cons, List.not_mem_nil, or_false] at hi
              subst hi
              refine anyH_opW 7 rfl rfl ?_
              intro K hK
              go_wp2_with (go_at_call 19; refine (listOf_any x mx b1 0 cx _ HP.out).mono ?_; rintro e w15 ⟨he, hb⟩; subst he; replace hm := And.intro (hm.1.below' hb) (hm.2.below' hb); have HBX : Hid (Below wr.heap.size wr w15) := HBW.out.trans (hb.mono HBW.out.size); clear hb HBW)
              refine hK _ _ hm ?_
              clear hK K
              go_simp
              refine wpAnyH_all (rs := [9]) (by kernel_rfl) (by simp) ?_
              intro i hi
              simp only [List.mem_cons, List.not_mem_nil, or_false] at hi
              subst hi
              refine anyH_opW 9 rfl rfl ?_
              intro K hK
              go_wp2_with (go_at_call 19; refine (listOf_any y mx b3 o3 cy _ HP.out).mono ?_; rintro e w16 ⟨he, hb⟩; subst he; replace hm := And.intro (hm.1.below' hb) (hm.2.below' hb); have HBY : Hid (Below wr.heap.size wr w16) := HBX.out.trans (hb.mono HBX.out.size); clear hb HBX)
              refine hK _ _ hm ?_
              clear hK K
              go_simp
              refine wpAnyH_all (rs := [10]) (by kernel_rfl) (by simp) ?_
              intro i hi
              simp only [List.mem_cons, List.not_mem_nil, or_false] at hi
              subst hi
              refine anyH_opW 10 rfl rfl ?_
              intro K hK
              go_wp2_with (go_at_call 18; refine (same_join (HSI.out.below HBY.out) (HSX.out.keep (fun b hb' => HBY.out.block b (HSI.out.sm.al b (List.mem_append.2 (Or.inl (List.mem_append.2 (Or.inl hb'))))).2.1)) (HSY.out.below HBY.out) HP.out).mono ?_; rintro e w17 ⟨he, hk9, hu9⟩; subst he; have HK9 : Hid (KeysAt w17 m (ks2 ++ [(b1, 0, mx)])) := hk9; have HU9 : Hid (Upd m w16 w17) := hu9; have hne9 := (HSI.out.sm.below HBY.out).keys.ne hm.1; have hne10 := (HSI.out.sm.below HBY.out).keys.ne hm.2; replace hm := And.intro (hu9.row hm.1 hne9) (hu9.row hm.2 hne10); clear hk9 hu9 hne9 hne10)
              refine hK _ _ hm ?_
              clear hK K
              go_simp
              refine anyH_take 11 (v := .bool true) rfl (by kernel_rfl) (by kernel_rfl) (by kernel_rfl) rfl (fun W _ => by go_simp) hm ?_
              go_simp
              refine wpAnyH_done (by kernel_rfl) ?_ _
              simp only [endsIn]
              go_wp2_with (first
                | ((with_reducible refine at_op (some 63) (.load 22 (.tmp 62)) ?_); go_must (refine wpl_execG (.slice (some ⟨b1, 0, none⟩) mx cx) rfl (exec_ldx (.slice (some ⟨b1, 0, none⟩) mx cx) (hm.1.cell 2) rfl ag_terms) ?_))
                | ((with_reducible refine at_op (some 65) (.load 22 (.tmp 64)) ?_); go_must (refine wpl_execG (.slice (some ⟨b3, o3, none⟩) mx cy) rfl (exec_ldx (.slice (some ⟨b3, o3, none⟩) mx cy) (hm.2.cell 2) rfl ag_terms) ?_))
                | ((with_reducible refine at_op (some 67) (.buildSlice 45 1 #[(0, .tmp 66)]) ?_); go_must (refine wpl_bslP (.slice (some ⟨b1, 0, none⟩) mx cx) (.slice (some ⟨b3, o3, none⟩) mx cy) rfl rfl (Mem.start _) ?_); clear hm; intro w21 g21 hb21 hg21 hm; have HB21 : Hid (Below w17.heap.size w17 w21) := hb21; clear hb21 hg21)
                | ((with_reducible refine at_op (some 68) (.call { callee := .builtin .append, args := #[.tmp 61, .tmp 67], argTypes := #[45, 45] }) ?_); go_must (refine wpl_appV (.agg [.slice none 0 0, .slice none 0 0].toArray) 2 48 rfl un_prs made_pr rfl (by omega) (by omega) (own_below (own_updN (HSI.out.below HBY.out).sm.own HU9.out ((HSI.out.below HBY.out).sm.keys.own (HSI.out.below HBY.out).sm.own)) HB21.out) (Nat.le_trans HSI.out.sm.bel.size (Nat.le_trans HBY.out.size (Nat.le_trans HU9.out.size HB21.out.size))) rfl rfl (hm.get 0 rfl) rfl (by intro z hz; simp only [List.mem_cons, List.not_mem_nil, or_false] at hz; rcases hz with rfl | rfl <;> rfl) hP4 ?_); intro v22 w22 ho hg hl; have HSN : Hid (Si (fun b => F b ∨ b = g5) w w22 m (ks2 ++ [(b1, 0, mx)]) v22 (cs2 ++ [.slice (some ⟨b1, 0, none⟩) mx cx, .slice (some ⟨b3, o3, none⟩) mx cy]) g7 b0 (.slice (some ⟨b0, 0, none⟩) nl c0) (.slice (some ⟨b2, o2, none⟩) nl c2y) l u2 (k + 1) y2 (P ++ [(x.l, y.l, b1 :: o1)])) := same_push (HMX.out ()).1 (HMX.out ()).2 HSI.out HCU.out HSX.out HSY.out HP.out HBY.out HK9.out HU9.out HB21.out ho hg hl; clear ho hg hl hm))
              go_roundw
              case rel => exact ⟨k + 1, _, _, _, _, by go_num, by omega, HSN.out, HQN.out, HWN.out⟩
              case measure => simp [intOf]; omega
          · have HAL : Hid (∀ W, Calls Tryd.prog 17 #[.agg (tcs x (.slice px x.l.length cx)).toArray, .agg (tcs y (.slice py y.l.length cy)).toArray] W fun e w' => e = .returned (.bool false) ∧ Below W.heap.size W w') := fun W => by have h := alike_any x y px py cx cy W; rw [decide_eq_false (show ¬ (x.k = y.k ∧ x.n = y.n ∧ x.l.length = y.l.length) from hal)] at h; exact h
            have HRF : Hid (r = false) := by
              show r = false
              cases r with
              | false => rfl
              | true => exact absurd (HQI.out.1 (HR.out.1 rfl)) (q_no HXY.out.1 HXY.out.2 hal)
            clear hal
            go_wp2_with (first
              | ((with_reducible refine at_op (some 38) (.indexAddr 22 (.tmp 33) (.tmp 35)) ?_); go_must (refine wpl_execG (.pointer (some ⟨b0, k * 3, none⟩)) rfl (exec_ixT0 k rfl rfl rfl hlt) ?_))
              | ((with_reducible refine at_op (some 39) (.load 24 (.tmp 38)) ?_); go_must (refine wpl_execG (.agg (tcs x (.slice px x.l.length cx)).toArray) rfl (exec_ldT rfl HE.out.1 HE.out.2.1 HE.out.2.2) ?_))
              | ((with_reducible refine at_op (some 9) (.alloc 24) ?_); go_must (refine wpl_alloc _ zero_term hm ?_); clear hm; intro w10 g9 hm)
              | ((with_reducible refine at_op none (.store 24 (.tmp 9) (.tmp 39)) ?_); go_must (refine wpl_stw 0 (tcs x (.slice px x.l.length cx)) hm rfl rfl rfl 3 sz_term rfl rfl (oneTcs _ _ _ _) ?_); clear hm; intro w11 hm)
              | ((with_reducible refine at_op (some 41) (.load 22 (.tmp 40)) ?_); go_must (refine wpl_execG (.slice (some ⟨b2, o2, none⟩) nl c2y) rfl (exec_ldx (.slice (some ⟨b2, o2, none⟩) nl c2y) ((HSI.out.below hm.below).row.cell 1) rfl ag_terms) ?_))
              | ((with_reducible refine at_op (some 43) (.indexAddr 22 (.tmp 41) (.tmp 42)) ?_); go_must (refine wpl_execG (.pointer (some ⟨b2, o2 + k * 3, none⟩)) rfl (exec_ixT k rfl rfl rfl hlt) ?_))
              | ((with_reducible refine at_op (some 44) (.load 24 (.tmp 43)) ?_); go_must (refine wpl_execG (.agg (tcs y (.slice py y.l.length cy)).toArray) rfl (exec_ldT rfl (HD.out _ hm.below).1 (HD.out _ hm.below).2.1 (HD.out _ hm.below).2.2) ?_))
              | ((with_reducible refine at_op (some 10) (.alloc 24) ?_); go_must (refine wpl_alloc _ zero_term hm ?_); clear hm; intro w12 g10 hm)
              | ((with_reducible refine at_op none (.store 24 (.tmp 10) (.tmp 44)) ?_); go_must (refine wpl_stw 0 (tcs y (.slice py y.l.length cy)) hm rfl rfl rfl 3 sz_term rfl rfl (oneTcs _ _ _ _) ?_); clear hm; intro w13 hm)
              | ((with_reducible refine at_op (some 45) (.load 24 (.tmp 9)) ?_); go_must (refine wpl_ldw 1 hm rfl rfl _ Tryd.underlying24 rfl 3 sz_term rfl ?_))
              | ((with_reducible refine at_op (some 46) (.load 24 (.tmp 10)) ?_); go_must (refine wpl_ldw 0 hm rfl rfl _ Tryd.underlying24 rfl 3 sz_term rfl ?_))
              | (go_at_call 17; go_must (refine (HAL.out _).mono ?_); rintro e w14 ⟨he, hb⟩; subst he; replace hm := hm.call hb; clear hb))
            go_ret
            exact ⟨(by rw [HRF.out]; rfl), (HSI.out.sm.below hm.below).bel⟩
        · have hkn : k = nl := by omega
          subst hkn
          have hki : ¬ (k : Int) < (k : Int) := by omega
          clear hlt
          go_wp2_with fail
          go_roundg (wtP P)
          case measure =>
            have h1 := HWI.out
            have h2 := HPOS.out
            omega
          case rel =>
            refine ⟨ks2, P, cs2, ?_, ?_, rfl, ?_⟩
            · have h1 := HSI.out
              have h2 := (HNL.out ()).1
              subst h2
              exact h1.done
            · have h1 := HQI.out
              rw [(HNL.out ()).1] at h1
              rw [List.drop_length, ← (HNL.out ()).1, (HNL.out ()).2, List.drop_length] at h1
              show _ ↔ _
              simpa using h1
            · show _ ≤ _
              have h1 := HWI.out
              have h2 := HL.out
              omega
end Go.Proofs.YtbiinchmbclmcaaDoor
