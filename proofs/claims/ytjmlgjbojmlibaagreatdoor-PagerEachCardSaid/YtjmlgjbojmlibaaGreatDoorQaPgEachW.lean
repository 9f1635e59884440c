import Derived.Test.YtjmlgjbojmlibaaGreatDoorQaPgS
set_option maxRecDepth 100000
namespace Go.Proofs.YtjmlgjbojmlibaaGreatDoor
open Go Go.RowKit Go.Maps
section
variable {P : Program} {ops : Array Oper} {rest : List Oper} {a : Act} {w w0 : World} {Q : Exit → Act → World → Prop} {dst : Option Tmp} {typ : TypeId} {pos : String} {aft : Array Edge} {gd : Option (Nat × Bool)}
theorem wpl_appV {s x : Operand} {t e : TypeId} (z : Value) (K bytes : Nat) (hw : Region.wanted { dst := dst, op := .call { callee := .builtin .append, args := #[s, x], argTypes := #[t, t] }, type := typ, pos := pos, after := aft, guard := gd } (yielded ops a.tmps) = true)
    (ht : P.underlying t = some (.slice e)) (hi : (P.info? e).map (fun i => (i.zero, i.size, i.bytes)) = some (some z, K, bytes)) (hz : z.cells.size = K) (hK0 : 0 < K) (hby : bytes ≤ 100) {v : Value} {n base g : Nat} {cs new : List Value} (hown : w.ownsRow base e K v n cs) (hbase : base ≤ w.heap.size)
    (hs : a.eval s = v) (hx : a.eval x = .slice (some ⟨g, 0, none⟩) 1 1) (hr : Row w g new e) (hl : new.length = K) (h1 : ∀ u ∈ new, u.oneCell' = true) (hn : n ≤ 100000)
    (h : ∀ v' w', w'.ownsRow base e K v' (n + 1) (cs ++ new) → w.grownBy w' v.ownBlock → (v'.ownBlock = v.ownBlock ∨ v'.ownBlock = some w.heap.size) → wpList P ops Q rest (a.put dst v') w') :
    wpList P ops Q ({ dst := dst, op := .call { callee := .builtin .append, args := #[s, x], argTypes := #[t, t] }, type := typ, pos := pos, after := aft, guard := gd } :: rest) a w := by
  cases hq : P.info? e with
  | none => simp [hq] at hi
  | some i =>
    simp only [hq, Option.map_some, Option.some.injEq, Prod.mk.injEq] at hi
    obtain ⟨hz1, h2, h3⟩ := hi
    have hbd : (n + 1) * bytes ≤ 140737488355328 := by
      have := Nat.mul_le_mul (show n + 1 ≤ 100001 by omega) hby
      omega
    obtain ⟨v', w', hrun, ho, hg, _, hb⟩ := run_append_own_at (P := P) w base t typ e i z K bytes ht hq hz1 h2 h3 hz hK0 v n cs hown ⟨g, 0, none⟩ 1 1 new (by rw [hl]; omega) (fun j u hu => by rw [add_at, Nat.zero_add, hr.cell j]; exact hu) h1 (by unfold maxLen; omega) hbd hbase
    refine wpList_step fun K hK => ?_
    rw [if_pos hw]
    have hh := hK _ _ (h v' w' ho hg hb)
    unfold Oper.wp execOp
    simp only [resolve, invoke, builtin, Sem.run_bind, Sem.run_pure, Result.andThen_ok, List.map_toArray, List.map_cons, List.map_nil, hs, hx, hrun]
    exact hh
end
theorem un_u32s : Tryz.prog.underlying 66 = some (.slice 30) := Tryz.underlying66
theorem made_u32 : (Tryz.prog.info? 30).map (fun i => (i.zero, i.size, i.bytes)) = some (some (.int .u32 0), 1, 4) := by kernel_rfl
theorem info_u32 : (Tryz.prog.info? 30).map (fun i => (i.zero, i.size)) = some (some (.int .u32 0), 1) := by kernel_rfl
theorem sz_bse : (Tryz.prog.info? 29).map (·.size) = some 1 := by kernel_rfl
theorem exec_ix0 {P : Program} {a : Act} {w : World} {dst : Option Tmp} {typ : TypeId} {pos : String} {aft : Array Edge} {gd : Option (Nat × Bool)} {x ix : Operand} {t e : TypeId} (hu : P.underlying t = some (.slice e)) (hs : (P.info? e).map (·.size) = some 1) {b n cap : Nat} (i : Nat) {ii : Int} (hx : a.eval x = .slice (some ⟨b, 0, none⟩) n cap) (hix : a.eval ix = .int .i64 ii) (hii : ii = (i : Int)) (hi : i < n) :
    (execOp a.eval { dst := dst, op := .indexAddr t x ix, type := typ, pos := pos, after := aft, guard := gd }).run P w = .ok (.value (.pointer (some ⟨b, i, none⟩))) w := by
  have h := exec_ixI (dst := dst) (typ := typ) (pos := pos) (aft := aft) (gd := gd) (w := w) hu hs i hx hix hii hi
  rw [Nat.zero_add] at h
  exact h
theorem no32 {w : World} {g : Nat} {cur : Array Value} (hg : w.heap[g]? = some (.cells cur 30 (0, 0))) : ¬ Mine w g := by
  rintro (⟨es, c, h⟩ | ⟨l, h⟩ | ⟨l, h⟩ | ⟨l, h⟩)
  · rw [hg] at h; cases h
  all_goals
    unfold Row at h
    rw [hg] at h
    simp only [Option.some.injEq, Obj.cells.injEq] at h
    exact absurd h.2.1 (by decide)
theorem own_fr {w w' : World} {base n : Nat} {v : Value} {cs : List Value} (h : w.ownsRow base 30 1 v n cs) (hf : Fr w w') : w'.ownsRow base 30 1 v n cs := by
  refine ⟨h.1, ?_⟩
  rcases h.2 with hn | ⟨g, cap, cur, rfl, hb, hg, rest⟩
  · exact .inl hn
  · refine .inr ⟨g, cap, cur, rfl, hb, ?_, rest⟩
    rw [hf g (Array.getElem?_eq_some_iff.1 hg).1 (no32 hg)]
    exact hg
theorem own_bel {w w' : World} {base n : Nat} {e : TypeId} {v : Value} {cs : List Value} (h : w.ownsRow base e 1 v n cs) (hb : Below w.heap.size w w') : w'.ownsRow base e 1 v n cs := World.ownsRow.kept h (grown_of_below hb) (by cases h' : v.ownBlock <;> simp)
theorem PgS.grown {w0 w w' : World} {gp g mb : Nat} {kv : Value} {kP : List Int} {pg k : Nat} {U : Nat → Option (Option (List Int))} {L : Nat → Option (List Int)} {root : Int} {mt : ByteArray} {v : Value} {n : Nat} {cs : List Value} (h : PgS w0 w gp g mb kv kP pg k U L root mt) (ho : w.ownsRow w0.heap.size 30 1 v n cs) (hg : w.grownBy w' v.ownBlock) : PgS w0 w' gp g mb kv kP pg k U L root mt := by
  obtain ⟨ml, mu, P, d, h⟩ := h
  have hne : ∀ q ∈ footP gp g mb kv ml mu, some q ≠ v.ownBlock := fun q hq e => by
    rcases ho.2 with ⟨rfl, _⟩ | ⟨g', cap, cur, rfl, hb, hg', _⟩
    · simp [Value.ownBlock] at e
    · simp only [Value.ownBlock, Option.some.injEq] at e
      subst e
      exact no32 hg' (h.at_.mine _ hq)
  have u : UpdS (v.ownBlock.toList) w w' := ⟨hg.os, hg.tape, hg.output, hg.size, fun q hq hn => hg.block q hq (fun e => hn (by rw [← e]; simp))⟩
  have hge : ∀ q ∈ v.ownBlock.toList, w0.heap.size ≤ q := fun q hq => by
    rcases ho.2 with ⟨rfl, _⟩ | ⟨g', cap, cur, rfl, hb, _⟩
    · simp [Value.ownBlock] at hq
    · simp [Value.ownBlock] at hq; omega
  have hg2 : ∀ q ∈ v.ownBlock.toList, 2 ≤ q := fun q hq => Nat.le_trans h.e.w2 (hge q hq)
  exact ⟨ml, mu, P, d, h.at_.keep (fun q hq => hg.block q (h.at_.lt q hq) (hne q hq)), h.off, h.on, h.n, h.key, h.rt, h.mte, h.rtb, h.mtb, h.gn, h.lim, h.u, h.l, ⟨h.e.t.updS u hg2, QTab.updS h.e.q u hg2, h.e.ge, h.e.w2, below_past h.e.bl u hge⟩⟩
def idsL (i : Nat) : List Value := u32s ((List.range i).map fun (j : Nat) => (j : Int))
theorem idsL_next (i : Nat) : idsL i ++ [.int .u32 (i : Int)] = idsL (i + 1) := by simp [idsL, u32s, List.range_succ]
theorem idsL_get {i k : Nat} (h : k < i) : (idsL i)[k]? = some (.int .u32 (k : Int)) := by simp [idsL, u32s, h]
theorem own_cell {w : World} {base n : Nat} {v : Value} {cs : List Value} (h : w.ownsRow base 30 1 v n cs) (h0 : 0 < n) : ∃ gi cap, v = .slice (some ⟨gi, 0, none⟩) n cap := by
  rcases h.2 with hn | ⟨g, cap, cur, rfl, hb, hg, rest⟩
  · omega
  · exact ⟨g, cap, rfl⟩
theorem own_at {w : World} {base n gi cap : Nat} {cs : List Value} (h : w.ownsRow base 30 1 (.slice (some ⟨gi, 0, none⟩) n cap) n cs) {k : Nat} (hk : k < n) {x : Value} (hx : cs[k]? = some x) : w.cell? ⟨gi, k, none⟩ = some x := by
  rcases h.2 with hn | ⟨g, cap', cur, he, hb, hg, h1, h2, h3, h4⟩
  · omega
  · simp only [Value.slice.injEq, Option.some.injEq, Addr.mk.injEq] at he
    obtain ⟨⟨rfl, _⟩, _⟩ := he
    have hr : Row w gi cur.toList 30 := by unfold Row; rw [hg]
    rw [hr.cell k, ← hx, ← h4, List.getElem?_take]
    rw [if_pos (by omega)]
theorem mtE_bytes : Bytes (strB { data := #[] }) := by
  intro x hx
  cases hx
def aF (i j : Nat) : Option (Option (List Int)) := if j < i then some none else none
theorem aF_zero : aF 0 = fun _ => none := by funext j; simp [aF]
theorem aF_some (i j : Nat) : (aF i j).isSome = decide (j < i) := by
  unfold aF
  split
  · next h => simp [h]
  · next h => simp [h]
theorem aF_next (i : Nat) : upf (aF i) i (some none) = aF (i + 1) := by
  funext j
  unfold upf aF
  split
  · next h => rw [if_pos (by omega)]
  · next h =>
    by_cases h2 : j < i
    · rw [if_pos h2, if_pos (by omega)]
    · rw [if_neg h2, if_neg (by omega)]
def hit (turn len i j : Nat) : Bool := (List.range i).any fun x => (x + turn) % len == j
def uE (turn len : Nat) (cs : Nat → List Int) (i j : Nat) : Option (Option (List Int)) := if j < len then some (if hit turn len i j = true then some (cs j) else none) else none
theorem uE_zero (turn len : Nat) (cs : Nat → List Int) : aF len = uE turn len cs 0 := by
  funext j
  rfl
theorem uE_some (turn len : Nat) (cs : Nat → List Int) (i j : Nat) (h : j < len) : (uE turn len cs i j).isSome = true := by unfold uE; rw [if_pos h]; rfl
theorem uE_next (turn len : Nat) (cs : Nat → List Int) (i k : Nat) (hk : (i + turn) % len = k) (hl : k < len) : upf (uE turn len cs i) k (some (some (cs k))) = uE turn len cs (i + 1) := by
  funext j
  unfold upf uE
  split
  · next h =>
    subst h
    rw [if_pos hl, if_pos]
    unfold hit
    rw [List.range_succ, List.any_append]
    simp [hk]
  · next h =>
    have e : hit turn len (i + 1) j = hit turn len i j := by
      unfold hit
      rw [List.range_succ, List.any_append]
      simp [hk]
      intro h2
      exact absurd h2.symm h
    rw [e]
theorem hit_all (turn len j : Nat) (h0 : 0 < len) (h8 : len ≤ 8) (hj : j < len) : hit turn len len j = true := by
  unfold hit
  rw [List.any_eq_true]
  refine ⟨(j + (len - turn % len)) % len, List.mem_range.2 (Nat.mod_lt _ h0), ?_⟩
  rw [beq_iff_eq]
  have h9 : len = 1 ∨ len = 2 ∨ len = 3 ∨ len = 4 ∨ len = 5 ∨ len = 6 ∨ len = 7 ∨ len = 8 := by omega
  rcases h9 with rfl | rfl | rfl | rfl | rfl | rfl | rfl | rfl <;> omega
def lE (len : Nat) (cs : Nat → List Int) (j : Nat) : Option (List Int) := if j < len then some (cs j) else none
theorem uE_all (turn len : Nat) (cs : Nat → List Int) (h0 : 0 < len) (h8 : len ≤ 8) (j : Nat) : uE turn len cs len j = (lE len cs j).map some := by
  unfold uE lE
  by_cases h : j < len
  · rw [if_pos h, if_pos h, if_pos (hit_all turn len j h0 h8 h)]
    rfl
  · rw [if_neg h, if_neg h]
    rfl
theorem sln_old {w w1 W : World} {v : Value} {bs : List Int} (h : SlOld w v bs) (hb : Below w.heap.size w W) (hle : w.heap.size ≤ w1.heap.size) : SlN w1 W v bs := by
  obtain ⟨p, cap, rfl, hc, hs⟩ := h
  refine ⟨p, cap, rfl, hc, fun h0 => ?_⟩
  obtain ⟨b, off, rfl, hseg⟩ := hs h0
  refine ⟨b, off, rfl, fun j hj => ?_, Or.inl (Nat.lt_of_lt_of_le (hseg.lt h0) hle)⟩
  rw [World.cell?_of_block (w := w) (hb.block b (hseg.lt h0))]
  exact hseg j hj
theorem cell_old {w W : World} {b o : Nat} {v : Value} (h : w.cell? ⟨b, o, none⟩ = some v) (hb : Below w.heap.size w W) : W.cell? ⟨b, o, none⟩ = some v := by
  rw [World.cell?_of_block (w := w) (hb.block b (block_lt_of_cell h))]
  exact h
set_option maxHeartbeats 1000000 in
theorem peach_few (p : Option Addr) (len cap turn : Nat) (hl : len = 0 ∨ 8 < len) (w : World) (ht : Tab w) (hq : QTab w) (hw2 : 2 ≤ w.heap.size) :
    Calls Tryz.prog 8 #[.slice p len cap, .int .u8 (turn : Int)] w fun e w' => e = .returned (.bool true) ∧ Below w.heap.size w w' := by
  have HT : Hid (Tab w) := ht
  have HQ : Hid (QTab w) := hq
  clear ht hq
  rcases hl with rfl | hl
  · go_enter Tryz.func8, Tryz.ntmps8
    go_wp2_with (first
      | (go_at_call 9; refine (known7_any _ HT.out HQ.out hw2).mono ?_; rintro e w1 ⟨rfl, hb⟩; have HB1 : Hid (Below w.heap.size w w1) := hb; clear hb))
    go_ret
    exact ⟨rfl, HB1.out⟩
  · have e8 : (len : Int) > 8 := by omega
    have e0 : ¬ (len : Int) = 0 := by omega
    clear hl
    go_enter Tryz.func8, Tryz.ntmps8
    go_wp2_with (first
      | (go_at_call 9; refine (known7_any _ HT.out HQ.out hw2).mono ?_; rintro e w1 ⟨rfl, hb⟩; have HB1 : Hid (Below w.heap.size w w1) := hb; clear hb))
    go_ret
    exact ⟨rfl, HB1.out⟩
set_option maxHeartbeats 4000000 in
theorem peach_many (len cap b o turn : Nat) (Pt : Nat → Option Addr) (Cp : Nat → Nat) (cs : Nat → List Int) (hl0 : 0 < len) (hl8 : len ≤ 8) (htb : turn < 256) (w : World) (hel : ∀ i, i < len → w.cell? ⟨b, o + i, none⟩ = some (.slice (Pt i) (cs i).length (Cp i)) ∧ SlOld w (.slice (Pt i) (cs i).length (Cp i)) (cs i) ∧ Bytes (cs i)) (ht : Tab w) (hq : QTab w) (hw2 : 2 ≤ w.heap.size) :
    Calls Tryz.prog 8 #[.slice (some ⟨b, o, none⟩) len cap, .int .u8 (turn : Int)] w fun e w' => e = .returned (.bool true) ∧ Below w.heap.size w w' := by
  have HT : Hid (Tab w) := ht
  have HQ : Hid (QTab w) := hq
  clear ht hq
  have e8 : ¬ (8 : Int) < (len : Int) := by omega
  have e0 : ¬ (len : Int) = 0 := by omega
  have e8b : decide ((8 : Int) < (len : Int)) = false := by simp; omega
  have e0b : ((len : Int) == 0) = false := by rw [beq_eq_false_iff_ne]; exact e0
  obtain ⟨kP, hkP⟩ : ∃ x, x = deriveOf kNine labPage 0 := ⟨_, rfl⟩
  have HKP : Hid (∀ _ : Unit, deriveOf kNine labPage 0 = kP) := fun _ => hkP.symm
  have HBY : Hid (∀ i, i < len → Bytes (cs i)) := fun i hi => (hel i hi).2.2
  have HE0 : Hid (∀ i, i < len → w.cell? ⟨b, o + i, none⟩ = some (.slice (Pt i) (cs i).length (Cp i)) ∧ SlOld w (.slice (Pt i) (cs i).length (Cp i)) (cs i)) := fun i hi => ⟨(hel i hi).1, (hel i hi).2.1⟩
  clear hkP hel
  go_enter Tryz.func8, Tryz.ntmps8
  go_wp2_with (first
    | (go_at_call 9; refine (known7_any _ HT.out HQ.out hw2).mono ?_; rintro e w1 ⟨rfl, hb⟩; have HB1 : Hid (Below w.heap.size w w1) := hb; clear hb)
    | (go_at_call 10; go_loud (refine (begun_s 10 (by omega) (by omega) w1 (HT.out.bel HB1.out) (HQ.out.bel HB1.out) (Nat.le_trans hw2 HB1.out.size)).mono ?_; rintro e w2 ⟨gp, g, mb, kv, gm, q1, q2, rfl, hs, _, _⟩; rw [HKP.out ()] at hs; have HS : Hid (PgS w1 w2 gp g mb kv kP 10 (132) (fun _ => none) (fun _ => none) 0 { data := #[] }) := hs; clear hs)))
  have HEL : Hid (∀ i, i < len → ∀ W, Below w1.heap.size w1 W → W.cell? ⟨b, o + i, none⟩ = some (.slice (Pt i) (cs i).length (Cp i)) ∧ SlN w1 W (.slice (Pt i) (cs i).length (Cp i)) (cs i) ∧ SlOld W (.slice (Pt i) (cs i).length (Cp i)) (cs i)) := fun i hi W hW => by
    have hb := HB1.out.trans (hW.mono HB1.out.size)
    exact ⟨cell_old (HE0.out i hi).1 hb, sln_old (HE0.out i hi).2 hb HB1.out.size, SlOld.below (HE0.out i hi).2 hb⟩
  have HFIN : Hid (∀ W, Below w1.heap.size w1 W → Below w.heap.size w W) := fun W hW => HB1.out.trans (hW.mono HB1.out.size)
  clear HE0 HKP
  go_loopw [9, 10] (fun vd' vi wr => ∃ (i : Nat) (vd : Value), i ≤ len ∧ vi = .int .i64 (i : Int) ∧ vd = vd' ∧ Hid (∀ j, j < i → (cs j).length ≤ 480) ∧ Hid (PgS w1 wr gp g mb kv kP 10 (132) (aF i) (fun _ => none) 0 { data := #[] }) ∧ Hid (wr.ownsRow w1.heap.size 30 1 vd i (idsL i))) (fun _ vi _ => len - (RowKit.intOf vi).toNat)
  case atStart => exact ⟨0, _, by omega, rfl, rfl, fun j hj => by omega, by rw [aF_zero]; exact HS.out, World.ownsRow_nil _ _ _ _⟩
  case round =>
    clear HS
    obtain ⟨i, vd, hi, rfl, hvd, HLN, HS, HO⟩ := hrel
    subst hvd
    by_cases hlt : i < len
    · have hki : (i : Int) < (len : Int) := by omega
      by_cases hlong : 480 < (cs i).length
      · have hg : (480 : Int) < ((cs i).length : Int) := by omega
        go_wp2_with (first
          | (go_at_call 20; refine (alloc_s (by omega) i (by omega) (by rw [aF_some]; simp) (fun j hj => by rw [aF_some]; simp [hj]) _ HS.out).mono ?_; rintro e w4 ⟨rfl, hs4, hf4⟩; rw [aF_next] at hs4; replace HS : Hid (PgS w1 w4 gp g mb kv kP 10 (132) (aF (i + 1)) (fun _ => none) 0 { data := #[] }) := hs4; replace HO : Hid (w4.ownsRow w1.heap.size 30 1 vd i (idsL i)) := own_fr HO.out hf4; clear hs4 hf4)
          | ((with_reducible refine at_opG (some 52) (.indexAddr 71 (.tmp 50) (.tmp 51)) (some (2, false)) ?_); go_must (refine wpl_execG (.pointer (some ⟨b, o + i, none⟩)) rfl (exec_ixI un_bss sz_bse i rfl rfl rfl hlt) ?_))
          | ((with_reducible refine at_opG (some 53) (.load 29 (.tmp 52)) (some (2, false)) ?_); go_must (refine wpl_execG (.slice (Pt i) (cs i).length (Cp i)) rfl (exec_ldx (.slice (Pt i) (cs i).length (Cp i)) (HEL.out i hlt _ HS.out.bl).1 rfl ag_bs) ?_)))
        go_ret
        exact ⟨rfl, HFIN.out _ (PgS.bl HS.out)⟩
      · have hg : ¬ (480 : Int) < ((cs i).length : Int) := by omega
        go_wp2_with (first
          | (go_at_call 20; refine (alloc_s (by omega) i (by omega) (by rw [aF_some]; simp) (fun j hj => by rw [aF_some]; simp [hj]) _ HS.out).mono ?_; rintro e w4 ⟨rfl, hs4, hf4⟩; rw [aF_next] at hs4; replace HS : Hid (PgS w1 w4 gp g mb kv kP 10 (132) (aF (i + 1)) (fun _ => none) 0 { data := #[] }) := hs4; replace HO : Hid (w4.ownsRow w1.heap.size 30 1 vd i (idsL i)) := own_fr HO.out hf4; clear hs4 hf4)
          | ((with_reducible refine at_opG (some 52) (.indexAddr 71 (.tmp 50) (.tmp 51)) (some (2, false)) ?_); go_must (refine wpl_execG (.pointer (some ⟨b, o + i, none⟩)) rfl (exec_ixI un_bss sz_bse i rfl rfl rfl hlt) ?_))
          | ((with_reducible refine at_opG (some 53) (.load 29 (.tmp 52)) (some (2, false)) ?_); go_must (refine wpl_execG (.slice (Pt i) (cs i).length (Cp i)) rfl (exec_ldx (.slice (Pt i) (cs i).length (Cp i)) (HEL.out i hlt _ HS.out.bl).1 rfl ag_bs) ?_))
          | ((with_reducible refine at_op (some 61) (.buildSlice 66 1 #[(0, .tmp 60)]) ?_); go_must (refine wpl_bsl1 rfl (.int .u32 0) (.int .u32 (i : Int)) un_u32s info_u32 rfl rfl rfl (Mem.start w4) ?_); intro w5 g5 hb5 hm5; have HR5 : Hid (Row w5 g5 [.int .u32 (i : Int)] 30) := hm5.get 0 rfl; replace HS : Hid (PgS w1 w5 gp g mb kv kP 10 (132) (aF (i + 1)) (fun _ => none) 0 { data := #[] }) := HS.out.below hb5; replace HO : Hid (w5.ownsRow w1.heap.size 30 1 vd i (idsL i)) := own_bel HO.out hb5; clear hb5 hm5)
          | ((with_reducible refine at_op (some 62) (.call { callee := .builtin .append, args := #[.tmp 59, .tmp 61], argTypes := #[66, 66] }) ?_); go_must (refine wpl_appV (.int .u32 0) 1 4 rfl un_u32s made_u32 rfl (by omega) (by omega) HO.out (PgS.bl HS.out).size rfl rfl HR5.out rfl (by intro u hu; simp only [List.mem_cons, List.not_mem_nil, or_false] at hu; subst hu; rfl) (by omega) ?_); intro vd' w6 ho6 hg6 _; rw [idsL_next] at ho6; replace HS : Hid (PgS w1 w6 gp g mb kv kP 10 (132) (aF (i + 1)) (fun _ => none) 0 { data := #[] }) := PgS.grown HS.out HO.out hg6; replace HO : Hid (w6.ownsRow w1.heap.size 30 1 vd' (i + 1) (idsL (i + 1))) := ho6; clear ho6 hg6))
        refine ⟨⟨i + 1, _, by omega, by go_num, rfl, fun j hj => ?_, HS, HO⟩, by simp [RowKit.intOf]; omega⟩
        rcases Nat.lt_or_ge j i with h9 | h9
        · exact HLN.out j h9
        · obtain rfl : j = i := by omega
          omega
    · obtain rfl : i = len := by omega
      have hni : ¬ (i : Int) < (i : Int) := by omega
      obtain ⟨gi, ci, hv⟩ := own_cell HO.out hl0
      subst hv
      have HS2 : Hid (PgS w1 wr gp g mb kv kP 10 (132 + 74 * 0) (uE turn i cs 0) (fun _ => none) 0 { data := #[] }) := by
        have h9 := HS.out
        rw [uE_zero turn i cs] at h9
        exact h9
      clear HS
      go_wp2_with fail
      go_loopw [13] (fun vi wr => ∃ m : Nat, m ≤ i ∧ vi = .int .i64 (m : Int) ∧ Hid (PgS w1 wr gp g mb kv kP 10 (132 + 74 * m) (uE turn i cs m) (fun _ => none) 0 { data := #[] }) ∧ Hid (wr.ownsRow w1.heap.size 30 1 (.slice (some ⟨gi, 0, none⟩) i ci) i (idsL i))) (fun vi _ => i - (RowKit.intOf vi).toNat)
      case atStart => exact ⟨0, by omega, rfl, HS2, HO⟩
      case round =>
        clear HS2 HO
        obtain ⟨m, hmi, rfl, HS, HO⟩ := hrel
        by_cases hlt2 : m < i
        · have hki2 : (m : Int) < (i : Int) := by omega
          obtain ⟨k, hk0⟩ : ∃ k : Nat, (m + turn) % i = k := ⟨_, rfl⟩
          have hkl : k < i := by rw [← hk0]; exact Nat.mod_lt _ hl0
          have HK : Hid (((m : Int) + (turn : Int)) % (i : Int) = (k : Int)) := by show _ = _; rw [← hk0]; simp
          go_wp2_with fail
          rw [HK.out]
          have hm := Mem.start wr
          refine wp_ends0 ?_
          refine anyH_startB (T := fun W => W.cell? ⟨gi, k, none⟩ = some (.int .u32 (k : Int)) ∧ W.cell? ⟨b, o + k, none⟩ = some (.slice (Pt k) (cs k).length (Cp k))) (by kernel_rfl) hm ?_
          clear hm
          intro w7 hb7 hm7
          clear hm7
          have HS7 : Hid (PgS w1 w7 gp g mb kv kP 10 (132 + 74 * m) (uE turn i cs m) (fun _ => none) 0 { data := #[] }) := HS.out.below hb7
          have HO7 : Hid (w7.ownsRow w1.heap.size 30 1 (.slice (some ⟨gi, 0, none⟩) i ci) i (idsL i)) := own_bel HO.out hb7
          have HC7 : Hid (w7.cell? ⟨gi, k, none⟩ = some (.int .u32 (k : Int)) ∧ w7.cell? ⟨b, o + k, none⟩ = some (.slice (Pt k) (cs k).length (Cp k))) := ⟨own_at HO7.out hkl (idsL_get hkl), (HEL.out k hkl _ (PgS.bl HS7.out)).1⟩
          clear hb7 HS HO
          refine anyH_take 0 (v := .pointer (some ⟨gp, 0, none⟩)) rfl (by kernel_rfl) (by kernel_rfl) (by kernel_rfl) rfl (fun W _ => by go_simp) HC7.out ?_
          go_simp
          refine anyH_take 1 (v := .slice (some ⟨gi, 0, none⟩) i ci) rfl (by kernel_rfl) (by kernel_rfl) (by kernel_rfl) rfl (fun W _ => by go_simp) HC7.out ?_
          go_simp
          refine anyH_take 2 (v := .int .i64 (k : Int)) rfl (by kernel_rfl) (by kernel_rfl) (by kernel_rfl) rfl (fun W _ => by go_simp) HC7.out ?_
          go_simp
          refine anyH_take 3 (v := .pointer (some ⟨gi, k, none⟩)) rfl (by kernel_rfl) (by kernel_rfl) (by kernel_rfl) rfl (fun W _ => exec_ix0 un_u32s sz_u32 k rfl rfl rfl hkl) HC7.out ?_
          go_simp
          refine anyH_take 4 (v := .int .u32 (k : Int)) rfl (by kernel_rfl) (by kernel_rfl) (by kernel_rfl) rfl (fun W hW => exec_ldx (.int .u32 (k : Int)) hW.1 rfl ag_u32x) HC7.out ?_
          go_simp
          refine anyH_take 5 (v := .slice (some ⟨b, o, none⟩) i cap) rfl (by kernel_rfl) (by kernel_rfl) (by kernel_rfl) rfl (fun W _ => by go_simp) HC7.out ?_
          go_simp
          refine anyH_take 6 (v := .int .i64 (k : Int)) rfl (by kernel_rfl) (by kernel_rfl) (by kernel_rfl) rfl (fun W _ => by go_simp) HC7.out ?_
          go_simp
          refine anyH_take 7 (v := .pointer (some ⟨b, o + k, none⟩)) rfl (by kernel_rfl) (by kernel_rfl) (by kernel_rfl) rfl (fun W _ => exec_ixI un_bss sz_bse k rfl rfl rfl hkl) HC7.out ?_
          go_simp
          refine anyH_take 8 (v := .slice (Pt k) (cs k).length (Cp k)) rfl (by kernel_rfl) (by kernel_rfl) (by kernel_rfl) rfl (fun W hW => exec_ldx (.slice (Pt k) (cs k).length (Cp k)) hW.2 rfl ag_bs) HC7.out ?_
          go_simp
          refine wpAnyH_all (rs := [9]) (by kernel_rfl) (by simp) ?_
          intro i hi
          simp only [List.mem_cons, List.not_mem_nil, or_false] at hi
          subst hi
          refine anyH_opW 9 rfl rfl ?_
          intro K hK
          go_wp2_with (go_at_call 21; refine (write_s k (cs k) _ (by omega) (by omega) (by rw [uE_some _ _ _ _ _ hkl]; rfl) (HLN.out k hkl) (HBY.out k hkl) (by omega) _ (HEL.out k hkl _ (PgS.bl HS7.out)).2.1 HS7.out).mono ?_; rintro e w8 ⟨rfl, hs8, hf8⟩; rw [uE_next turn i cs m k hk0 hkl] at hs8; have HS8 : Hid (PgS w1 w8 gp g mb kv kP 10 (132 + 74 * m + 74) (uE turn i cs (m + 1)) (fun _ => none) 0 { data := #[] }) := hs8; have HO8 : Hid (w8.ownsRow w1.heap.size 30 1 (.slice (some ⟨gi, 0, none⟩) i ci) i (idsL i)) := own_fr HO7.out hf8; clear hs8 hf8 HS7 HO7)
          have HC8 : Hid (w8.cell? ⟨gi, k, none⟩ = some (.int .u32 (k : Int)) ∧ w8.cell? ⟨b, o + k, none⟩ = some (.slice (Pt k) (cs k).length (Cp k))) := ⟨own_at HO8.out hkl (idsL_get hkl), (HEL.out k hkl _ (PgS.bl HS8.out)).1⟩
          refine hK _ _ HC8.out ?_
          clear hK K
          refine anyH_take 10 (v := .bool false) rfl (by kernel_rfl) (by kernel_rfl) (by kernel_rfl) rfl (fun W _ => by go_simp) HC8.out ?_
          go_simp
          refine wpAnyH_done (by kernel_rfl) ?_ _
          simp only [endsIn]
          go_wp2_with fail
          refine ⟨⟨m + 1, by omega, by go_num, ?_, HO8⟩, by simp [RowKit.intOf]; omega⟩
          have h9 := HS8.out
          rw [show 132 + 74 * m + 74 = 132 + 74 * (m + 1) by omega] at h9
          exact h9
        · have hmi2 : m = i := by omega
          subst hmi2
          have hni2 : ¬ (m : Int) < (m : Int) := by omega
          go_wp2_with fail
          refine (commit_p 0 { data := #[] } (lE m cs) (uE_all turn m cs hl0 hl8) (by omega) ⟨by omega, by omega⟩ (by decide) mtE_bytes (by omega) _ HS.out).mono ?_
          rintro e wa ⟨he, hs, hf⟩
          subst he
          replace HO : Hid (wa.ownsRow w1.heap.size 30 1 (.slice (some ⟨gi, 0, none⟩) m ci) m (idsL m)) := own_fr HO.out hf
          have HSP : Hid (∃ ml mu P d, PgSd w1 wa gp g mb kv kP 10 (132 + 74 * m + 66) (uE turn m cs m) (lE m cs) 0 { data := #[] } ml mu P d ∧ ∀ i, d.pend i = none) := hs
          clear HS hs hf
          go_wp2_with fail
          refine (crash_s _ HSP.out).mono ?_
          rintro e wb ⟨he, hs, hf⟩
          subst he
          replace HO : Hid (wb.ownsRow w1.heap.size 30 1 (.slice (some ⟨gi, 0, none⟩) m ci) m (idsL m)) := own_fr HO.out hf
          have HS : Hid (PgS w1 wb gp g mb kv kP 10 (132 + 74 * m + 66) (uE turn m cs m) (lE m cs) 0 { data := #[] }) := hs
          clear HSP hs hf
          go_wp2_with fail
          go_loopw [15] (fun vi wr => ∃ q : Nat, q ≤ m ∧ vi = .int .i64 (q : Int) ∧ Hid (PgS w1 wr gp g mb kv kP 10 (132 + 74 * m + 66) (uE turn m cs m) (lE m cs) 0 { data := #[] }) ∧ Hid (wr.ownsRow w1.heap.size 30 1 (.slice (some ⟨gi, 0, none⟩) m ci) m (idsL m))) (fun vi _ => m - (RowKit.intOf vi).toNat)
          case atStart => exact ⟨0, by omega, rfl, HS, HO⟩
          case round =>
            clear HS HO
            obtain ⟨q, hqm, rfl, HS, HO⟩ := hrel
            by_cases hlt3 : q < m
            · have hki3 : (q : Int) < (m : Int) := by omega
              go_wp2_with (first
                | ((with_reducible refine at_op (some 102) (.indexAddr 66 (.tmp 100) (.tmp 101)) ?_); go_must (refine wpl_execG (.pointer (some ⟨gi, q, none⟩)) rfl (exec_ix0 un_u32s sz_u32 q rfl rfl rfl hlt3) ?_))
                | ((with_reducible refine at_op (some 103) (.load 30 (.tmp 102)) ?_); go_must (refine wpl_execG (.int .u32 (q : Int)) rfl (exec_ldx (.int .u32 (q : Int)) (own_at HO.out hlt3 (idsL_get hlt3)) rfl ag_u32x) ?_))
                | (go_at_call 27; refine (read_s (by omega) q (cs q) (by rw [uE_all turn m cs hl0 hl8]; unfold lE; rw [if_pos hlt3]; rfl) _ HS.out).mono ?_; rintro e w9 ⟨v', he, hv, hs, hf⟩; obtain ⟨pv, cv, hv9, hc9, hs9⟩ := hv; subst hv9; subst he; have HV : Hid (SlOld w9 (.slice pv (cs q).length cv) (cs q)) := ⟨pv, cv, rfl, hc9, hs9⟩; replace HS : Hid (PgS w1 w9 gp g mb kv kP 10 (132 + 74 * m + 66) (uE turn m cs m) (lE m cs) 0 { data := #[] }) := hs; replace HO : Hid (w9.ownsRow w1.heap.size 30 1 (.slice (some ⟨gi, 0, none⟩) m ci) m (idsL m)) := own_fr HO.out hf; clear hs hf hc9 hs9))
              have HBW : Hid (∀ W, Mem w9 [] W [] → Below w1.heap.size w1 W) := fun W hW => (PgS.bl HS.out).trans (hW.below.mono (PgS.bl HS.out).size)
              have hm := Mem.start w9
              refine wp_ends0 ?_
              refine anyH_startB (T := fun W => Mem w9 [] W []) (by kernel_rfl) hm ?_
              clear hm
              intro w10 hb10 hm
              clear hb10
              refine anyH_take 0 (v := .int .i64 0) rfl (by kernel_rfl) (by kernel_rfl) (by kernel_rfl) rfl (fun W _ => by go_simp) hm ?_
              go_simp
              refine anyH_take 1 (v := .bool false) rfl (by kernel_rfl) (by kernel_rfl) (by kernel_rfl) rfl (fun W _ => by go_simp) hm ?_
              go_simp
              refine anyH_take 2 (v := .bool false) rfl (by kernel_rfl) (by kernel_rfl) (by kernel_rfl) rfl (fun W _ => by go_simp) hm ?_
              go_simp
              refine anyH_takeG 3 (v := .slice pv (cs q).length cv) rfl (by kernel_rfl) (by kernel_rfl) (by kernel_rfl) rfl (fun W _ => by go_simp) hm ?_
              go_simp
              refine anyH_takeG 4 (v := .string (strOf (cs q))) rfl (by kernel_rfl) (by kernel_rfl) (by kernel_rfl) rfl (fun W hW => exec_tostr un_bs un_u8 un_strT _ rfl (SlOld.mem HV.out hW)) hm ?_
              go_simp
              refine anyH_takeG 5 (v := .slice (some ⟨b, o, none⟩) m cap) rfl (by kernel_rfl) (by kernel_rfl) (by kernel_rfl) rfl (fun W _ => by go_simp) hm ?_
              go_simp
              refine anyH_takeG 6 (v := .int .i64 (q : Int)) rfl (by kernel_rfl) (by kernel_rfl) (by kernel_rfl) rfl (fun W _ => by go_simp) hm ?_
              go_simp
              refine anyH_takeG 7 (v := .pointer (some ⟨b, o + q, none⟩)) rfl (by kernel_rfl) (by kernel_rfl) (by kernel_rfl) rfl (fun W _ => exec_ixI un_bss sz_bse q rfl rfl rfl hlt3) hm ?_
              go_simp
              refine anyH_takeG 8 (v := .slice (Pt q) (cs q).length (Cp q)) rfl (by kernel_rfl) (by kernel_rfl) (by kernel_rfl) rfl (fun W hW => exec_ldx (.slice (Pt q) (cs q).length (Cp q)) (HEL.out q hlt3 _ (HBW.out _ hW)).1 rfl ag_bs) hm ?_
              go_simp
              refine anyH_takeG 9 (v := .string (strOf (cs q))) rfl (by kernel_rfl) (by kernel_rfl) (by kernel_rfl) rfl (fun W hW => exec_tostr un_bs un_u8 un_strT _ rfl (HEL.out q hlt3 _ (HBW.out _ hW)).2.2) hm ?_
              go_simp
              refine anyH_takeG 10 (v := .bool false) rfl (by kernel_rfl) (by kernel_rfl) (by kernel_rfl) rfl (fun W _ => by go_simp) hm ?_
              go_simp
              refine anyH_take 11 (v := .bool false) rfl (by kernel_rfl) (by kernel_rfl) (by kernel_rfl) rfl (fun W _ => by go_simp) hm ?_
              go_simp
              refine wpAnyH_done (by kernel_rfl) ?_ _
              simp only [endsIn]
              go_wp2_with fail
              refine ⟨⟨q + 1, by omega, by go_num, PgS.below HS.out hm.below, own_bel HO.out hm.below⟩, by simp [RowKit.intOf]; omega⟩
            · have hqm2 : q = m := by omega
              subst hqm2
              have hni3 : ¬ (q : Int) < (q : Int) := by omega
              go_wp2_with fail
              go_ret
              exact ⟨rfl, HFIN.out _ (PgS.bl HS.out)⟩
theorem peach_any (p : Option Addr) (len cap b o turn : Nat) (Pt : Nat → Option Addr) (Cp : Nat → Nat) (cs : Nat → List Int) (htb : turn < 256) (w : World) (hp : 0 < len → p = some ⟨b, o, none⟩) (hel : ∀ i, i < len → w.cell? ⟨b, o + i, none⟩ = some (.slice (Pt i) (cs i).length (Cp i)) ∧ SlOld w (.slice (Pt i) (cs i).length (Cp i)) (cs i) ∧ Bytes (cs i)) (ht : Tab w) (hq : QTab w) (hw2 : 2 ≤ w.heap.size) :
    Calls Tryz.prog 8 #[.slice p len cap, .int .u8 (turn : Int)] w fun e w' => e = .returned (.bool true) ∧ Below w.heap.size w w' := by
  by_cases h : len = 0 ∨ 8 < len
  · exact peach_few p len cap turn h w ht hq hw2
  · have h0 : 0 < len := by omega
    rw [hp h0]
    exact peach_many len cap b o turn Pt Cp cs h0 (by omega) htb w hel ht hq hw2
end Go.Proofs.YtjmlgjbojmlibaaGreatDoor
