/- The walk of SectorImage. -/
import Derived.Test.YtlddkmjhkhliiaaSecImage
namespace Go.Proofs.Ytlddkmjhkhliiaa
open Go Go.RowKit Go.Maps
section
variable {P : Program} {ops : Array Oper} {rest : List Oper} {a : Act} {w w0 : World} {Q : Exit → Act → World → Prop} {dst : Option Tmp} {typ : TypeId} {pos : String} {aft : Array Edge} {gd : Option (Nat × Bool)} {S : List Nat} {rows : List (Nat × List Value × TypeId)}
set_option maxRecDepth 100000 in
theorem run_bsl1 (w : World) {t elem : TypeId} (z v : Value) (hu : P.underlying t = some (.slice elem)) (hi : (P.info? elem).map (fun i => (i.zero, i.size)) = some (some z, 1)) (hz : z.cells = #[z]) (hv : v.cells = #[v]) :
    (Instr.buildSlice t 1 #[(0, v)]).run P w = .ok (.slice (some ⟨w.heap.size, 0, none⟩) 1 1) (w.alloc (.cells [v].toArray elem)) := by
  obtain ⟨hz1, hs1⟩ := zero_of_info hi
  cases hq : P.info? elem with
  | none => simp [hq] at hi
  | some q =>
    have hs : q.size = 1 := by simpa [hq] using hs1
    have e : Array.map (fun x => ([z][x % 1]?).getD default) (Array.range 1) = #[z] := by
      apply Array.ext
      · simp
      · intro i h1 h2
        have h3 : i = 0 := by simpa using h2
        subst h3
        simp
    simp [Instr.buildSlice, run_underlying hu, sizeOf, typeInfo, hq, hs, hz1, hz, Instr.fill, hv, newRow, newObj]
    rw [e]
    rfl
set_option maxRecDepth 100000 in
theorem wpl_bsl1 {t elem : TypeId} {x : Operand} (hw : Region.wanted { dst := dst, op := .buildSlice t 1 #[(0, x)], type := typ, pos := pos, after := aft, guard := gd } (yielded ops a.tmps) = true) (z v : Value) (hu : P.underlying t = some (.slice elem)) (hi : (P.info? elem).map (fun i => (i.zero, i.size)) = some (some z, 1)) (hz : z.cells = #[z]) (hx : a.eval x = v) (hv : v.cells = #[v]) (hm : Mem w0 S w rows)
    (h : ∀ w' g, Below w.heap.size w w' → Mem w0 S w' ((g, [v], elem) :: rows) → wpList P ops Q rest (a.put dst (.slice (some ⟨g, 0, none⟩) 1 1)) w') :
    wpList P ops Q ({ dst := dst, op := .buildSlice t 1 #[(0, x)], type := typ, pos := pos, after := aft, guard := gd } :: rest) a w := by
  refine wpList_step fun K hK => ?_
  rw [if_pos hw]
  have hh := hK _ _ (h _ _ ((Below.refl _ _).alloc (Nat.le_refl _) _) (hm.alloc [v] elem))
  unfold Oper.wp execOp
  simp only [List.map_toArray, List.map_cons, List.map_nil, hx, run_bsl1 (P := P) w z v hu hi hz hv, Sem.run_bind, Sem.run_pure, Result.andThen_ok]
  exact hh
end

set_option maxRecDepth 100000 in
theorem anyH_startD {R : Act → World → Prop} {T : World → Prop} {id : Nat} {l : List Oper} {a : Act} {w w0 : World} {g mb : Nat} {kv : Value} {d : Dk} {rows : List (Nat × List Value × TypeId)} (hmix : Try.prog.follows .mixedOrders = true) (st : Sd w0 w g mb kv d rows)
    (h : ∀ w', Sd w0 w' g mb kv d rows → wpAnyH Try.prog .any l.toArray (endsIn R) T l.toArray.size (Array.replicate l.toArray.size false) a w') : (Code.region id l.toArray true).wp Try.prog (endsIn R) a w :=
  wp_region_held hmix (h _ st.drew)
set_option maxRecDepth 100000 in
theorem Sd.base {w w0 : World} {g mb : Nat} {kv : Value} {d : Dk} {rows : List (Nat × List Value × TypeId)} (st : Sd w0 w g mb kv d rows) : Mem w0 [] w [] := st.mem.sub (List.nil_sublist _)
set_option maxRecDepth 100000 in
theorem set_splice (L cs : List Int) (o : Nat) (x : Int) (ho : o < L.length) : splice (L.set o x) (o + 1) cs = splice L o (x :: cs) := by
  have e : L.set o x = L.take o ++ (x :: L.drop (o + 1)) := List.set_eq_take_append_cons_drop.trans (by rw [if_pos ho])
  have hl : (L.take o).length = o := by simp; omega
  unfold splice
  rw [e]
  have e1 : (L.take o ++ (x :: L.drop (o + 1))).take (o + 1) = L.take o ++ [x] := by
    rw [List.take_append, hl, List.take_of_length_le (by omega)]
    simp
  have e2 : (L.take o ++ (x :: L.drop (o + 1))).drop (o + 1 + cs.length) = L.drop (o + (cs.length + 1)) := by
    rw [List.drop_append, hl, List.drop_of_length_le (by omega), List.nil_append, show o + 1 + cs.length - o = cs.length + 1 by omega, List.drop_succ_cons, List.drop_drop]
    congr 1
    omega
  rw [e1, e2]
  simp
set_option maxRecDepth 100000 in
theorem built_b64 : Try.prog.built 42 [] = some (u8s zeroK).toArray := by kernel_rfl
set_option maxRecDepth 100000 in
theorem info_b64 : (Try.prog.info? 42).map (fun i => (i.zero, i.size)) = some (some (.agg (u8s zeroK).toArray), 64) := by kernel_rfl
set_option maxRecDepth 100000 in
theorem zero_b64 : ∀ w, (zeroValue 42).run Try.prog w = .ok (.agg (u8s zeroK).toArray) w := (zero_of_info info_b64).1
set_option maxRecDepth 100000 in
theorem old_piece {w : World} {g cap k : Nat} {W : Nat → List Int} {r : List Value} {t : TypeId} (hr : Row w g (u8s (flatK W 8) ++ r) t) (hl : ∀ k, k < 8 → (W k).length = 64) (hk : k < 8) (hc : 64 ≤ cap) : SlOld w (.slice (some ⟨g, 64 * k, none⟩) 64 cap) (W k) := by
  refine ⟨_, cap, by rw [hl k hk], by rw [hl k hk]; exact hc, fun _ => ⟨g, 64 * k, rfl, fun j hj => ?_⟩⟩
  rw [hl k hk] at hj
  have hfl := flatK_length W 8 hl
  rw [hr.cell, List.getElem?_append_left (by rw [u8s_length]; omega), u8s_get _ _ (by omega)]
  congr 2
  have h1 := flatK_at W 8 k hl hk
  rw [← h1, List.getD_eq_getElem?_getD, List.getD_eq_getElem?_getD, List.getElem?_take, if_pos hj, List.getElem?_drop, Nat.mul_comm]
set_option maxHeartbeats 1000000 in
set_option maxRecDepth 100000 in
theorem imageL_longA (pa pb : Option Addr) (la lb ca cb : Nat) (f : Bool) (h : 20 < la) (w : World) :
    Calls Try.prog 8 #[.slice pa la ca, .slice pb lb cb, .bool f] w fun e w' => e = .returned (.bool true) ∧ Below w.heap.size w w' := by
  have hm := Mem.start w
  have h1 : (la : Int) > 20 := by omega
  go_enter Try.func8, Try.ntmps8
  go_wp2_with (go_at_call 9; refine (known6_any _).mono ?_; rintro e wk ⟨rfl, hbk⟩; replace hm := hm.call hbk; clear hbk)
  go_ret
  exact ⟨rfl, hm.below⟩
set_option maxHeartbeats 1000000 in
set_option maxRecDepth 100000 in
theorem imageL_longB (pa pb : Option Addr) (la lb ca cb : Nat) (f : Bool) (h0 : la ≤ 20) (h : 64 < lb) (w : World) :
    Calls Try.prog 8 #[.slice pa la ca, .slice pb lb cb, .bool f] w fun e w' => e = .returned (.bool true) ∧ Below w.heap.size w w' := by
  have hm := Mem.start w
  have h1 : ¬ ((la : Int) > 20) := by omega
  have h2 : (lb : Int) > 64 := by omega
  go_enter Try.func8, Try.ntmps8
  go_wp2_with (go_at_call 9; refine (known6_any _).mono ?_; rintro e wk ⟨rfl, hbk⟩; replace hm := hm.call hbk; clear hbk)
  go_ret
  exact ⟨rfl, hm.below⟩
set_option maxHeartbeats 4000000 in
set_option maxRecDepth 100000 in
theorem imageL_flush (ls bs : List Int) (vl vb : Value) (hlb : Bytes ls) (hbb : Bytes bs) (w : World) (hsl : SlOld w vl ls) (hsb : SlOld w vb bs) (hll0 : ls.length ≤ 20) (hlb0 : bs.length ≤ 64) : Calls Try.prog 8 #[vl, vb, .bool true] w fun e w' => e = .returned (.bool true) ∧ Below w.heap.size w w' := by
  have hm := Mem.start w
  obtain ⟨pl, cl, rfl, hcapl⟩ := hsl.len
  obtain ⟨ll, hll⟩ : ∃ x, x = ls.length := ⟨_, rfl⟩
  have HSl : Hid (SlOld w (.slice pl ll cl) ls) := by rw [hll]; exact hsl
  rw [← hll] at hcapl
  rw [← hll]
  obtain ⟨pb, cb, rfl, hcapb⟩ := hsb.len
  obtain ⟨lb, hlbE⟩ : ∃ x, x = bs.length := ⟨_, rfl⟩
  have HSb : Hid (SlOld w (.slice pb lb cb) bs) := by rw [hlbE]; exact hsb
  rw [← hlbE] at hcapb
  rw [← hlbE]
  have hll1 : ¬ ((ll : Int) > 20) := by omega
  have hlb1 : ¬ ((lb : Int) > 64) := by omega
  have hll2 : ll ≤ 20 := by omega
  have hlb2 : lb ≤ 64 := by omega
  have HLB : Hid (Bytes ls) := hlb
  have HBB : Hid (Bytes bs) := hbb
  have HLL : Hid (∀ _ : Unit, ls.length = ll) := fun _ => hll.symm
  have HBL : Hid (∀ _ : Unit, bs.length = lb) := fun _ => hlbE.symm
  clear hll hlbE hlb hbb hsl hsb hll0 hlb0
  go_enter Try.func8, Try.ntmps8
  go_wp2_with (go_at_call 9; refine (known6_any _).mono ?_; rintro e wk ⟨rfl, hbk⟩; replace hm := hm.call hbk; clear hbk)
  go_at_call 10
  refine (new_any 8 _).mono ?_
  rintro e wn ⟨g, rfl, mb, kv, hd, hf, hb⟩
  have ST : Hid (Sd w wn g mb kv (Dk.new 8) []) := Sd.startR hm hb hd hf
  clear hd hf hb hm
  go_wp2_with (first
    | ((with_reducible refine at_op (some 8) (.alloc 47) ?_); go_must (refine wpl_alloc _ zero_w8 (Mem.start _) ?_); intro w3 qw hq; have SW' := Sd.took ST.out hq; clear hq ST; have SW : Hid (Sd w w3 g mb kv (Dk.new 8) [(qw, (u8s (flatK (fun _ => zeroK) 8)), 47)]) := SW'; clear SW'))
  go_loopw [9] (fun vi wr => ∃ (i : Nat) (d : Dk) (W : Nat → List Int), i ≤ ll ∧ vi = .int .i64 (i : Int) ∧ d.Like W (i : Int) ∧ (∀ k, k < 8 → d.kept k = zeroK) ∧ Sd w wr g mb kv d [(qw, u8s (flatK W 8), 47)]) (fun vi _ => ll - (intOf vi).toNat)
  case atStart => exact ⟨0, _, _, by omega, rfl, like_new, fun _ _ => rfl, SW.out⟩
  case round =>
    clear SW
    obtain ⟨i, d, W, hi, rfl, hd, hkz, st'⟩ := hrel
    have ST : Hid (Sd w wr g mb kv d [(qw, u8s (flatK W 8), 47)]) := st'
    have HD : Hid (d.Like W (i : Int)) := hd
    have HKZ : Hid (∀ k, k < 8 → d.kept k = zeroK) := hkz
    clear st' hd hkz
    by_cases hlt : i < ll
    · have hlt2 : (i : Int) < (ll : Int) := by omega
      have hsrc := (SlOld.src0 HSl.out).2.2
      obtain ⟨bl, ol, hpl, hseg⟩ := hsrc (by rw [HLL.out ()]; omega)
      subst hpl
      obtain ⟨x, hx⟩ : ∃ x, x = ls.getD i 0 := ⟨_, rfl⟩
      have HCI : Hid (∀ V, Mem w [] V [] → V.cell? ⟨bl, ol + i, none⟩ = some (.int .u8 x)) := fun V hV => by rw [hx]; exact (hseg.mem hV (by simp)) i (by rw [HLL.out ()]; exact hlt)
      have hxb : 0 ≤ x ∧ x < 256 := by rw [hx]; exact Bytes.get HLB.out i
      obtain ⟨hx0, hx1⟩ := hxb
      obtain ⟨k, hkx⟩ : ∃ k : Nat, k = (x % 8).toNat := ⟨_, rfl⟩
      have HK : Hid (∀ _ : Unit, x % 8 = (k : Int)) := fun _ => by omega
      have HKN : Hid (∀ _ : Unit, (x % 8).toNat = k) := fun _ => hkx.symm
      have hk8 : k < 8 := by omega
      obtain ⟨m, hmm⟩ : ∃ m : Nat, m = lb * i / ll / 2 := ⟨_, rfl⟩
      have hml : m ≤ 32 := by
        have h1 : lb * i / ll ≤ lb := Nat.div_le_of_le_mul (by rw [Nat.mul_comm]; exact Nat.mul_le_mul_right _ (by omega))
        omega
      have hmb : m ≤ lb := by
        have h1 : lb * i / ll ≤ lb := Nat.div_le_of_le_mul (by rw [Nat.mul_comm]; exact Nat.mul_le_mul_right _ (by omega))
        omega
      have HM : Hid (∀ _ : Unit, (lb : Int) * (i : Int) / (ll : Int) / 2 = (m : Int)) := fun _ => by rw [hmm]; simp
      have hmul : (lb : Int) * (i : Int) ≤ 64 * 20 := by
        have h1 : lb * i ≤ 64 * 20 := Nat.mul_le_mul hlb2 (by omega)
        exact_mod_cast h1
      have hmul0 : 0 ≤ (lb : Int) * (i : Int) := by exact_mod_cast Nat.zero_le (lb * i)
      have hnat : lb * i ≤ 64 * 20 := Nat.mul_le_mul hlb2 (by omega)
      have hq1 : lb * i / ll ≤ 64 := Nat.le_trans (Nat.div_le_of_le_mul (by rw [Nat.mul_comm]; exact Nat.mul_le_mul_right _ (by omega))) hlb2
      have HA1 : Hid (∀ _ : Unit, IntKind.i64.wrap ((lb : Int) * (i : Int)) = (lb : Int) * (i : Int)) := fun _ => by have h := wrap_nat (lb * i) (by omega); simpa using h
      have HA2 : Hid (∀ _ : Unit, IntKind.i64.wrap (((lb : Int) * (i : Int)).tdiv (ll : Int)) = (lb : Int) * (i : Int) / (ll : Int)) := fun _ => by rw [Int.tdiv_eq_ediv_of_nonneg hmul0]; have h := wrap_nat (lb * i / ll) (by omega); simpa using h
      have HA3 : Hid (∀ _ : Unit, IntKind.i64.wrap (((lb : Int) * (i : Int) / (ll : Int)).tdiv 2) = (lb : Int) * (i : Int) / (ll : Int) / 2) := fun _ => by
        have e : (lb : Int) * (i : Int) / (ll : Int) = ((lb * i / ll : Nat) : Int) := by simp
        rw [e, Int.tdiv_eq_ediv_of_nonneg (by omega)]
        have h := wrap_nat (lb * i / ll / 2) (by omega)
        simpa using h
      clear hnat hq1
      have HB5 : Hid (∀ V, Mem w [] V [] → SlOld V (.slice (cutHi pb cb) m cb) (bs.take m)) := fun V hV => old_hi (SlOld.mem HSb.out hV) m hmb
      obtain ⟨ms, hms⟩ : ∃ ms, ms = bs.take m := ⟨_, rfl⟩
      have HMS : Hid (∀ _ : Unit, bs.take m = ms) := fun _ => hms.symm
      have HML : Hid (ms.length = m) := by show _ = _; rw [hms, List.length_take, HBL.out ()]; omega
      have HMB : Hid (Bytes ms) := by rw [hms]; exact Bytes.take HBB.out m
      obtain ⟨W', hW'⟩ : ∃ V, V = upf W k (over (W k) (x :: ms)) := ⟨_, rfl⟩
      have HXB : Hid (Bytes (x :: ms)) := by
        intro y hy
        rcases List.mem_cons.1 hy with rfl | hy
        · exact ⟨hx0, hx1⟩
        · exact HMB.out y hy
      have HXL : Hid ((x :: ms).length ≤ 64) := by show _ ≤ _; rw [List.length_cons, HML.out]; omega
      have HLW : Hid (∀ e : Dk, e.Like W (i : Int) → (e.step.put k (over (e.now k) (x :: ms))).Like W' ((i : Int) + 1)) := fun e h => by rw [hW']; exact h.write k _ hk8 HXL.out HXB.out
      have HFL : Hid ((flatK W 8).length = 512) := by show _ = _; rw [flatK_length W 8 HD.out.len]
      have HSW : Hid (splice ((u8s (flatK W 8)).set (k * 64) (.int .u8 x)) (k * 64 + 1) (u8s (ms.take m)) = u8s (flatK W' 8)) := by
        show _ = _
        rw [List.take_of_length_le (by rw [HML.out]; exact Nat.le_refl _), u8s_set, u8s_splice, set_splice _ _ _ _ (by rw [HFL.out]; omega), flatK_over W 8 k _ HD.out.len HXL.out hk8, hW']
      have hm := Sd.base ST.out
      clear hsrc hseg hx hkx hmm hms hW'
      go_wp2_with (first
        | ((with_reducible refine at_op (some 35) (.indexAddr 28 (.tmp 33) (.tmp 34)) ?_); go_must (refine wpl_execG (.pointer (some ⟨bl, ol + i, none⟩)) rfl (exec_ixI un_bs sz_u8 i rfl rfl rfl hlt) ?_))
        | ((with_reducible refine at_op (some 36) (.load 5 (.tmp 35)) ?_); go_must (refine wpl_ldx (.int .u8 x) (HCI.out _ hm) rfl ag_u8 ?_)))
      refine wp_ends0 ?_
      refine anyH_startD (T := fun V => Mem w [] V []) (by kernel_rfl) ST.out ?_
      clear ST hm
      intro w4 st'
      have hm := Sd.base st'
      have ST : Hid (Sd w w4 g mb kv d [(qw, u8s (flatK W 8), 47)]) := st'
      clear st'
      refine anyH_takeG 0 (v := .pointer (some ⟨g, 0, none⟩)) rfl (by kernel_rfl) (by kernel_rfl) (by kernel_rfl) rfl (fun V _ => by go_simp) hm ?_
      go_simp
      refine anyH_takeG 1 (v := .int .i64 (x % 8)) rfl (by kernel_rfl) (by kernel_rfl) (by kernel_rfl) rfl (fun V _ => by go_simp) hm ?_
      go_simp
      refine anyH_takeG 2 (v := .slice (some ⟨bl, ol, none⟩) ll cl) rfl (by kernel_rfl) (by kernel_rfl) (by kernel_rfl) rfl (fun V _ => by go_simp) hm ?_
      go_simp
      refine anyH_takeG 3 (v := .int .i64 (i : Int)) rfl (by kernel_rfl) (by kernel_rfl) (by kernel_rfl) rfl (fun V _ => by go_simp) hm ?_
      go_simp
      refine anyH_takeG 4 (v := .pointer (some ⟨bl, ol + i, none⟩)) rfl (by kernel_rfl) (by kernel_rfl) (by kernel_rfl) rfl (fun V _ => exec_ixI un_bs sz_u8 i rfl rfl rfl hlt) hm ?_
      go_simp
      refine anyH_takeG 5 (v := .int .u8 x) rfl (by kernel_rfl) (by kernel_rfl) (by kernel_rfl) rfl (fun V hV => exec_ldxG (.int .u8 x) (HCI.out V hV) rfl ag_u8) hm ?_
      go_simp
      refine anyH_takeG 7 (v := .slice pb lb cb) rfl (by kernel_rfl) (by kernel_rfl) (by kernel_rfl) rfl (fun V _ => by go_simp) hm ?_
      go_simp
      refine anyH_takeG 8 (v := .slice pb lb cb) rfl (by kernel_rfl) (by kernel_rfl) (by kernel_rfl) rfl (fun V _ => by go_simp) hm ?_
      go_simp
      refine anyH_takeG 9 (v := .int .i64 (lb : Int)) rfl (by kernel_rfl) (by kernel_rfl) (by kernel_rfl) rfl (fun V _ => by go_simp) hm ?_
      go_simp
      refine anyH_takeG 10 (v := .int .i64 (i : Int)) rfl (by kernel_rfl) (by kernel_rfl) (by kernel_rfl) rfl (fun V _ => by go_simp) hm ?_
      go_simp
      refine anyH_takeG 11 (v := .int .i64 ((lb : Int) * (i : Int))) rfl (by kernel_rfl) (by kernel_rfl) (by kernel_rfl) rfl (fun V _ => by go_simp; exact HA1.out ()) hm ?_
      go_simp
      refine anyH_takeG 12 (v := .slice (some ⟨bl, ol, none⟩) ll cl) rfl (by kernel_rfl) (by kernel_rfl) (by kernel_rfl) rfl (fun V _ => by go_simp) hm ?_
      go_simp
      refine anyH_takeG 13 (v := .int .i64 (ll : Int)) rfl (by kernel_rfl) (by kernel_rfl) (by kernel_rfl) rfl (fun V _ => by go_simp) hm ?_
      go_simp
      refine anyH_takeG 14 (v := .int .i64 (ll : Int)) rfl (by kernel_rfl) (by kernel_rfl) (by kernel_rfl) rfl (fun V _ => by go_simp; omega) hm ?_
      go_simp
      refine anyH_takeG 15 (v := .int .i64 ((lb : Int) * (i : Int) / (ll : Int))) rfl (by kernel_rfl) (by kernel_rfl) (by kernel_rfl) rfl (fun V _ => by go_simp; rw [if_neg (by omega), HA2.out ()]) hm ?_
      go_simp
      refine anyH_takeG 16 (v := .int .i64 ((lb : Int) * (i : Int) / (ll : Int) / 2)) rfl (by kernel_rfl) (by kernel_rfl) (by kernel_rfl) rfl (fun V _ => by go_simp; exact HA3.out ()) hm ?_
      go_simp
      refine anyH_takeG 17 (v := .slice (cutHi pb cb) m cb) rfl (by kernel_rfl) (by kernel_rfl) (by kernel_rfl) rfl (fun V _ => exec_sHi un_bs sz_u8 m (by omega) rfl rfl (HM.out ())) hm ?_
      go_simp
      refine wpAnyH_all (rs := [6]) (by kernel_rfl) (by simp) ?_
      intro i' hi'
      simp only [List.mem_cons, List.not_mem_nil, or_false] at hi'
      subst hi'
      refine anyH_opW 6 rfl rfl ?_
      intro K hK
      refine wpl_bsl1 rfl (.int .u8 0) (.int .u8 x) un_bs info_u8 rfl rfl rfl (Mem.start _) ?_
      intro w5 q hb5 hq
      have ho5 := own_row (zs := [x]) (base := w.heap.size) (hq.get 0 rfl) (by have h1 := hq.fresh _ (List.mem_cons_self ..); simp at h1; have h2 := hm.size; omega) (by simp)
      have st5 := Sd.below ST.out hb5
      have HO5 : Hid (OwnB 5 w5 w.heap.size (.slice (some ⟨q, 0, none⟩) 1 1) [x]) := ho5
      clear ST hm ho5 hq hb5
      have ST : Hid (Sd w w5 g mb kv d [(qw, u8s (flatK W 8), 47)]) := st5
      have hm := Sd.base ST.out
      clear st5
      refine wpList_nil ?_
      refine hK _ _ hm ?_
      clear hK K
      go_simp
      refine wpAnyH_all (rs := [18]) (by kernel_rfl) (by simp) ?_
      intro i' hi'
      simp only [List.mem_cons, List.not_mem_nil, or_false] at hi'
      subst hi'
      refine anyH_opW 18 rfl rfl ?_
      intro K hK
      refine wpl_appD rfl ms ST.out HO5.out (by intro r hr; simp only [List.mem_cons, List.not_mem_nil, or_false] at hr; subst hr; simp) rfl rfl HML.out.symm (fun h0 => by have h1 := HB5.out _ hm; rw [HMS.out ()] at h1; exact (SlOld.src0 h1).2.2 h0) (by rw [HML.out]; simp; omega) ?_
      intro v6 w6 ho6 st6
      have HO6 : Hid (OwnB 5 w6 w.heap.size v6 (x :: ms)) := ho6
      clear ST hm ho6 HO5
      have ST : Hid (Sd w w6 g mb kv d [(qw, u8s (flatK W 8), 47)]) := st6
      have hm := Sd.base ST.out
      clear st6
      refine wpList_nil ?_
      refine hK _ _ hm ?_
      clear hK K
      go_simp
      refine wpAnyH_all (rs := [19]) (by kernel_rfl) (by simp) ?_
      intro i' hi'
      simp only [List.mem_cons, List.not_mem_nil, or_false] at hi'
      subst hi'
      refine anyH_opW 19 rfl rfl ?_
      intro K hK
      go_wp2_with (go_at_call 12; refine (write_ok ST.out (x % 8) (x :: ms) _ (by omega) (by rw [HD.out.n]; show x % 8 < 8; omega) HD.out.calm.step.off HXL.out HXB.out (HD.out.num (by omega)) (OwnB.slA HO6.out (Sd.dk ST.out))).mono ?_; rintro e w7 ⟨rfl, st7⟩; rw [HKN.out ()] at st7)
      obtain ⟨d7, hd7⟩ : ∃ e, e = d.step.put k (over (d.now k) (x :: ms)) := ⟨_, rfl⟩
      have HD7 : Hid (d7.Like W' ((i : Int) + 1)) := by rw [hd7]; exact HLW.out d HD.out
      have HKZ7 : Hid (∀ k, k < 8 → d7.kept k = zeroK) := by rw [hd7]; exact HKZ.out
      have st8 := Sd.congr st7 hd7.symm
      clear ST hm st7 hd7 HO6
      have ST : Hid (Sd w w7 g mb kv d7 [(qw, u8s (flatK W 8), 47)]) := st8
      have hm := Sd.base ST.out
      clear st8
      refine hK _ _ hm ?_
      clear hK K
      go_simp
      refine anyH_takeG 20 (v := .bool false) rfl (by kernel_rfl) (by kernel_rfl) (by kernel_rfl) rfl (fun V _ => by go_simp) hm ?_
      go_simp
      refine wpAnyH_done (by kernel_rfl) ?_ _
      simp only [endsIn]
      go_wp2_with fail
      refine wp_ends0 ?_
      refine anyH_startD (T := fun V => Mem w [] V []) (by kernel_rfl) ST.out ?_
      clear ST hm
      intro w8 st'
      have hm := Sd.base st'
      have ST : Hid (Sd w w8 g mb kv d7 [(qw, u8s (flatK W 8), 47)]) := st'
      clear st'
      refine anyH_takeG 0 (v := .int .i64 (x % 8)) rfl (by kernel_rfl) (by kernel_rfl) (by kernel_rfl) rfl (fun V _ => by go_simp) hm ?_
      go_simp
      refine anyH_takeG 1 (v := .slice (some ⟨bl, ol, none⟩) ll cl) rfl (by kernel_rfl) (by kernel_rfl) (by kernel_rfl) rfl (fun V _ => by go_simp) hm ?_
      go_simp
      refine anyH_takeG 2 (v := .int .i64 (i : Int)) rfl (by kernel_rfl) (by kernel_rfl) (by kernel_rfl) rfl (fun V _ => by go_simp) hm ?_
      go_simp
      refine anyH_takeG 3 (v := .pointer (some ⟨bl, ol + i, none⟩)) rfl (by kernel_rfl) (by kernel_rfl) (by kernel_rfl) rfl (fun V _ => exec_ixI un_bs sz_u8 i rfl rfl rfl hlt) hm ?_
      go_simp
      refine anyH_takeG 4 (v := .int .u8 x) rfl (by kernel_rfl) (by kernel_rfl) (by kernel_rfl) rfl (fun V hV => exec_ldxG (.int .u8 x) (HCI.out V hV) rfl ag_u8) hm ?_
      go_simp
      refine anyH_takeG 5 (v := .pointer (some ⟨qw, k * 64, none⟩)) rfl (by kernel_rfl) (by kernel_rfl) (by kernel_rfl) rfl (fun V _ => exec_ixP k rfl rfl (HK.out ()) hk8) hm ?_
      go_simp
      refine anyH_takeG 6 (v := .pointer (some ⟨qw, k * 64, none⟩)) rfl (by kernel_rfl) (by kernel_rfl) (by kernel_rfl) rfl (fun V _ => by go_simp) hm ?_
      go_simp
      refine wpAnyH_all (rs := [7]) (by kernel_rfl) (by simp) ?_
      intro i' hi'
      simp only [List.mem_cons, List.not_mem_nil, or_false] at hi'
      subst hi'
      refine anyH_opW 7 rfl rfl ?_
      intro K hK
      refine wpl_stc 0 (k * 64) (.int .u8 x) (Mem.enter ((Sd.mem ST.out).get 0 rfl)) rfl rfl rfl sz_u8 (by rw [u8s_length, HFL.out]; omega) rfl rfl ?_
      intro w9 hq
      have st' := Sd.turned ST.out 0 rfl hq
      clear hq ST hm
      have ST : Hid (Sd w w9 g mb kv d7 [(qw, (u8s (flatK W 8)).set (k * 64) (.int .u8 x), 47)]) := st'
      have hm := Sd.base ST.out
      clear st'
      refine wpList_nil ?_
      refine hK _ _ hm ?_
      clear hK K
      go_simp
      refine wpAnyH_done (by kernel_rfl) ?_ _
      simp only [endsIn]
      go_wp2_with fail
      refine wp_ends0 ?_
      refine anyH_startD (T := fun V => Mem w [] V []) (by kernel_rfl) ST.out ?_
      clear ST hm
      intro w10 st'
      have hm := Sd.base st'
      have ST : Hid (Sd w w10 g mb kv d7 [(qw, (u8s (flatK W 8)).set (k * 64) (.int .u8 x), 47)]) := st'
      clear st'
      refine anyH_takeG 0 (v := .int .i64 (x % 8)) rfl (by kernel_rfl) (by kernel_rfl) (by kernel_rfl) rfl (fun V _ => by go_simp) hm ?_
      go_simp
      refine anyH_takeG 1 (v := .pointer (some ⟨qw, k * 64, none⟩)) rfl (by kernel_rfl) (by kernel_rfl) (by kernel_rfl) rfl (fun V _ => exec_ixP k rfl rfl (HK.out ()) hk8) hm ?_
      go_simp
      refine anyH_takeG 2 (v := .slice (some ⟨qw, k * 64 + 1, none⟩) 63 63) rfl (by kernel_rfl) (by kernel_rfl) (by kernel_rfl) rfl (fun V _ => exec_slaG 64 un_b64 sz_u8 1 63 (by omega) (by omega) rfl (Or.inl rfl) (Or.inr ⟨rfl, rfl⟩)) hm ?_
      go_simp
      refine anyH_takeG 3 (v := .slice pb lb cb) rfl (by kernel_rfl) (by kernel_rfl) (by kernel_rfl) rfl (fun V _ => by go_simp) hm ?_
      go_simp
      refine anyH_takeG 4 (v := .slice pb lb cb) rfl (by kernel_rfl) (by kernel_rfl) (by kernel_rfl) rfl (fun V _ => by go_simp) hm ?_
      go_simp
      refine anyH_takeG 5 (v := .int .i64 (lb : Int)) rfl (by kernel_rfl) (by kernel_rfl) (by kernel_rfl) rfl (fun V _ => by go_simp) hm ?_
      go_simp
      refine anyH_takeG 6 (v := .int .i64 (i : Int)) rfl (by kernel_rfl) (by kernel_rfl) (by kernel_rfl) rfl (fun V _ => by go_simp) hm ?_
      go_simp
      refine anyH_takeG 7 (v := .int .i64 ((lb : Int) * (i : Int))) rfl (by kernel_rfl) (by kernel_rfl) (by kernel_rfl) rfl (fun V _ => by go_simp; exact HA1.out ()) hm ?_
      go_simp
      refine anyH_takeG 8 (v := .slice (some ⟨bl, ol, none⟩) ll cl) rfl (by kernel_rfl) (by kernel_rfl) (by kernel_rfl) rfl (fun V _ => by go_simp) hm ?_
      go_simp
      refine anyH_takeG 9 (v := .int .i64 (ll : Int)) rfl (by kernel_rfl) (by kernel_rfl) (by kernel_rfl) rfl (fun V _ => by go_simp) hm ?_
      go_simp
      refine anyH_takeG 10 (v := .int .i64 (ll : Int)) rfl (by kernel_rfl) (by kernel_rfl) (by kernel_rfl) rfl (fun V _ => by go_simp; omega) hm ?_
      go_simp
      refine anyH_takeG 11 (v := .int .i64 ((lb : Int) * (i : Int) / (ll : Int))) rfl (by kernel_rfl) (by kernel_rfl) (by kernel_rfl) rfl (fun V _ => by go_simp; rw [if_neg (by omega), HA2.out ()]) hm ?_
      go_simp
      refine anyH_takeG 12 (v := .int .i64 ((lb : Int) * (i : Int) / (ll : Int) / 2)) rfl (by kernel_rfl) (by kernel_rfl) (by kernel_rfl) rfl (fun V _ => by go_simp; exact HA3.out ()) hm ?_
      go_simp
      refine anyH_takeG 13 (v := .slice (cutHi pb cb) m cb) rfl (by kernel_rfl) (by kernel_rfl) (by kernel_rfl) rfl (fun V _ => exec_sHi un_bs sz_u8 m (by omega) rfl rfl (HM.out ())) hm ?_
      go_simp
      refine wpAnyH_all (rs := [14]) (by kernel_rfl) (by simp) ?_
      intro i' hi'
      simp only [List.mem_cons, List.not_mem_nil, or_false] at hi'
      subst hi'
      refine anyH_opW 14 rfl rfl ?_
      intro K hK
      refine wpl_cp 0 ms m (u8s (flatK W' 8)) (Mem.enter ((Sd.mem ST.out).get 0 rfl)) rfl rfl rfl _ un_bs sz_u8 (by have h1 := HB5.out _ hm; rw [HMS.out ()] at h1; exact h1) (by show m = min m 63; omega) (by rw [List.length_set, u8s_length, HFL.out]; omega) HSW.out ?_
      intro w11 hq
      have st' := Sd.turned ST.out 0 rfl hq
      clear hq ST hm
      have ST : Hid (Sd w w11 g mb kv d7 [(qw, u8s (flatK W' 8), 47)]) := st'
      have hm := Sd.base ST.out
      clear st'
      refine wpList_nil ?_
      refine hK _ _ hm ?_
      clear hK K
      go_simp
      refine wpAnyH_done (by kernel_rfl) ?_ _
      simp only [endsIn]
      go_wp2_with fail
      go_roundw
      case rel => exact ⟨i + 1, d7, W', by omega, by go_num, HD7.out, HKZ7.out, ST.out⟩
      case measure => simp [intOf]; omega
    · have hlt2 : ¬ ((i : Int) < (ll : Int)) := by omega
      go_wp2_with fail
      go_at_call 14
      refine (flush_ok ST.out HD.out.calm.step.off (HD.out.num (by omega))).mono ?_
      rintro e w4 ⟨rfl, st'⟩
      obtain ⟨d4, hd4⟩ : ∃ x, x = d.step.flushed := ⟨_, rfl⟩
      have HD4 : Hid (d4.Like W ((i : Int) + 1)) := by rw [hd4]; exact HD.out.flush
      have HK4 : Hid (flatK d4.kept d4.n = flatK W 8) := by
        show _ = _
        rw [HD4.out.n]
        refine flatK_congr _ _ 8 (fun j hj => ?_)
        rw [hd4]
        exact HD.out.now j hj
      have st4 := Sd.congr st' hd4.symm
      clear ST st' hd4 HD HKZ
      have ST : Hid (Sd w w4 g mb kv d4 [(qw, u8s (flatK W 8), 47)]) := st4
      clear st4
      go_wp2_with fail
      have HKL : Hid (∀ k, k < 8 → (W k).length = 64) := HD4.out.len
      have HFK : Hid ((flatK W 8).length = 512) := by show _ = _; rw [flatK_length _ 8 HKL.out]
      go_at_call 21
      refine (image_any g mb kv d4 _ (Sd.dk ST.out)).mono ?_
      rintro e w5 ⟨v, he, ho, hb⟩
      rw [HK4.out] at ho
      obtain ⟨qi, ci, ti, hv, hqi, hri, hci⟩ := OwnB.row ho (by rw [HFK.out]; omega)
      rw [HFK.out] at hv hci
      subst hv
      subst he
      have st5 := Sd.row ST.out hb hri hqi
      clear ST ho hb hri hqi
      have ST : Hid (Sd w w5 g mb kv d4 [(qi, u8s (flatK W 8) ++ ti, 5), (qw, u8s (flatK W 8), 47)]) := st5
      clear st5
      go_wp2_with fail
      go_loopw [12] (fun vi wr => ∃ k : Nat, k ≤ 8 ∧ vi = .int .i64 (k : Int) ∧ Sd w wr g mb kv d4 [(qi, u8s (flatK W 8) ++ ti, 5), (qw, u8s (flatK W 8), 47)]) (fun vi _ => 8 - (intOf vi).toNat)
      case atStart => exact ⟨0, by omega, rfl, ST.out⟩
      case round =>
        clear ST
        obtain ⟨k, hk, rfl, st'⟩ := hrel
        have ST : Hid (Sd w wr g mb kv d4 [(qi, u8s (flatK W 8) ++ ti, 5), (qw, u8s (flatK W 8), 47)]) := st'
        clear st'
        by_cases hk8 : k < 8
        · have hk9 : (k : Int) < 8 := by omega
          have HA4 : Hid (∀ _ : Unit, IntKind.i64.wrap (64 * (k : Int)) = 64 * (k : Int)) := fun _ => by have h := wrap_nat (64 * k) (by omega); simpa using h
          have HA5 : Hid (∀ _ : Unit, IntKind.i64.wrap (64 * (k : Int) + 64) = 64 * (k : Int) + 64) := fun _ => by have h := wrap_nat (64 * k + 64) (by omega); simpa using h
          have HZ : Hid ((u8s zeroK).length = 64) := by show _ = _; rw [u8s_length]; exact zeroK_length
          have HWK : Hid ((u8s (W k)).length = 64) := by show _ = _; rw [u8s_length]; exact HD4.out.len k hk8
          go_wp2_with fail
          go_at_call 24
          refine (read_ok ST.out (k : Int) (by omega) (by rw [HD4.out.n]; exact hk9) HD4.out.calm.off).mono ?_
          rintro e w6 ⟨qr, rfl, st'⟩
          rw [Int.toNat_natCast, HD4.out.now k hk8] at st'
          have SR : Hid (Sd w w6 g mb kv d4 ((qr, u8s (W k), 62) :: [(qi, u8s (flatK W 8) ++ ti, 5), (qw, u8s (flatK W 8), 47)])) := st'
          clear st' ST
          go_wp2_with (first
            | ((with_reducible refine at_op (some 100) (.build 42 #[]) ?_); go_must (refine wpl_build (pl := []) (u8s zeroK) [] rfl built_b64 ?_))
            | ((with_reducible refine at_op (some 15) (.alloc 42) ?_); go_must (refine wpl_alloc _ zero_b64 (Mem.start _) ?_); intro w7 qz hq; have st' := Sd.took SR.out hq; clear hq SR; have SR : Hid (Sd w w7 g mb kv d4 ((qz, u8s zeroK, 42) :: (qr, u8s (W k), 62) :: [(qi, u8s (flatK W 8) ++ ti, 5), (qw, u8s (flatK W 8), 47)])) := st'; clear st')
            | ((with_reducible refine at_op none (.store 42 (.tmp 15) (.tmp 100)) ?_); go_must (refine wpl_stw 0 (u8s zeroK) (Mem.enter ((Sd.mem SR.out).get 0 rfl)) rfl rfl rfl 64 sz_b64 HZ.out HZ.out (u8s_one _) ?_); intro w8 hq; have st' := Sd.turned SR.out 0 rfl hq; clear hq SR; have SR : Hid (Sd w w8 g mb kv d4 ((qz, u8s zeroK, 42) :: (qr, u8s (W k), 62) :: [(qi, u8s (flatK W 8) ++ ti, 5), (qw, u8s (flatK W 8), 47)])) := st'; clear st')
            | ((with_reducible refine at_op (some 103) (.indexAddr 47 (.tmp 8) (.tmp 102)) ?_); go_must (refine wpl_execG (.pointer (some ⟨qw, k * 64, none⟩)) rfl (exec_ixP k rfl rfl rfl hk8) ?_))
            | ((with_reducible refine at_op (some 104) (.load 42 (.tmp 103)) ?_); go_must (refine wpl_execG (.agg (u8s (W k)).toArray) rfl (exec_ldsG (k * 64) (u8s (W k)) ((Sd.mem SR.out).get 3 rfl) rfl _ un_b64 rfl 64 sz_b64 (by have := kept_len [] HD4.out.len hk8; simpa using this) (by have := kept_sub [] HD4.out.len hk8; simpa using this)) ?_))
            | ((with_reducible refine at_op none (.store 42 (.tmp 15) (.tmp 104)) ?_); go_must (refine wpl_stw 0 (u8s (W k)) (Mem.enter ((Sd.mem SR.out).get 0 rfl)) rfl rfl rfl 64 sz_b64 HZ.out HWK.out (u8s_one _) ?_); intro w9 hq; have st' := Sd.turned SR.out 0 rfl hq; clear hq SR; have SR : Hid (Sd w w9 g mb kv d4 ((qz, u8s (W k), 42) :: (qr, u8s (W k), 62) :: [(qi, u8s (flatK W 8) ++ ti, 5), (qw, u8s (flatK W 8), 47)])) := st'; clear st'))
          have hm := Mem.start w9
          refine wp_ends0 ?_
          refine anyH_start (T := fun V => Mem w9 [] V []) (by kernel_rfl) hm ?_
          clear hm
          intro wx hm
          refine anyH_takeG 0 (v := .int .i64 0) rfl (by kernel_rfl) (by kernel_rfl) (by kernel_rfl) rfl (fun V _ => by go_simp) hm ?_
          go_simp
          refine anyH_takeG 1 (v := .bool false) rfl (by kernel_rfl) (by kernel_rfl) (by kernel_rfl) rfl (fun V _ => by go_simp) hm ?_
          go_simp
          refine anyH_takeG 2 (v := .bool false) rfl (by kernel_rfl) (by kernel_rfl) (by kernel_rfl) rfl (fun V _ => by go_simp) hm ?_
          go_simp
          refine anyH_takeG 3 (v := .slice (some ⟨qr, 0, none⟩) 64 64) rfl (by kernel_rfl) (by kernel_rfl) (by kernel_rfl) rfl (fun V _ => by go_simp) hm ?_
          go_simp
          refine anyH_takeG 4 (v := .string (strOf (W k))) rfl (by kernel_rfl) (by kernel_rfl) (by kernel_rfl) rfl (fun V hV => exec_tostr un_bs un_u8 un_strT (W k) rfl (SlOld.mem (old_all ((Sd.mem SR.out).get 1 rfl) (HD4.out.len k hk8) (Nat.le_refl _)) hV)) hm ?_
          go_simp
          refine anyH_takeG 5 (v := .int .i64 (k : Int)) rfl (by kernel_rfl) (by kernel_rfl) (by kernel_rfl) rfl (fun V _ => by go_simp) hm ?_
          go_simp
          refine anyH_takeG 6 (v := .pointer (some ⟨qw, k * 64, none⟩)) rfl (by kernel_rfl) (by kernel_rfl) (by kernel_rfl) rfl (fun V _ => exec_ixP k rfl rfl rfl hk8) hm ?_
          go_simp
          refine anyH_takeG 7 (v := .slice (some ⟨qw, k * 64, none⟩) 64 64) rfl (by kernel_rfl) (by kernel_rfl) (by kernel_rfl) rfl (fun V _ => exec_slaG 64 un_b64 sz_u8 0 64 (by omega) (by omega) rfl (Or.inr ⟨rfl, rfl⟩) (Or.inr ⟨rfl, rfl⟩)) hm ?_
          go_simp
          refine anyH_takeG 8 (v := .string (strOf (W k))) rfl (by kernel_rfl) (by kernel_rfl) (by kernel_rfl) rfl (fun V hV => exec_tostr un_bs un_u8 un_strT (W k) rfl (SlOld.mem (old_want k ((Sd.mem SR.out).get 3 rfl) HD4.out.len hk8) hV)) hm ?_
          go_simp
          refine anyH_takeG 9 (v := .bool false) rfl (by kernel_rfl) (by kernel_rfl) (by kernel_rfl) rfl (fun V _ => exec_nes (strOf (W k)) (strOf (W k)) true rfl rfl (beq_self_str _)) hm ?_
          go_simp
          refine anyH_takeG 10 (v := .bool false) rfl (by kernel_rfl) (by kernel_rfl) (by kernel_rfl) rfl (fun V _ => by go_simp) hm ?_
          go_simp
          refine anyH_takeG 11 (v := .bool false) rfl (by kernel_rfl) (by kernel_rfl) (by kernel_rfl) rfl (fun V _ => by go_simp) hm ?_
          go_simp
          refine anyH_takeG 12 (v := .slice (some ⟨qi, 0, none⟩) 512 ci) rfl (by kernel_rfl) (by kernel_rfl) (by kernel_rfl) rfl (fun V _ => by go_simp) hm ?_
          go_simp
          refine anyH_takeG 13 (v := .int .i64 (k : Int)) rfl (by kernel_rfl) (by kernel_rfl) (by kernel_rfl) rfl (fun V _ => by go_simp) hm ?_
          go_simp
          refine anyH_takeG 14 (v := .int .i64 (64 * (k : Int))) rfl (by kernel_rfl) (by kernel_rfl) (by kernel_rfl) rfl (fun V _ => by go_simp; exact HA4.out ()) hm ?_
          go_simp
          refine anyH_takeG 15 (v := .int .i64 (k : Int)) rfl (by kernel_rfl) (by kernel_rfl) (by kernel_rfl) rfl (fun V _ => by go_simp) hm ?_
          go_simp
          refine anyH_takeG 16 (v := .int .i64 (64 * (k : Int))) rfl (by kernel_rfl) (by kernel_rfl) (by kernel_rfl) rfl (fun V _ => by go_simp; exact HA4.out ()) hm ?_
          go_simp
          refine anyH_takeG 17 (v := .int .i64 (64 * (k : Int) + 64)) rfl (by kernel_rfl) (by kernel_rfl) (by kernel_rfl) rfl (fun V _ => by go_simp; exact HA5.out ()) hm ?_
          go_simp
          refine anyH_takeG 18 (v := .slice (some ⟨qi, 64 * k, none⟩) 64 (ci - 64 * k)) rfl (by kernel_rfl) (by kernel_rfl) (by kernel_rfl) rfl (fun V _ => exec_slh2 un_bs sz_u8 (64 * k) (64 * k) 64 (by omega) (by omega) (by omega) rfl rfl (by omega) rfl (by omega)) hm ?_
          go_simp
          refine anyH_takeG 19 (v := .string (strOf (W k))) rfl (by kernel_rfl) (by kernel_rfl) (by kernel_rfl) rfl (fun V hV => exec_tostr un_bs un_u8 un_strT (W k) rfl (SlOld.mem (old_piece (W := W) ((Sd.mem SR.out).get 2 rfl) HKL.out hk8 (by omega)) hV)) hm ?_
          go_simp
          refine anyH_takeG 20 (v := .slice (some ⟨qz, 0, none⟩) 64 64) rfl (by kernel_rfl) (by kernel_rfl) (by kernel_rfl) rfl (fun V _ => exec_slaG 64 un_b64 sz_u8 0 64 (by omega) (by omega) rfl (Or.inr ⟨rfl, rfl⟩) (Or.inr ⟨rfl, rfl⟩)) hm ?_
          go_simp
          refine anyH_takeG 21 (v := .string (strOf (W k))) rfl (by kernel_rfl) (by kernel_rfl) (by kernel_rfl) rfl (fun V hV => exec_tostr un_bs un_u8 un_strT (W k) rfl (SlOld.mem (old_all ((Sd.mem SR.out).get 0 rfl) (HD4.out.len k hk8) (Nat.le_refl _)) hV)) hm ?_
          go_simp
          refine anyH_takeG 22 (v := .bool false) rfl (by kernel_rfl) (by kernel_rfl) (by kernel_rfl) rfl (fun V _ => exec_nes (strOf (W k)) (strOf (W k)) true rfl rfl (beq_self_str _)) hm ?_
          go_simp
          refine anyH_takeG 23 (v := .bool false) rfl (by kernel_rfl) (by kernel_rfl) (by kernel_rfl) rfl (fun V _ => by go_simp) hm ?_
          go_simp
          refine wpAnyH_done (by kernel_rfl) ?_ _
          simp only [endsIn]
          go_wp2_with fail
          go_roundw
          case rel => exact ⟨k + 1, by omega, by go_num, (Sd.below SR.out hm.below).tail.tail⟩
          case measure => simp [intOf]; omega
        · have hk9 : ¬ ((k : Int) < 8) := by omega
          go_wp2_with fail
          go_ret
          exact ⟨rfl, (Sd.mem ST.out).below⟩
set_option maxHeartbeats 4000000 in
set_option maxRecDepth 100000 in
theorem imageL_not (ls bs : List Int) (vl vb : Value) (hlb : Bytes ls) (hbb : Bytes bs) (w : World) (hsl : SlOld w vl ls) (hsb : SlOld w vb bs) (hll0 : ls.length ≤ 20) (hlb0 : bs.length ≤ 64) : Calls Try.prog 8 #[vl, vb, .bool false] w fun e w' => e = .returned (.bool true) ∧ Below w.heap.size w w' := by
  have hm := Mem.start w
  obtain ⟨pl, cl, rfl, hcapl⟩ := hsl.len
  obtain ⟨ll, hll⟩ : ∃ x, x = ls.length := ⟨_, rfl⟩
  have HSl : Hid (SlOld w (.slice pl ll cl) ls) := by rw [hll]; exact hsl
  rw [← hll] at hcapl
  rw [← hll]
  obtain ⟨pb, cb, rfl, hcapb⟩ := hsb.len
  obtain ⟨lb, hlbE⟩ : ∃ x, x = bs.length := ⟨_, rfl⟩
  have HSb : Hid (SlOld w (.slice pb lb cb) bs) := by rw [hlbE]; exact hsb
  rw [← hlbE] at hcapb
  rw [← hlbE]
  have hll1 : ¬ ((ll : Int) > 20) := by omega
  have hlb1 : ¬ ((lb : Int) > 64) := by omega
  have hll2 : ll ≤ 20 := by omega
  have hlb2 : lb ≤ 64 := by omega
  have HLB : Hid (Bytes ls) := hlb
  have HBB : Hid (Bytes bs) := hbb
  have HLL : Hid (∀ _ : Unit, ls.length = ll) := fun _ => hll.symm
  have HBL : Hid (∀ _ : Unit, bs.length = lb) := fun _ => hlbE.symm
  clear hll hlbE hlb hbb hsl hsb hll0 hlb0
  go_enter Try.func8, Try.ntmps8
  go_wp2_with (go_at_call 9; refine (known6_any _).mono ?_; rintro e wk ⟨rfl, hbk⟩; replace hm := hm.call hbk; clear hbk)
  go_at_call 10
  refine (new_any 8 _).mono ?_
  rintro e wn ⟨g, rfl, mb, kv, hd, hf, hb⟩
  have ST : Hid (Sd w wn g mb kv (Dk.new 8) []) := Sd.startR hm hb hd hf
  clear hd hf hb hm
  go_wp2_with (first
    | ((with_reducible refine at_op (some 8) (.alloc 47) ?_); go_must (refine wpl_alloc _ zero_w8 (Mem.start _) ?_); intro w3 qw hq; have SW' := Sd.took ST.out hq; clear hq ST; have SW : Hid (Sd w w3 g mb kv (Dk.new 8) [(qw, (u8s (flatK (fun _ => zeroK) 8)), 47)]) := SW'; clear SW'))
  go_loopw [9] (fun vi wr => ∃ (i : Nat) (d : Dk) (W : Nat → List Int), i ≤ ll ∧ vi = .int .i64 (i : Int) ∧ d.Like W (i : Int) ∧ (∀ k, k < 8 → d.kept k = zeroK) ∧ Sd w wr g mb kv d [(qw, u8s (flatK W 8), 47)]) (fun vi _ => ll - (intOf vi).toNat)
  case atStart => exact ⟨0, _, _, by omega, rfl, like_new, fun _ _ => rfl, SW.out⟩
  case round =>
    clear SW
    obtain ⟨i, d, W, hi, rfl, hd, hkz, st'⟩ := hrel
    have ST : Hid (Sd w wr g mb kv d [(qw, u8s (flatK W 8), 47)]) := st'
    have HD : Hid (d.Like W (i : Int)) := hd
    have HKZ : Hid (∀ k, k < 8 → d.kept k = zeroK) := hkz
    clear st' hd hkz
    by_cases hlt : i < ll
    · have hlt2 : (i : Int) < (ll : Int) := by omega
      have hsrc := (SlOld.src0 HSl.out).2.2
      obtain ⟨bl, ol, hpl, hseg⟩ := hsrc (by rw [HLL.out ()]; omega)
      subst hpl
      obtain ⟨x, hx⟩ : ∃ x, x = ls.getD i 0 := ⟨_, rfl⟩
      have HCI : Hid (∀ V, Mem w [] V [] → V.cell? ⟨bl, ol + i, none⟩ = some (.int .u8 x)) := fun V hV => by rw [hx]; exact (hseg.mem hV (by simp)) i (by rw [HLL.out ()]; exact hlt)
      have hxb : 0 ≤ x ∧ x < 256 := by rw [hx]; exact Bytes.get HLB.out i
      obtain ⟨hx0, hx1⟩ := hxb
      obtain ⟨k, hkx⟩ : ∃ k : Nat, k = (x % 8).toNat := ⟨_, rfl⟩
      have HK : Hid (∀ _ : Unit, x % 8 = (k : Int)) := fun _ => by omega
      have HKN : Hid (∀ _ : Unit, (x % 8).toNat = k) := fun _ => hkx.symm
      have hk8 : k < 8 := by omega
      obtain ⟨m, hmm⟩ : ∃ m : Nat, m = lb * i / ll / 2 := ⟨_, rfl⟩
      have hml : m ≤ 32 := by
        have h1 : lb * i / ll ≤ lb := Nat.div_le_of_le_mul (by rw [Nat.mul_comm]; exact Nat.mul_le_mul_right _ (by omega))
        omega
      have hmb : m ≤ lb := by
        have h1 : lb * i / ll ≤ lb := Nat.div_le_of_le_mul (by rw [Nat.mul_comm]; exact Nat.mul_le_mul_right _ (by omega))
        omega
      have HM : Hid (∀ _ : Unit, (lb : Int) * (i : Int) / (ll : Int) / 2 = (m : Int)) := fun _ => by rw [hmm]; simp
      have hmul : (lb : Int) * (i : Int) ≤ 64 * 20 := by
        have h1 : lb * i ≤ 64 * 20 := Nat.mul_le_mul hlb2 (by omega)
        exact_mod_cast h1
      have hmul0 : 0 ≤ (lb : Int) * (i : Int) := by exact_mod_cast Nat.zero_le (lb * i)
      have hnat : lb * i ≤ 64 * 20 := Nat.mul_le_mul hlb2 (by omega)
      have hq1 : lb * i / ll ≤ 64 := Nat.le_trans (Nat.div_le_of_le_mul (by rw [Nat.mul_comm]; exact Nat.mul_le_mul_right _ (by omega))) hlb2
      have HA1 : Hid (∀ _ : Unit, IntKind.i64.wrap ((lb : Int) * (i : Int)) = (lb : Int) * (i : Int)) := fun _ => by have h := wrap_nat (lb * i) (by omega); simpa using h
      have HA2 : Hid (∀ _ : Unit, IntKind.i64.wrap (((lb : Int) * (i : Int)).tdiv (ll : Int)) = (lb : Int) * (i : Int) / (ll : Int)) := fun _ => by rw [Int.tdiv_eq_ediv_of_nonneg hmul0]; have h := wrap_nat (lb * i / ll) (by omega); simpa using h
      have HA3 : Hid (∀ _ : Unit, IntKind.i64.wrap (((lb : Int) * (i : Int) / (ll : Int)).tdiv 2) = (lb : Int) * (i : Int) / (ll : Int) / 2) := fun _ => by
        have e : (lb : Int) * (i : Int) / (ll : Int) = ((lb * i / ll : Nat) : Int) := by simp
        rw [e, Int.tdiv_eq_ediv_of_nonneg (by omega)]
        have h := wrap_nat (lb * i / ll / 2) (by omega)
        simpa using h
      clear hnat hq1
      have HB5 : Hid (∀ V, Mem w [] V [] → SlOld V (.slice (cutHi pb cb) m cb) (bs.take m)) := fun V hV => old_hi (SlOld.mem HSb.out hV) m hmb
      obtain ⟨ms, hms⟩ : ∃ ms, ms = bs.take m := ⟨_, rfl⟩
      have HMS : Hid (∀ _ : Unit, bs.take m = ms) := fun _ => hms.symm
      have HML : Hid (ms.length = m) := by show _ = _; rw [hms, List.length_take, HBL.out ()]; omega
      have HMB : Hid (Bytes ms) := by rw [hms]; exact Bytes.take HBB.out m
      obtain ⟨W', hW'⟩ : ∃ V, V = upf W k (over (W k) (x :: ms)) := ⟨_, rfl⟩
      have HXB : Hid (Bytes (x :: ms)) := by
        intro y hy
        rcases List.mem_cons.1 hy with rfl | hy
        · exact ⟨hx0, hx1⟩
        · exact HMB.out y hy
      have HXL : Hid ((x :: ms).length ≤ 64) := by show _ ≤ _; rw [List.length_cons, HML.out]; omega
      have HLW : Hid (∀ e : Dk, e.Like W (i : Int) → (e.step.put k (over (e.now k) (x :: ms))).Like W' ((i : Int) + 1)) := fun e h => by rw [hW']; exact h.write k _ hk8 HXL.out HXB.out
      have HFL : Hid ((flatK W 8).length = 512) := by show _ = _; rw [flatK_length W 8 HD.out.len]
      have HSW : Hid (splice ((u8s (flatK W 8)).set (k * 64) (.int .u8 x)) (k * 64 + 1) (u8s (ms.take m)) = u8s (flatK W' 8)) := by
        show _ = _
        rw [List.take_of_length_le (by rw [HML.out]; exact Nat.le_refl _), u8s_set, u8s_splice, set_splice _ _ _ _ (by rw [HFL.out]; omega), flatK_over W 8 k _ HD.out.len HXL.out hk8, hW']
      have hm := Sd.base ST.out
      clear hsrc hseg hx hkx hmm hms hW'
      go_wp2_with (first
        | ((with_reducible refine at_op (some 35) (.indexAddr 28 (.tmp 33) (.tmp 34)) ?_); go_must (refine wpl_execG (.pointer (some ⟨bl, ol + i, none⟩)) rfl (exec_ixI un_bs sz_u8 i rfl rfl rfl hlt) ?_))
        | ((with_reducible refine at_op (some 36) (.load 5 (.tmp 35)) ?_); go_must (refine wpl_ldx (.int .u8 x) (HCI.out _ hm) rfl ag_u8 ?_)))
      refine wp_ends0 ?_
      refine anyH_startD (T := fun V => Mem w [] V []) (by kernel_rfl) ST.out ?_
      clear ST hm
      intro w4 st'
      have hm := Sd.base st'
      have ST : Hid (Sd w w4 g mb kv d [(qw, u8s (flatK W 8), 47)]) := st'
      clear st'
      refine anyH_takeG 0 (v := .pointer (some ⟨g, 0, none⟩)) rfl (by kernel_rfl) (by kernel_rfl) (by kernel_rfl) rfl (fun V _ => by go_simp) hm ?_
      go_simp
      refine anyH_takeG 1 (v := .int .i64 (x % 8)) rfl (by kernel_rfl) (by kernel_rfl) (by kernel_rfl) rfl (fun V _ => by go_simp) hm ?_
      go_simp
      refine anyH_takeG 2 (v := .slice (some ⟨bl, ol, none⟩) ll cl) rfl (by kernel_rfl) (by kernel_rfl) (by kernel_rfl) rfl (fun V _ => by go_simp) hm ?_
      go_simp
      refine anyH_takeG 3 (v := .int .i64 (i : Int)) rfl (by kernel_rfl) (by kernel_rfl) (by kernel_rfl) rfl (fun V _ => by go_simp) hm ?_
      go_simp
      refine anyH_takeG 4 (v := .pointer (some ⟨bl, ol + i, none⟩)) rfl (by kernel_rfl) (by kernel_rfl) (by kernel_rfl) rfl (fun V _ => exec_ixI un_bs sz_u8 i rfl rfl rfl hlt) hm ?_
      go_simp
      refine anyH_takeG 5 (v := .int .u8 x) rfl (by kernel_rfl) (by kernel_rfl) (by kernel_rfl) rfl (fun V hV => exec_ldxG (.int .u8 x) (HCI.out V hV) rfl ag_u8) hm ?_
      go_simp
      refine anyH_takeG 7 (v := .slice pb lb cb) rfl (by kernel_rfl) (by kernel_rfl) (by kernel_rfl) rfl (fun V _ => by go_simp) hm ?_
      go_simp
      refine anyH_takeG 8 (v := .slice pb lb cb) rfl (by kernel_rfl) (by kernel_rfl) (by kernel_rfl) rfl (fun V _ => by go_simp) hm ?_
      go_simp
      refine anyH_takeG 9 (v := .int .i64 (lb : Int)) rfl (by kernel_rfl) (by kernel_rfl) (by kernel_rfl) rfl (fun V _ => by go_simp) hm ?_
      go_simp
      refine anyH_takeG 10 (v := .int .i64 (i : Int)) rfl (by kernel_rfl) (by kernel_rfl) (by kernel_rfl) rfl (fun V _ => by go_simp) hm ?_
      go_simp
      refine anyH_takeG 11 (v := .int .i64 ((lb : Int) * (i : Int))) rfl (by kernel_rfl) (by kernel_rfl) (by kernel_rfl) rfl (fun V _ => by go_simp; exact HA1.out ()) hm ?_
      go_simp
      refine anyH_takeG 12 (v := .slice (some ⟨bl, ol, none⟩) ll cl) rfl (by kernel_rfl) (by kernel_rfl) (by kernel_rfl) rfl (fun V _ => by go_simp) hm ?_
      go_simp
      refine anyH_takeG 13 (v := .int .i64 (ll : Int)) rfl (by kernel_rfl) (by kernel_rfl) (by kernel_rfl) rfl (fun V _ => by go_simp) hm ?_
      go_simp
      refine anyH_takeG 14 (v := .int .i64 (ll : Int)) rfl (by kernel_rfl) (by kernel_rfl) (by kernel_rfl) rfl (fun V _ => by go_simp; omega) hm ?_
      go_simp
      refine anyH_takeG 15 (v := .int .i64 ((lb : Int) * (i : Int) / (ll : Int))) rfl (by kernel_rfl) (by kernel_rfl) (by kernel_rfl) rfl (fun V _ => by go_simp; rw [if_neg (by omega), HA2.out ()]) hm ?_
      go_simp
      refine anyH_takeG 16 (v := .int .i64 ((lb : Int) * (i : Int) / (ll : Int) / 2)) rfl (by kernel_rfl) (by kernel_rfl) (by kernel_rfl) rfl (fun V _ => by go_simp; exact HA3.out ()) hm ?_
      go_simp
      refine anyH_takeG 17 (v := .slice (cutHi pb cb) m cb) rfl (by kernel_rfl) (by kernel_rfl) (by kernel_rfl) rfl (fun V _ => exec_sHi un_bs sz_u8 m (by omega) rfl rfl (HM.out ())) hm ?_
      go_simp
      refine wpAnyH_all (rs := [6]) (by kernel_rfl) (by simp) ?_
      intro i' hi'
      simp only [List.mem_cons, List.not_mem_nil, or_false] at hi'
      subst hi'
      refine anyH_opW 6 rfl rfl ?_
      intro K hK
      refine wpl_bsl1 rfl (.int .u8 0) (.int .u8 x) un_bs info_u8 rfl rfl rfl (Mem.start _) ?_
      intro w5 q hb5 hq
      have ho5 := own_row (zs := [x]) (base := w.heap.size) (hq.get 0 rfl) (by have h1 := hq.fresh _ (List.mem_cons_self ..); simp at h1; have h2 := hm.size; omega) (by simp)
      have st5 := Sd.below ST.out hb5
      have HO5 : Hid (OwnB 5 w5 w.heap.size (.slice (some ⟨q, 0, none⟩) 1 1) [x]) := ho5
      clear ST hm ho5 hq hb5
      have ST : Hid (Sd w w5 g mb kv d [(qw, u8s (flatK W 8), 47)]) := st5
      have hm := Sd.base ST.out
      clear st5
      refine wpList_nil ?_
      refine hK _ _ hm ?_
      clear hK K
      go_simp
      refine wpAnyH_all (rs := [18]) (by kernel_rfl) (by simp) ?_
      intro i' hi'
      simp only [List.mem_cons, List.not_mem_nil, or_false] at hi'
      subst hi'
      refine anyH_opW 18 rfl rfl ?_
      intro K hK
      refine wpl_appD rfl ms ST.out HO5.out (by intro r hr; simp only [List.mem_cons, List.not_mem_nil, or_false] at hr; subst hr; simp) rfl rfl HML.out.symm (fun h0 => by have h1 := HB5.out _ hm; rw [HMS.out ()] at h1; exact (SlOld.src0 h1).2.2 h0) (by rw [HML.out]; simp; omega) ?_
      intro v6 w6 ho6 st6
      have HO6 : Hid (OwnB 5 w6 w.heap.size v6 (x :: ms)) := ho6
      clear ST hm ho6 HO5
      have ST : Hid (Sd w w6 g mb kv d [(qw, u8s (flatK W 8), 47)]) := st6
      have hm := Sd.base ST.out
      clear st6
      refine wpList_nil ?_
      refine hK _ _ hm ?_
      clear hK K
      go_simp
      refine wpAnyH_all (rs := [19]) (by kernel_rfl) (by simp) ?_
      intro i' hi'
      simp only [List.mem_cons, List.not_mem_nil, or_false] at hi'
      subst hi'
      refine anyH_opW 19 rfl rfl ?_
      intro K hK
      go_wp2_with (go_at_call 12; refine (write_ok ST.out (x % 8) (x :: ms) _ (by omega) (by rw [HD.out.n]; show x % 8 < 8; omega) HD.out.calm.step.off HXL.out HXB.out (HD.out.num (by omega)) (OwnB.slA HO6.out (Sd.dk ST.out))).mono ?_; rintro e w7 ⟨rfl, st7⟩; rw [HKN.out ()] at st7)
      obtain ⟨d7, hd7⟩ : ∃ e, e = d.step.put k (over (d.now k) (x :: ms)) := ⟨_, rfl⟩
      have HD7 : Hid (d7.Like W' ((i : Int) + 1)) := by rw [hd7]; exact HLW.out d HD.out
      have HKZ7 : Hid (∀ k, k < 8 → d7.kept k = zeroK) := by rw [hd7]; exact HKZ.out
      have st8 := Sd.congr st7 hd7.symm
      clear ST hm st7 hd7 HO6
      have ST : Hid (Sd w w7 g mb kv d7 [(qw, u8s (flatK W 8), 47)]) := st8
      have hm := Sd.base ST.out
      clear st8
      refine hK _ _ hm ?_
      clear hK K
      go_simp
      refine anyH_takeG 20 (v := .bool false) rfl (by kernel_rfl) (by kernel_rfl) (by kernel_rfl) rfl (fun V _ => by go_simp) hm ?_
      go_simp
      refine wpAnyH_done (by kernel_rfl) ?_ _
      simp only [endsIn]
      go_wp2_with fail
      refine wp_ends0 ?_
      refine anyH_startD (T := fun V => Mem w [] V []) (by kernel_rfl) ST.out ?_
      clear ST hm
      intro w8 st'
      have hm := Sd.base st'
      have ST : Hid (Sd w w8 g mb kv d7 [(qw, u8s (flatK W 8), 47)]) := st'
      clear st'
      refine anyH_takeG 0 (v := .int .i64 (x % 8)) rfl (by kernel_rfl) (by kernel_rfl) (by kernel_rfl) rfl (fun V _ => by go_simp) hm ?_
      go_simp
      refine anyH_takeG 1 (v := .slice (some ⟨bl, ol, none⟩) ll cl) rfl (by kernel_rfl) (by kernel_rfl) (by kernel_rfl) rfl (fun V _ => by go_simp) hm ?_
      go_simp
      refine anyH_takeG 2 (v := .int .i64 (i : Int)) rfl (by kernel_rfl) (by kernel_rfl) (by kernel_rfl) rfl (fun V _ => by go_simp) hm ?_
      go_simp
      refine anyH_takeG 3 (v := .pointer (some ⟨bl, ol + i, none⟩)) rfl (by kernel_rfl) (by kernel_rfl) (by kernel_rfl) rfl (fun V _ => exec_ixI un_bs sz_u8 i rfl rfl rfl hlt) hm ?_
      go_simp
      refine anyH_takeG 4 (v := .int .u8 x) rfl (by kernel_rfl) (by kernel_rfl) (by kernel_rfl) rfl (fun V hV => exec_ldxG (.int .u8 x) (HCI.out V hV) rfl ag_u8) hm ?_
      go_simp
      refine anyH_takeG 5 (v := .pointer (some ⟨qw, k * 64, none⟩)) rfl (by kernel_rfl) (by kernel_rfl) (by kernel_rfl) rfl (fun V _ => exec_ixP k rfl rfl (HK.out ()) hk8) hm ?_
      go_simp
      refine anyH_takeG 6 (v := .pointer (some ⟨qw, k * 64, none⟩)) rfl (by kernel_rfl) (by kernel_rfl) (by kernel_rfl) rfl (fun V _ => by go_simp) hm ?_
      go_simp
      refine wpAnyH_all (rs := [7]) (by kernel_rfl) (by simp) ?_
      intro i' hi'
      simp only [List.mem_cons, List.not_mem_nil, or_false] at hi'
      subst hi'
      refine anyH_opW 7 rfl rfl ?_
      intro K hK
      refine wpl_stc 0 (k * 64) (.int .u8 x) (Mem.enter ((Sd.mem ST.out).get 0 rfl)) rfl rfl rfl sz_u8 (by rw [u8s_length, HFL.out]; omega) rfl rfl ?_
      intro w9 hq
      have st' := Sd.turned ST.out 0 rfl hq
      clear hq ST hm
      have ST : Hid (Sd w w9 g mb kv d7 [(qw, (u8s (flatK W 8)).set (k * 64) (.int .u8 x), 47)]) := st'
      have hm := Sd.base ST.out
      clear st'
      refine wpList_nil ?_
      refine hK _ _ hm ?_
      clear hK K
      go_simp
      refine wpAnyH_done (by kernel_rfl) ?_ _
      simp only [endsIn]
      go_wp2_with fail
      refine wp_ends0 ?_
      refine anyH_startD (T := fun V => Mem w [] V []) (by kernel_rfl) ST.out ?_
      clear ST hm
      intro w10 st'
      have hm := Sd.base st'
      have ST : Hid (Sd w w10 g mb kv d7 [(qw, (u8s (flatK W 8)).set (k * 64) (.int .u8 x), 47)]) := st'
      clear st'
      refine anyH_takeG 0 (v := .int .i64 (x % 8)) rfl (by kernel_rfl) (by kernel_rfl) (by kernel_rfl) rfl (fun V _ => by go_simp) hm ?_
      go_simp
      refine anyH_takeG 1 (v := .pointer (some ⟨qw, k * 64, none⟩)) rfl (by kernel_rfl) (by kernel_rfl) (by kernel_rfl) rfl (fun V _ => exec_ixP k rfl rfl (HK.out ()) hk8) hm ?_
      go_simp
      refine anyH_takeG 2 (v := .slice (some ⟨qw, k * 64 + 1, none⟩) 63 63) rfl (by kernel_rfl) (by kernel_rfl) (by kernel_rfl) rfl (fun V _ => exec_slaG 64 un_b64 sz_u8 1 63 (by omega) (by omega) rfl (Or.inl rfl) (Or.inr ⟨rfl, rfl⟩)) hm ?_
      go_simp
      refine anyH_takeG 3 (v := .slice pb lb cb) rfl (by kernel_rfl) (by kernel_rfl) (by kernel_rfl) rfl (fun V _ => by go_simp) hm ?_
      go_simp
      refine anyH_takeG 4 (v := .slice pb lb cb) rfl (by kernel_rfl) (by kernel_rfl) (by kernel_rfl) rfl (fun V _ => by go_simp) hm ?_
      go_simp
      refine anyH_takeG 5 (v := .int .i64 (lb : Int)) rfl (by kernel_rfl) (by kernel_rfl) (by kernel_rfl) rfl (fun V _ => by go_simp) hm ?_
      go_simp
      refine anyH_takeG 6 (v := .int .i64 (i : Int)) rfl (by kernel_rfl) (by kernel_rfl) (by kernel_rfl) rfl (fun V _ => by go_simp) hm ?_
      go_simp
      refine anyH_takeG 7 (v := .int .i64 ((lb : Int) * (i : Int))) rfl (by kernel_rfl) (by kernel_rfl) (by kernel_rfl) rfl (fun V _ => by go_simp; exact HA1.out ()) hm ?_
      go_simp
      refine anyH_takeG 8 (v := .slice (some ⟨bl, ol, none⟩) ll cl) rfl (by kernel_rfl) (by kernel_rfl) (by kernel_rfl) rfl (fun V _ => by go_simp) hm ?_
      go_simp
      refine anyH_takeG 9 (v := .int .i64 (ll : Int)) rfl (by kernel_rfl) (by kernel_rfl) (by kernel_rfl) rfl (fun V _ => by go_simp) hm ?_
      go_simp
      refine anyH_takeG 10 (v := .int .i64 (ll : Int)) rfl (by kernel_rfl) (by kernel_rfl) (by kernel_rfl) rfl (fun V _ => by go_simp; omega) hm ?_
      go_simp
      refine anyH_takeG 11 (v := .int .i64 ((lb : Int) * (i : Int) / (ll : Int))) rfl (by kernel_rfl) (by kernel_rfl) (by kernel_rfl) rfl (fun V _ => by go_simp; rw [if_neg (by omega), HA2.out ()]) hm ?_
      go_simp
      refine anyH_takeG 12 (v := .int .i64 ((lb : Int) * (i : Int) / (ll : Int) / 2)) rfl (by kernel_rfl) (by kernel_rfl) (by kernel_rfl) rfl (fun V _ => by go_simp; exact HA3.out ()) hm ?_
      go_simp
      refine anyH_takeG 13 (v := .slice (cutHi pb cb) m cb) rfl (by kernel_rfl) (by kernel_rfl) (by kernel_rfl) rfl (fun V _ => exec_sHi un_bs sz_u8 m (by omega) rfl rfl (HM.out ())) hm ?_
      go_simp
      refine wpAnyH_all (rs := [14]) (by kernel_rfl) (by simp) ?_
      intro i' hi'
      simp only [List.mem_cons, List.not_mem_nil, or_false] at hi'
      subst hi'
      refine anyH_opW 14 rfl rfl ?_
      intro K hK
      refine wpl_cp 0 ms m (u8s (flatK W' 8)) (Mem.enter ((Sd.mem ST.out).get 0 rfl)) rfl rfl rfl _ un_bs sz_u8 (by have h1 := HB5.out _ hm; rw [HMS.out ()] at h1; exact h1) (by show m = min m 63; omega) (by rw [List.length_set, u8s_length, HFL.out]; omega) HSW.out ?_
      intro w11 hq
      have st' := Sd.turned ST.out 0 rfl hq
      clear hq ST hm
      have ST : Hid (Sd w w11 g mb kv d7 [(qw, u8s (flatK W' 8), 47)]) := st'
      have hm := Sd.base ST.out
      clear st'
      refine wpList_nil ?_
      refine hK _ _ hm ?_
      clear hK K
      go_simp
      refine wpAnyH_done (by kernel_rfl) ?_ _
      simp only [endsIn]
      go_wp2_with fail
      go_roundw
      case rel => exact ⟨i + 1, d7, W', by omega, by go_num, HD7.out, HKZ7.out, ST.out⟩
      case measure => simp [intOf]; omega
    · have hlt2 : ¬ ((i : Int) < (ll : Int)) := by omega
      go_wp2_with fail
      have HD4 : Hid (d.Like W (i : Int)) := HD.out
      have HK4 : Hid (flatK d.kept d.n = flatK (fun _ => zeroK) 8) := by
        show _ = _
        rw [HD.out.n]
        exact flatK_congr _ _ 8 HKZ.out
      clear HD HKZ
      have HKL : Hid (∀ k, k < 8 → ((fun _ => zeroK) k).length = 64) := fun _ _ => zeroK_length
      have HFK : Hid ((flatK (fun _ => zeroK) 8).length = 512) := by show _ = _; rw [flatK_length _ 8 HKL.out]
      go_at_call 21
      refine (image_any g mb kv d _ (Sd.dk ST.out)).mono ?_
      rintro e w5 ⟨v, he, ho, hb⟩
      rw [HK4.out] at ho
      obtain ⟨qi, ci, ti, hv, hqi, hri, hci⟩ := OwnB.row ho (by rw [HFK.out]; omega)
      rw [HFK.out] at hv hci
      subst hv
      subst he
      have st5 := Sd.row ST.out hb hri hqi
      clear ST ho hb hri hqi
      have ST : Hid (Sd w w5 g mb kv d [(qi, u8s (flatK (fun _ => zeroK) 8) ++ ti, 5), (qw, u8s (flatK W 8), 47)]) := st5
      clear st5
      go_wp2_with fail
      go_loopw [12] (fun vi wr => ∃ k : Nat, k ≤ 8 ∧ vi = .int .i64 (k : Int) ∧ Sd w wr g mb kv d [(qi, u8s (flatK (fun _ => zeroK) 8) ++ ti, 5), (qw, u8s (flatK W 8), 47)]) (fun vi _ => 8 - (intOf vi).toNat)
      case atStart => exact ⟨0, by omega, rfl, ST.out⟩
      case round =>
        clear ST
        obtain ⟨k, hk, rfl, st'⟩ := hrel
        have ST : Hid (Sd w wr g mb kv d [(qi, u8s (flatK (fun _ => zeroK) 8) ++ ti, 5), (qw, u8s (flatK W 8), 47)]) := st'
        clear st'
        by_cases hk8 : k < 8
        · have hk9 : (k : Int) < 8 := by omega
          have HA4 : Hid (∀ _ : Unit, IntKind.i64.wrap (64 * (k : Int)) = 64 * (k : Int)) := fun _ => by have h := wrap_nat (64 * k) (by omega); simpa using h
          have HA5 : Hid (∀ _ : Unit, IntKind.i64.wrap (64 * (k : Int) + 64) = 64 * (k : Int) + 64) := fun _ => by have h := wrap_nat (64 * k + 64) (by omega); simpa using h
          have HZ : Hid ((u8s zeroK).length = 64) := by show _ = _; rw [u8s_length]; exact zeroK_length
          have HWK : Hid ((u8s (W k)).length = 64) := by show _ = _; rw [u8s_length]; exact HD4.out.len k hk8
          go_wp2_with fail
          go_at_call 24
          refine (read_ok ST.out (k : Int) (by omega) (by rw [HD4.out.n]; exact hk9) HD4.out.calm.off).mono ?_
          rintro e w6 ⟨qr, rfl, st'⟩
          rw [Int.toNat_natCast, HD4.out.now k hk8] at st'
          have SR : Hid (Sd w w6 g mb kv d ((qr, u8s (W k), 62) :: [(qi, u8s (flatK (fun _ => zeroK) 8) ++ ti, 5), (qw, u8s (flatK W 8), 47)])) := st'
          clear st' ST
          go_wp2_with (first
            | ((with_reducible refine at_op (some 100) (.build 42 #[]) ?_); go_must (refine wpl_build (pl := []) (u8s zeroK) [] rfl built_b64 ?_))
            | ((with_reducible refine at_op (some 15) (.alloc 42) ?_); go_must (refine wpl_alloc _ zero_b64 (Mem.start _) ?_); intro w7 qz hq; have st' := Sd.took SR.out hq; clear hq SR; have SR : Hid (Sd w w7 g mb kv d ((qz, u8s zeroK, 42) :: (qr, u8s (W k), 62) :: [(qi, u8s (flatK (fun _ => zeroK) 8) ++ ti, 5), (qw, u8s (flatK W 8), 47)])) := st'; clear st')
            | ((with_reducible refine at_op none (.store 42 (.tmp 15) (.tmp 100)) ?_); go_must (refine wpl_stw 0 (u8s zeroK) (Mem.enter ((Sd.mem SR.out).get 0 rfl)) rfl rfl rfl 64 sz_b64 HZ.out HZ.out (u8s_one _) ?_); intro w8 hq; have st' := Sd.turned SR.out 0 rfl hq; clear hq SR; have SR : Hid (Sd w w8 g mb kv d ((qz, u8s zeroK, 42) :: (qr, u8s (W k), 62) :: [(qi, u8s (flatK (fun _ => zeroK) 8) ++ ti, 5), (qw, u8s (flatK W 8), 47)])) := st'; clear st'))
          have hm := Mem.start w8
          refine wp_ends0 ?_
          refine anyH_start (T := fun V => Mem w8 [] V []) (by kernel_rfl) hm ?_
          clear hm
          intro wx hm
          refine anyH_takeG 0 (v := .int .i64 0) rfl (by kernel_rfl) (by kernel_rfl) (by kernel_rfl) rfl (fun V _ => by go_simp) hm ?_
          go_simp
          refine anyH_takeG 1 (v := .bool false) rfl (by kernel_rfl) (by kernel_rfl) (by kernel_rfl) rfl (fun V _ => by go_simp) hm ?_
          go_simp
          refine anyH_takeG 2 (v := .bool false) rfl (by kernel_rfl) (by kernel_rfl) (by kernel_rfl) rfl (fun V _ => by go_simp) hm ?_
          go_simp
          refine anyH_takeG 3 (v := .slice (some ⟨qr, 0, none⟩) 64 64) rfl (by kernel_rfl) (by kernel_rfl) (by kernel_rfl) rfl (fun V _ => by go_simp) hm ?_
          go_simp
          refine anyH_takeG 4 (v := .string (strOf (W k))) rfl (by kernel_rfl) (by kernel_rfl) (by kernel_rfl) rfl (fun V hV => exec_tostr un_bs un_u8 un_strT (W k) rfl (SlOld.mem (old_all ((Sd.mem SR.out).get 1 rfl) (HD4.out.len k hk8) (Nat.le_refl _)) hV)) hm ?_
          go_simp
          refine anyH_takeG 5 (v := .int .i64 (k : Int)) rfl (by kernel_rfl) (by kernel_rfl) (by kernel_rfl) rfl (fun V _ => by go_simp) hm ?_
          go_simp
          refine anyH_takeG 6 (v := .pointer (some ⟨qw, k * 64, none⟩)) rfl (by kernel_rfl) (by kernel_rfl) (by kernel_rfl) rfl (fun V _ => exec_ixP k rfl rfl rfl hk8) hm ?_
          go_simp
          refine anyH_takeG 7 (v := .slice (some ⟨qw, k * 64, none⟩) 64 64) rfl (by kernel_rfl) (by kernel_rfl) (by kernel_rfl) rfl (fun V _ => exec_slaG 64 un_b64 sz_u8 0 64 (by omega) (by omega) rfl (Or.inr ⟨rfl, rfl⟩) (Or.inr ⟨rfl, rfl⟩)) hm ?_
          go_simp
          refine anyH_takeG 8 (v := .string (strOf (W k))) rfl (by kernel_rfl) (by kernel_rfl) (by kernel_rfl) rfl (fun V hV => exec_tostr un_bs un_u8 un_strT (W k) rfl (SlOld.mem (old_want k ((Sd.mem SR.out).get 3 rfl) HD4.out.len hk8) hV)) hm ?_
          go_simp
          refine anyH_takeG 9 (v := .bool false) rfl (by kernel_rfl) (by kernel_rfl) (by kernel_rfl) rfl (fun V _ => exec_nes (strOf (W k)) (strOf (W k)) true rfl rfl (beq_self_str _)) hm ?_
          go_simp
          refine anyH_takeG 10 (v := .bool false) rfl (by kernel_rfl) (by kernel_rfl) (by kernel_rfl) rfl (fun V _ => by go_simp) hm ?_
          go_simp
          refine anyH_takeG 11 (v := .bool false) rfl (by kernel_rfl) (by kernel_rfl) (by kernel_rfl) rfl (fun V _ => by go_simp) hm ?_
          go_simp
          refine anyH_takeG 12 (v := .slice (some ⟨qi, 0, none⟩) 512 ci) rfl (by kernel_rfl) (by kernel_rfl) (by kernel_rfl) rfl (fun V _ => by go_simp) hm ?_
          go_simp
          refine anyH_takeG 13 (v := .int .i64 (k : Int)) rfl (by kernel_rfl) (by kernel_rfl) (by kernel_rfl) rfl (fun V _ => by go_simp) hm ?_
          go_simp
          refine anyH_takeG 14 (v := .int .i64 (64 * (k : Int))) rfl (by kernel_rfl) (by kernel_rfl) (by kernel_rfl) rfl (fun V _ => by go_simp; exact HA4.out ()) hm ?_
          go_simp
          refine anyH_takeG 15 (v := .int .i64 (k : Int)) rfl (by kernel_rfl) (by kernel_rfl) (by kernel_rfl) rfl (fun V _ => by go_simp) hm ?_
          go_simp
          refine anyH_takeG 16 (v := .int .i64 (64 * (k : Int))) rfl (by kernel_rfl) (by kernel_rfl) (by kernel_rfl) rfl (fun V _ => by go_simp; exact HA4.out ()) hm ?_
          go_simp
          refine anyH_takeG 17 (v := .int .i64 (64 * (k : Int) + 64)) rfl (by kernel_rfl) (by kernel_rfl) (by kernel_rfl) rfl (fun V _ => by go_simp; exact HA5.out ()) hm ?_
          go_simp
          refine anyH_takeG 18 (v := .slice (some ⟨qi, 64 * k, none⟩) 64 (ci - 64 * k)) rfl (by kernel_rfl) (by kernel_rfl) (by kernel_rfl) rfl (fun V _ => exec_slh2 un_bs sz_u8 (64 * k) (64 * k) 64 (by omega) (by omega) (by omega) rfl rfl (by omega) rfl (by omega)) hm ?_
          go_simp
          refine anyH_takeG 19 (v := .string (strOf (zeroK))) rfl (by kernel_rfl) (by kernel_rfl) (by kernel_rfl) rfl (fun V hV => exec_tostr un_bs un_u8 un_strT (zeroK) rfl (SlOld.mem (old_piece (W := (fun _ => zeroK)) ((Sd.mem SR.out).get 2 rfl) HKL.out hk8 (by omega)) hV)) hm ?_
          go_simp
          refine anyH_takeG 20 (v := .slice (some ⟨qz, 0, none⟩) 64 64) rfl (by kernel_rfl) (by kernel_rfl) (by kernel_rfl) rfl (fun V _ => exec_slaG 64 un_b64 sz_u8 0 64 (by omega) (by omega) rfl (Or.inr ⟨rfl, rfl⟩) (Or.inr ⟨rfl, rfl⟩)) hm ?_
          go_simp
          refine anyH_takeG 21 (v := .string (strOf (zeroK))) rfl (by kernel_rfl) (by kernel_rfl) (by kernel_rfl) rfl (fun V hV => exec_tostr un_bs un_u8 un_strT (zeroK) rfl (SlOld.mem (old_all ((Sd.mem SR.out).get 0 rfl) (zeroK_length) (Nat.le_refl _)) hV)) hm ?_
          go_simp
          refine anyH_takeG 22 (v := .bool false) rfl (by kernel_rfl) (by kernel_rfl) (by kernel_rfl) rfl (fun V _ => exec_nes (strOf (zeroK)) (strOf (zeroK)) true rfl rfl (beq_self_str _)) hm ?_
          go_simp
          refine anyH_takeG 23 (v := .bool false) rfl (by kernel_rfl) (by kernel_rfl) (by kernel_rfl) rfl (fun V _ => by go_simp) hm ?_
          go_simp
          refine wpAnyH_done (by kernel_rfl) ?_ _
          simp only [endsIn]
          go_wp2_with fail
          go_roundw
          case rel => exact ⟨k + 1, by omega, by go_num, (Sd.below SR.out hm.below).tail.tail⟩
          case measure => simp [intOf]; omega
        · have hk9 : ¬ ((k : Int) < 8) := by omega
          go_wp2_with fail
          go_ret
          exact ⟨rfl, (Sd.mem ST.out).below⟩
set_option maxRecDepth 100000 in
theorem sectorImage_walk (ls bs : List Int) (vl vb : Value) (f : Bool) (hlb : Bytes ls) (hbb : Bytes bs) (w : World) (hsl : SlOld w vl ls) (hsb : SlOld w vb bs) : Calls Try.prog 8 #[vl, vb, .bool f] w fun e w' => e = .returned (.bool true) ∧ Below w.heap.size w w' := by
  by_cases h1 : ls.length ≤ 20
  · by_cases h2 : bs.length ≤ 64
    · cases f with
      | true => exact imageL_flush ls bs vl vb hlb hbb w hsl hsb h1 h2
      | false => exact imageL_not ls bs vl vb hlb hbb w hsl hsb h1 h2
    · obtain ⟨pa, ca, rfl, _⟩ := hsl.len
      obtain ⟨pb, cb, rfl, _⟩ := hsb.len
      exact imageL_longB pa pb _ _ ca cb f h1 (by omega) w
  · obtain ⟨pa, ca, rfl, _⟩ := hsl.len
    obtain ⟨pb, cb, rfl, _⟩ := hsb.len
    exact imageL_longA pa pb _ _ ca cb f (by omega) w
end Go.Proofs.Ytlddkmjhkhliiaa
