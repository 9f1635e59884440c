/- Package term: text, Print. -/
import Derived.Test.YtbiinchmbclmcaaDoorTmCon
namespace Go.Proofs.YtbiinchmbclmcaaDoor
open Go Go.RowKit
def txs (l : List Tm) : List ByteArray := l.map fun x => mkS (txt x)
set_option maxRecDepth 100000 in
theorem txs_bs (l : List Tm) : (txs l).map bs = l.map txt := by
  unfold txs
  rw [List.map_map]
  apply List.map_congr_left
  intro x _
  exact bs_mkS _
set_option maxRecDepth 100000 in
theorem txs_len (l : List Tm) : (txs l).length = l.length := by simp [txs]
set_option maxRecDepth 100000 in
theorem txs_snoc {l : List Tm} {k : Nat} {x : Tm} (hx : l[k]? = some x) : strs (txs (l.take (k + 1))) = strs (txs (l.take k)) ++ [.string (mkS (txt x))] := by
  rw [List.take_add_one, hx]
  simp [txs, strs]
set_option maxRecDepth 100000 in
theorem txt_with {t : Tm} (h : kn t.k ≠ 0) : txt t = hdT t.k t.n ++ 40 :: (jnB (t.l.map txt) ++ [41]) := by rw [txt_eq, if_neg h]
set_option maxRecDepth 100000 in
theorem txt_without {t : Tm} (h : kn t.k = 0) : txt t = hdT t.k t.n := by rw [txt_eq, if_pos h, List.append_nil]
set_option maxHeartbeats 8000000 in
set_option maxRecDepth 100000 in
theorem text_any {F : Nat → Prop} (t : Tm) : ∀ (s : Value) (w : World), cnt t ≤ 100 → okT t = true → SlT F w s t.l →
    Calls Tryd.prog 23 #[.agg (tcs t s).toArray] w fun e w' => e = .returned (.string (mkS (txt t))) ∧ Below w.heap.size w w' := by
  induction t using Tm.ind with
  | h t ih =>
  intro s w hc hok hs
  have HIH : Hid _ := ih
  clear ih
  obtain ⟨p, cap, rfl, hcap⟩ := hs.len
  obtain ⟨m, hml⟩ : ∃ m, m = t.l.length := ⟨_, rfl⟩
  have HM : Hid (∀ _ : Unit, m = t.l.length) := fun _ => hml
  have HS : Hid (SlT F w (.slice p m cap) t.l) := by rw [hml]; exact hs
  have hof := okT_okF hok
  have hk := okF_k hof
  have hnn := okF_n hof
  have HKL : Hid (∀ _ : Unit, m = kn t.k) := fun _ => by rw [hml]; exact okF_len hof
  rw [← hml]
  have hm100 : m < 100 := by
    have h1 := sum_ge (l := t.l) (k := t.l.length) (Nat.le_refl _)
    rw [List.take_length] at h1
    have h2 := cnt_eq t
    omega
  have HC : Hid (cnt t ≤ 100) := hc
  have HOK : Hid (okT t = true) := hok
  have HTL : Hid (∀ _ : Unit, (txt t).length ≤ 800) := fun _ => by have := txt_len t hok; omega
  have HF1 : Hid (∀ _ : Unit, ∀ v ∈ [Value.string (mkS (wd t.k)), .bool (nb t.k), .int .i64 (kn t.k : Int)], v.oneCell' = true) := fun _ => by rw [← fmv_get hk]; exact fmv_one _
  have HFO : Hid (∀ W, Calls Tryd.prog 24 #[.int .i64 t.k] W fun e w' => e = .returned (.tuple #[.agg [Value.string (mkS (wd t.k)), .bool (nb t.k), .int .i64 (kn t.k : Int)].toArray, .bool true]) ∧ Below W.heap.size W w') := fun W => by
    have := formOf_any t.k W
    rw [fmv_get hk, decide_eq_true hk] at this
    exact this
  have HIT : Hid (∀ W, Calls Tryd.prog 31 #[.int .i64 t.n] W fun e w' => e = .returned (.string (mkS (dig t.n))) ∧ w' = W) := fun W => itoa_any t.n hnn.1 hnn.2 W
  have HDL : Hid (∀ _ : Unit, (dig t.n).length ≤ 2 ∧ (wd t.k).length ≤ 4 ∧ (hdT t.k t.n).length ≤ 4) := fun _ => ⟨(dig_len _).2, (wd_len _).1, hdT_len _ _⟩
  clear hs hml hcap hc hok hof hk hnn
  have hm := Mem.start w
  cases hnb : nb t.k with
  | true =>
    by_cases hkn : kn t.k = 0
    · have hkn0 := hkn
      have HHD : Hid (∀ _ : Unit, mkS (hdT t.k t.n) = mkS (wd t.k) ++ mkS (dig t.n)) := fun _ => by rw [mkS_append, hdT, hnb, if_pos rfl]
      rw [hnb] at HF1 HFO
      have hz : ((kn t.k : Int) == 0) = true := beq_int _ _ (by omega)
      have HR : Hid (∀ _ : Unit, mkS (txt t) = mkS (hdT t.k t.n)) := fun _ => by rw [txt_without hkn]
      clear hnb hkn hkn0
      go_enter Tryd.func23, Tryd.ntmps23
      go_wp2_with (first
        | ((with_reducible refine at_op (some 1) (.box 24 (.tmp 0)) ?_); go_must (refine wpl_box (tcs t (.slice p m cap)) rfl hm ?_); clear hm; intro w1 g1 hm)
        | ((with_reducible refine at_op (some 11) (.load 3 (.tmp 10)) ?_); go_must (refine wpl_execG (.int .i64 t.k) rfl (exec_ldx (.int .i64 t.k) (Mem.cell hm 0 rfl 0) rfl ag_int) ?_))
        | (go_at_call 24; go_must (refine (HFO.out _).mono ?_); rintro e w2 ⟨he, hb⟩; subst he; replace hm := hm.call hb; clear hb)
        | ((with_reducible refine at_op (some 3) (.alloc 57) ?_); go_must (refine wpl_alloc _ zero_form hm ?_); clear hm; intro w3 g3 hm)
        | ((with_reducible refine at_op none (.store 57 (.tmp 3) (.tmp 13)) ?_); go_must (refine wpl_stw 0 ([Value.string (mkS (wd t.k)), .bool true, .int .i64 (kn t.k : Int)]) hm rfl rfl rfl 3 sz_form rfl rfl ((HF1.out ())) ?_); clear hm; intro w4 hm)
        | ((with_reducible refine at_op (some 16) (.load 9 (.tmp 15)) ?_); go_must (refine wpl_execG (.string (mkS (wd t.k))) rfl (exec_ldx (.string (mkS (wd t.k))) (Mem.cell hm 0 rfl 0) rfl ag_str) ?_))
        | ((with_reducible refine at_op (some 18) (.load 4 (.tmp 17)) ?_); go_must (refine wpl_execG (.bool true) rfl (exec_ldx (.bool true) (Mem.cell hm 0 rfl 1) rfl ag_bool) ?_))
        | ((with_reducible refine at_op (some 25) (.load 3 (.tmp 24)) ?_); go_must (refine wpl_execG (.int .i64 (kn t.k : Int)) rfl (exec_ldx (.int .i64 (kn t.k : Int)) (Mem.cell hm 0 rfl 2) rfl ag_int) ?_))
        | ((with_reducible refine at_op (some 21) (.load 3 (.tmp 20)) ?_); go_must (refine wpl_execG (.int .i64 t.n) rfl (exec_ldx (.int .i64 t.n) (Mem.cell hm 1 rfl 1) rfl ag_int) ?_))
        | (go_at_call 31; go_must (refine (HIT.out _).mono ?_); rintro e w' ⟨he, hw⟩; subst he; replace hw := hw.symm; subst hw)
        | ((with_reducible refine at_op (some 23) (.binOp .add 9 (.tmp 19) (.tmp 22) 9) ?_); go_must (refine wpl_execG (.string (mkS (hdT t.k t.n))) rfl (exec_addB (mkS (wd t.k)) (mkS (dig t.n)) (mkS (hdT t.k t.n)) (HHD.out ()) rfl rfl (by have h9 := HDL.out (); rw [mkS_size, mkS_size]; omega)) ?_)))
      go_ret
      exact ⟨by rw [HR.out ()]; rfl, hm.below⟩
    · have hkn0 := hkn
      have HHD : Hid (∀ _ : Unit, mkS (hdT t.k t.n) = mkS (wd t.k) ++ mkS (dig t.n)) := fun _ => by rw [mkS_append, hdT, hnb, if_pos rfl]
      rw [hnb] at HF1 HFO
      have hz : ((kn t.k : Int) == 0) = false := beq_int_no _ _ (by omega)
      have HTW : Hid (∀ _ : Unit, txt t = hdT t.k t.n ++ 40 :: (jnB (t.l.map txt) ++ [41])) := fun _ => txt_with hkn
      clear hnb hkn hkn0
      go_enter Tryd.func23, Tryd.ntmps23
      go_wp2_with (first
        | ((with_reducible refine at_op (some 1) (.box 24 (.tmp 0)) ?_); go_must (refine wpl_box (tcs t (.slice p m cap)) rfl hm ?_); clear hm; intro w1 g1 hm)
        | ((with_reducible refine at_op (some 11) (.load 3 (.tmp 10)) ?_); go_must (refine wpl_execG (.int .i64 t.k) rfl (exec_ldx (.int .i64 t.k) (Mem.cell hm 0 rfl 0) rfl ag_int) ?_))
        | (go_at_call 24; go_must (refine (HFO.out _).mono ?_); rintro e w2 ⟨he, hb⟩; subst he; replace hm := hm.call hb; clear hb)
        | ((with_reducible refine at_op (some 3) (.alloc 57) ?_); go_must (refine wpl_alloc _ zero_form hm ?_); clear hm; intro w3 g3 hm)
        | ((with_reducible refine at_op none (.store 57 (.tmp 3) (.tmp 13)) ?_); go_must (refine wpl_stw 0 ([Value.string (mkS (wd t.k)), .bool true, .int .i64 (kn t.k : Int)]) hm rfl rfl rfl 3 sz_form rfl rfl ((HF1.out ())) ?_); clear hm; intro w4 hm)
        | ((with_reducible refine at_op (some 16) (.load 9 (.tmp 15)) ?_); go_must (refine wpl_execG (.string (mkS (wd t.k))) rfl (exec_ldx (.string (mkS (wd t.k))) (Mem.cell hm 0 rfl 0) rfl ag_str) ?_))
        | ((with_reducible refine at_op (some 18) (.load 4 (.tmp 17)) ?_); go_must (refine wpl_execG (.bool true) rfl (exec_ldx (.bool true) (Mem.cell hm 0 rfl 1) rfl ag_bool) ?_))
        | ((with_reducible refine at_op (some 25) (.load 3 (.tmp 24)) ?_); go_must (refine wpl_execG (.int .i64 (kn t.k : Int)) rfl (exec_ldx (.int .i64 (kn t.k : Int)) (Mem.cell hm 0 rfl 2) rfl ag_int) ?_))
        | ((with_reducible refine at_op (some 21) (.load 3 (.tmp 20)) ?_); go_must (refine wpl_execG (.int .i64 t.n) rfl (exec_ldx (.int .i64 t.n) (Mem.cell hm 1 rfl 1) rfl ag_int) ?_))
        | (go_at_call 31; go_must (refine (HIT.out _).mono ?_); rintro e w' ⟨he, hw⟩; subst he; replace hw := hw.symm; subst hw)
        | ((with_reducible refine at_op (some 23) (.binOp .add 9 (.tmp 19) (.tmp 22) 9) ?_); go_must (refine wpl_execG (.string (mkS (hdT t.k t.n))) rfl (exec_addB (mkS (wd t.k)) (mkS (dig t.n)) (mkS (hdT t.k t.n)) (HHD.out ()) rfl rfl (by have h9 := HDL.out (); rw [mkS_size, mkS_size]; omega)) ?_))
        | ((with_reducible refine at_op (some 29) (.load 22 (.tmp 28)) ?_); go_must (refine wpl_execG (.slice p m cap) rfl (exec_ldx (.slice p m cap) (Mem.cell hm 1 rfl 2) rfl ag_terms) ?_)))
      have HB4 : Hid (Below w.heap.size w w4) := hm.below
      obtain ⟨H, hH⟩ : ∃ H, H = mkS (hdT t.k t.n) := ⟨_, rfl⟩
      rw [← hH]
      have HH : Hid (∀ _ : Unit, H = mkS (hdT t.k t.n)) := fun _ => hH
      clear hm hH HHD
      go_loopw [31, 6] (fun vi vk wr => ∃ (k : Nat) (vb : Value), k ≤ m ∧ vi = .int .i64 (k : Int) ∧ vb = vk ∧ Hid (wr.ownsRow w.heap.size 9 1 vb k (strs (txs (t.l.take k)))) ∧ Hid (Below w.heap.size w wr)) (fun vi _ _ => m - (intOf vi).toNat)
      case atStart => exact ⟨0, _, by omega, rfl, rfl, World.ownsRow_nil _ _ _ _, HB4.out⟩
      case round =>
        obtain ⟨k, vb, hk, rfl, hvb, HO, HW⟩ := hrel
        subst hvb
        by_cases hlt : k < m
        · have hki : (k : Int) < (m : Int) := by omega
          obtain ⟨b, o, rfl⟩ := HS.out.at (show 0 < m by omega)
          obtain ⟨x, hx⟩ := get_of (HM.out ()) hlt
          obtain ⟨px, mx, cx, c0, c1, c2, hmx, hsx⟩ := (HS.out.below HW.out).cells hx
          have HMX : Hid (x ∈ t.l) := List.mem_of_getElem? hx
          have HCX : Hid (cnt x ≤ 100) := by show _ ≤ _; have := cnt_lt HMX.out; have := HC.out; omega
          have HX2 : Hid (SlT F wr (.slice px mx cx) x.l) := hsx
          have HSN : Hid (∀ _ : Unit, strs (txs (t.l.take (k + 1))) = strs (txs (t.l.take k)) ++ [.string (mkS (txt x))]) := fun _ => txs_snoc hx
          obtain ⟨X, hX⟩ : ∃ X, X = mkS (txt x) := ⟨_, rfl⟩
          have HCALL : Hid (∀ W, Below wr.heap.size wr W → Calls Tryd.prog 23 #[.agg (tcs x (.slice px mx cx)).toArray] W fun e w' => e = .returned (.string X) ∧ Below W.heap.size W w') := fun W hW => by
            rw [hX]
            exact HIH.out x HMX.out (.slice px mx cx) W HCX.out (okT_kid HOK.out HMX.out) (HX2.out.below hW)
          rw [← hX] at HSN
          have hk3 : k ≤ 100000 := by omega
          have hm := Mem.start wr
          clear hsx hx hmx hX HX2
          go_wp2_with (first
            | ((with_reducible refine at_op (some 33) (.indexAddr 22 (.tmp 29) (.tmp 31)) ?_); go_must (refine wpl_execG (.pointer (some ⟨b, o + k * 3, none⟩)) rfl (exec_ixT k rfl rfl rfl hlt) ?_))
            | ((with_reducible refine at_op (some 34) (.load 24 (.tmp 33)) ?_); go_must (refine wpl_execG (.agg (tcs x (.slice px mx cx)).toArray) rfl (exec_ldT rfl c0 c1 c2) ?_))
            | ((with_reducible refine at_op (some 8) (.alloc 24) ?_); go_must (refine wpl_alloc _ zero_term hm ?_); clear hm; intro w5 g5 hm)
            | ((with_reducible refine at_op none (.store 24 (.tmp 8) (.tmp 34)) ?_); go_must (refine wpl_stw 0 (tcs x (.slice px mx cx)) hm rfl rfl rfl 3 sz_term rfl rfl (oneTcs _ _ _ _) ?_); clear hm; intro w6 hm)
            | ((with_reducible refine at_op (some 36) (.load 24 (.tmp 8)) ?_); go_must (refine wpl_ldw 0 hm rfl rfl _ Tryd.underlying24 rfl 3 sz_term rfl ?_))
            | (go_at_call 23; go_must (refine (HCALL.out _ hm.below).mono ?_); rintro e w7 ⟨he, hb⟩; subst he; replace hm := hm.call hb; clear hb)
            | ((with_reducible refine at_op (some 38) (.buildSlice 73 1 #[(0, .tmp 37)]) ?_); go_must (refine wpl_bsl1 rfl (.string ByteArray.empty) (.string X) un_strs info_str rfl rfl rfl hm ?_); clear hm; intro w8 g8 hb8 hm; clear hb8)
            | ((with_reducible refine at_op (some 39) (.call { callee := .builtin .append, args := #[.tmp 35, .tmp 38], argTypes := #[73, 73] }) ?_); go_must (refine wpl_appV (.string ByteArray.empty) 1 16 rfl un_strs made_str rfl (by omega) (by omega) (own_below HO.out hm.below) (Nat.le_trans HW.out.size hm.size) rfl rfl (hm.get 0 rfl) rfl (by simp [Value.oneCell']) hk3 ?_); intro v9 w9 ho9 hg9 hl9; have HX9 : Hid (w9.ownsRow w.heap.size 9 1 v9 (k + 1) (strs (txs (t.l.take k)) ++ [.string X])) := ho9; have HW9 : Hid (Below w.heap.size w w9) := below_grown (below_next HW.out HW.out.size hm.below) (Nat.le_trans HW.out.size hm.size) (own_below HO.out hm.below) hg9; clear ho9 hg9 hl9 hm))
          go_roundw
          case rel => exact ⟨k + 1, _, by omega, by go_num, rfl, by show World.ownsRow _ _ _ _ _ _ _; rw [HSN.out ()]; exact HX9.out, HW9.out⟩
          case measure => simp [intOf]; omega
        · have hkn : m = k := by omega
          subst hkn
          have hni : ¬ (m : Int) < (m : Int) := by omega
          have HTK : Hid (∀ _ : Unit, t.l.take m = t.l) := fun _ => by rw [HM.out (), List.take_length]
          obtain ⟨J, hJ⟩ : ∃ J, J = mkS (jnB (t.l.map txt)) := ⟨_, rfl⟩
          have HJN : Hid (∀ W, Below wr.heap.size wr W → Calls Tryd.prog 32 #[vb, .string ⟨#[44]⟩] W fun e w' => e = .returned (.string J) ∧ Below W.heap.size W w') := fun W hW => by
            have hq := SlV.below (own_sl HO.out) hW
            rw [HTK.out ()] at hq
            have hlen : (txs t.l).length = m := by rw [txs_len, HM.out ()]
            have h9 := join_any (txs t.l) vb W (by show SlV 1 W vb (txs t.l).length _; rw [hlen]; exact hq) (by omega) (by
              rw [txs_bs]
              have h1 := HTL.out ()
              rw [HTW.out ()] at h1
              simp only [List.length_append, List.length_cons] at h1
              omega)
            rw [txs_bs, ← hJ] at h9
            exact h9
          have HJL : Hid (∀ _ : Unit, H.size ≤ 800 ∧ J.size ≤ 800) := fun _ => by
            have h1 := HTL.out ()
            rw [HTW.out ()] at h1
            simp only [List.length_append, List.length_cons] at h1
            rw [HH.out (), hJ, mkS_size, mkS_size]
            omega
          have HR : Hid (∀ _ : Unit, mkS (txt t) = H ++ mkS [40] ++ J ++ mkS [41]) := fun _ => by
            rw [HTW.out (), HH.out (), hJ, mkS_append, mkS_append, mkS_append]
            congr 1
            simp
          obtain ⟨A1, hA1⟩ : ∃ x, x = H ++ mkS [40] := ⟨_, rfl⟩
          obtain ⟨A2, hA2⟩ : ∃ x, x = A1 ++ J := ⟨_, rfl⟩
          obtain ⟨A3, hA3⟩ : ∃ x, x = A2 ++ mkS [41] := ⟨_, rfl⟩
          have HA1 : Hid (∀ _ : Unit, A1 = H ++ mkS [40]) := fun _ => hA1
          have HA2 : Hid (∀ _ : Unit, A2 = A1 ++ J) := fun _ => hA2
          have HA3 : Hid (∀ _ : Unit, A3 = A2 ++ mkS [41]) := fun _ => hA3
          have hm := (Mem.start w).call HW.out
          have hmr := Mem.start wr
          clear hJ hA1 hA2 hA3 HO
          go_wp2_with (first
            | ((with_reducible refine at_op (some 42) (.binOp .add 9 (.tmp 41) (.const (.string { data := #[40] })) 9) ?_); go_must (refine wpl_execG (.string A1) rfl (exec_addB H (mkS [40]) A1 (HA1.out ()) rfl rfl (by have h9 := HJL.out (); rw [mkS_size]; simp; omega)) ?_))
            | (go_at_call 32; go_must (refine (HJN.out _ hmr.below).mono ?_); rintro e w' ⟨he, hb⟩; subst he; replace hm := hm.call hb; clear hb)
            | ((with_reducible refine at_op (some 45) (.binOp .add 9 (.tmp 42) (.tmp 44) 9) ?_); go_must (refine wpl_execG (.string A2) rfl (exec_addB A1 J A2 (HA2.out ()) rfl rfl (by have h9 := HJL.out (); rw [HA1.out (), ByteArray.size_append, mkS_size]; simp; omega)) ?_))
            | ((with_reducible refine at_op (some 46) (.binOp .add 9 (.tmp 45) (.const (.string { data := #[41] })) 9) ?_); go_must (refine wpl_execG (.string A3) rfl (exec_addB A2 (mkS [41]) A3 (HA3.out ()) rfl rfl (by have h9 := HJL.out (); rw [HA2.out (), HA1.out (), ByteArray.size_append, ByteArray.size_append, mkS_size, mkS_size]; simp; omega)) ?_)))
          go_ret
          exact ⟨by rw [HR.out (), ← HA1.out (), ← HA2.out (), ← HA3.out ()]; rfl, hm.below⟩
  | false =>
    have hkn : ¬ kn t.k = 0 := by
      intro h
      have h1 := okF_k (okT_okF HOK.out)
      unfold kn at h
      unfold nb at hnb
      simp only [decide_eq_false_iff_not] at hnb
      split at h
      · omega
      · split at h <;> omega
    have HHD : Hid (∀ _ : Unit, mkS (wd t.k) = mkS (hdT t.k t.n)) := fun _ => by rw [hdT, hnb]; simp
    rw [hnb] at HF1 HFO
    have hz : ((kn t.k : Int) == 0) = false := beq_int_no _ _ (by omega)
    have HTW : Hid (∀ _ : Unit, txt t = hdT t.k t.n ++ 40 :: (jnB (t.l.map txt) ++ [41])) := fun _ => txt_with hkn
    clear hnb hkn
    go_enter Tryd.func23, Tryd.ntmps23
    go_wp2_with (first
      | ((with_reducible refine at_op (some 1) (.box 24 (.tmp 0)) ?_); go_must (refine wpl_box (tcs t (.slice p m cap)) rfl hm ?_); clear hm; intro w1 g1 hm)
      | ((with_reducible refine at_op (some 11) (.load 3 (.tmp 10)) ?_); go_must (refine wpl_execG (.int .i64 t.k) rfl (exec_ldx (.int .i64 t.k) (Mem.cell hm 0 rfl 0) rfl ag_int) ?_))
      | (go_at_call 24; go_must (refine (HFO.out _).mono ?_); rintro e w2 ⟨he, hb⟩; subst he; replace hm := hm.call hb; clear hb)
      | ((with_reducible refine at_op (some 3) (.alloc 57) ?_); go_must (refine wpl_alloc _ zero_form hm ?_); clear hm; intro w3 g3 hm)
      | ((with_reducible refine at_op none (.store 57 (.tmp 3) (.tmp 13)) ?_); go_must (refine wpl_stw 0 ([Value.string (mkS (wd t.k)), .bool false, .int .i64 (kn t.k : Int)]) hm rfl rfl rfl 3 sz_form rfl rfl ((HF1.out ())) ?_); clear hm; intro w4 hm)
      | ((with_reducible refine at_op (some 16) (.load 9 (.tmp 15)) ?_); go_must (refine wpl_execG (.string (mkS (wd t.k))) rfl (exec_ldx (.string (mkS (wd t.k))) (Mem.cell hm 0 rfl 0) rfl ag_str) ?_))
      | ((with_reducible refine at_op (some 18) (.load 4 (.tmp 17)) ?_); go_must (refine wpl_execG (.bool false) rfl (exec_ldx (.bool false) (Mem.cell hm 0 rfl 1) rfl ag_bool) ?_))
      | ((with_reducible refine at_op (some 25) (.load 3 (.tmp 24)) ?_); go_must (refine wpl_execG (.int .i64 (kn t.k : Int)) rfl (exec_ldx (.int .i64 (kn t.k : Int)) (Mem.cell hm 0 rfl 2) rfl ag_int) ?_))
      | ((with_reducible refine at_op (some 29) (.load 22 (.tmp 28)) ?_); go_must (refine wpl_execG (.slice p m cap) rfl (exec_ldx (.slice p m cap) (Mem.cell hm 1 rfl 2) rfl ag_terms) ?_)))
    have HB4 : Hid (Below w.heap.size w w4) := hm.below
    obtain ⟨H, hH⟩ : ∃ H, H = mkS (hdT t.k t.n) := ⟨_, rfl⟩
    rw [HHD.out (), ← hH]
    have HH : Hid (∀ _ : Unit, H = mkS (hdT t.k t.n)) := fun _ => hH
    clear hm hH HHD
    go_loopw [31, 6] (fun vi vk wr => ∃ (k : Nat) (vb : Value), k ≤ m ∧ vi = .int .i64 (k : Int) ∧ vb = vk ∧ Hid (wr.ownsRow w.heap.size 9 1 vb k (strs (txs (t.l.take k)))) ∧ Hid (Below w.heap.size w wr)) (fun vi _ _ => m - (intOf vi).toNat)
    case atStart => exact ⟨0, _, by omega, rfl, rfl, World.ownsRow_nil _ _ _ _, HB4.out⟩
    case round =>
      obtain ⟨k, vb, hk, rfl, hvb, HO, HW⟩ := hrel
      subst hvb
      by_cases hlt : k < m
      · have hki : (k : Int) < (m : Int) := by omega
        obtain ⟨b, o, rfl⟩ := HS.out.at (show 0 < m by omega)
        obtain ⟨x, hx⟩ := get_of (HM.out ()) hlt
        obtain ⟨px, mx, cx, c0, c1, c2, hmx, hsx⟩ := (HS.out.below HW.out).cells hx
        have HMX : Hid (x ∈ t.l) := List.mem_of_getElem? hx
        have HCX : Hid (cnt x ≤ 100) := by show _ ≤ _; have := cnt_lt HMX.out; have := HC.out; omega
        have HX2 : Hid (SlT F wr (.slice px mx cx) x.l) := hsx
        have HSN : Hid (∀ _ : Unit, strs (txs (t.l.take (k + 1))) = strs (txs (t.l.take k)) ++ [.string (mkS (txt x))]) := fun _ => txs_snoc hx
        obtain ⟨X, hX⟩ : ∃ X, X = mkS (txt x) := ⟨_, rfl⟩
        have HCALL : Hid (∀ W, Below wr.heap.size wr W → Calls Tryd.prog 23 #[.agg (tcs x (.slice px mx cx)).toArray] W fun e w' => e = .returned (.string X) ∧ Below W.heap.size W w') := fun W hW => by
          rw [hX]
          exact HIH.out x HMX.out (.slice px mx cx) W HCX.out (okT_kid HOK.out HMX.out) (HX2.out.below hW)
        rw [← hX] at HSN
        have hk3 : k ≤ 100000 := by omega
        have hm := Mem.start wr
        clear hsx hx hmx hX HX2
        go_wp2_with (first
          | ((with_reducible refine at_op (some 33) (.indexAddr 22 (.tmp 29) (.tmp 31)) ?_); go_must (refine wpl_execG (.pointer (some ⟨b, o + k * 3, none⟩)) rfl (exec_ixT k rfl rfl rfl hlt) ?_))
          | ((with_reducible refine at_op (some 34) (.load 24 (.tmp 33)) ?_); go_must (refine wpl_execG (.agg (tcs x (.slice px mx cx)).toArray) rfl (exec_ldT rfl c0 c1 c2) ?_))
          | ((with_reducible refine at_op (some 8) (.alloc 24) ?_); go_must (refine wpl_alloc _ zero_term hm ?_); clear hm; intro w5 g5 hm)
          | ((with_reducible refine at_op none (.store 24 (.tmp 8) (.tmp 34)) ?_); go_must (refine wpl_stw 0 (tcs x (.slice px mx cx)) hm rfl rfl rfl 3 sz_term rfl rfl (oneTcs _ _ _ _) ?_); clear hm; intro w6 hm)
          | ((with_reducible refine at_op (some 36) (.load 24 (.tmp 8)) ?_); go_must (refine wpl_ldw 0 hm rfl rfl _ Tryd.underlying24 rfl 3 sz_term rfl ?_))
          | (go_at_call 23; go_must (refine (HCALL.out _ hm.below).mono ?_); rintro e w7 ⟨he, hb⟩; subst he; replace hm := hm.call hb; clear hb)
          | ((with_reducible refine at_op (some 38) (.buildSlice 73 1 #[(0, .tmp 37)]) ?_); go_must (refine wpl_bsl1 rfl (.string ByteArray.empty) (.string X) un_strs info_str rfl rfl rfl hm ?_); clear hm; intro w8 g8 hb8 hm; clear hb8)
          | ((with_reducible refine at_op (some 39) (.call { callee := .builtin .append, args := #[.tmp 35, .tmp 38], argTypes := #[73, 73] }) ?_); go_must (refine wpl_appV (.string ByteArray.empty) 1 16 rfl un_strs made_str rfl (by omega) (by omega) (own_below HO.out hm.below) (Nat.le_trans HW.out.size hm.size) rfl rfl (hm.get 0 rfl) rfl (by simp [Value.oneCell']) hk3 ?_); intro v9 w9 ho9 hg9 hl9; have HX9 : Hid (w9.ownsRow w.heap.size 9 1 v9 (k + 1) (strs (txs (t.l.take k)) ++ [.string X])) := ho9; have HW9 : Hid (Below w.heap.size w w9) := below_grown (below_next HW.out HW.out.size hm.below) (Nat.le_trans HW.out.size hm.size) (own_below HO.out hm.below) hg9; clear ho9 hg9 hl9 hm))
        go_roundw
        case rel => exact ⟨k + 1, _, by omega, by go_num, rfl, by show World.ownsRow _ _ _ _ _ _ _; rw [HSN.out ()]; exact HX9.out, HW9.out⟩
        case measure => simp [intOf]; omega
      · have hkn : m = k := by omega
        subst hkn
        have hni : ¬ (m : Int) < (m : Int) := by omega
        have HTK : Hid (∀ _ : Unit, t.l.take m = t.l) := fun _ => by rw [HM.out (), List.take_length]
        obtain ⟨J, hJ⟩ : ∃ J, J = mkS (jnB (t.l.map txt)) := ⟨_, rfl⟩
        have HJN : Hid (∀ W, Below wr.heap.size wr W → Calls Tryd.prog 32 #[vb, .string ⟨#[44]⟩] W fun e w' => e = .returned (.string J) ∧ Below W.heap.size W w') := fun W hW => by
          have hq := SlV.below (own_sl HO.out) hW
          rw [HTK.out ()] at hq
          have hlen : (txs t.l).length = m := by rw [txs_len, HM.out ()]
          have h9 := join_any (txs t.l) vb W (by show SlV 1 W vb (txs t.l).length _; rw [hlen]; exact hq) (by omega) (by
            rw [txs_bs]
            have h1 := HTL.out ()
            rw [HTW.out ()] at h1
            simp only [List.length_append, List.length_cons] at h1
            omega)
          rw [txs_bs, ← hJ] at h9
          exact h9
        have HJL : Hid (∀ _ : Unit, H.size ≤ 800 ∧ J.size ≤ 800) := fun _ => by
          have h1 := HTL.out ()
          rw [HTW.out ()] at h1
          simp only [List.length_append, List.length_cons] at h1
          rw [HH.out (), hJ, mkS_size, mkS_size]
          omega
        have HR : Hid (∀ _ : Unit, mkS (txt t) = H ++ mkS [40] ++ J ++ mkS [41]) := fun _ => by
          rw [HTW.out (), HH.out (), hJ, mkS_append, mkS_append, mkS_append]
          congr 1
          simp
        obtain ⟨A1, hA1⟩ : ∃ x, x = H ++ mkS [40] := ⟨_, rfl⟩
        obtain ⟨A2, hA2⟩ : ∃ x, x = A1 ++ J := ⟨_, rfl⟩
        obtain ⟨A3, hA3⟩ : ∃ x, x = A2 ++ mkS [41] := ⟨_, rfl⟩
        have HA1 : Hid (∀ _ : Unit, A1 = H ++ mkS [40]) := fun _ => hA1
        have HA2 : Hid (∀ _ : Unit, A2 = A1 ++ J) := fun _ => hA2
        have HA3 : Hid (∀ _ : Unit, A3 = A2 ++ mkS [41]) := fun _ => hA3
        have hm := (Mem.start w).call HW.out
        have hmr := Mem.start wr
        clear hJ hA1 hA2 hA3 HO
        go_wp2_with (first
          | ((with_reducible refine at_op (some 42) (.binOp .add 9 (.tmp 41) (.const (.string { data := #[40] })) 9) ?_); go_must (refine wpl_execG (.string A1) rfl (exec_addB H (mkS [40]) A1 (HA1.out ()) rfl rfl (by have h9 := HJL.out (); rw [mkS_size]; simp; omega)) ?_))
          | (go_at_call 32; go_must (refine (HJN.out _ hmr.below).mono ?_); rintro e w' ⟨he, hb⟩; subst he; replace hm := hm.call hb; clear hb)
          | ((with_reducible refine at_op (some 45) (.binOp .add 9 (.tmp 42) (.tmp 44) 9) ?_); go_must (refine wpl_execG (.string A2) rfl (exec_addB A1 J A2 (HA2.out ()) rfl rfl (by have h9 := HJL.out (); rw [HA1.out (), ByteArray.size_append, mkS_size]; simp; omega)) ?_))
          | ((with_reducible refine at_op (some 46) (.binOp .add 9 (.tmp 45) (.const (.string { data := #[41] })) 9) ?_); go_must (refine wpl_execG (.string A3) rfl (exec_addB A2 (mkS [41]) A3 (HA3.out ()) rfl rfl (by have h9 := HJL.out (); rw [HA2.out (), HA1.out (), ByteArray.size_append, ByteArray.size_append, mkS_size, mkS_size]; simp; omega)) ?_)))
        go_ret
        exact ⟨by rw [HR.out (), ← HA1.out (), ← HA2.out (), ← HA3.out ()]; rfl, hm.below⟩
set_option maxHeartbeats 1000000 in
set_option maxRecDepth 100000 in
theorem print_any {F : Nat → Prop} (t : Tm) (s : Value) (w : World) (hs : SlT F w s t.l) :
    Calls Tryd.prog 13 #[.agg (tcs t s).toArray] w fun e w' => e = .returned (.string (if isT t then mkS (txt t) else noStr)) ∧ Below w.heap.size w w' := by
  have hm := Mem.start w
  have HS : Hid (SlT F w s t.l) := hs
  have HIS : Hid (∀ W, Below w.heap.size w W → Calls Tryd.prog 7 #[.agg (tcs t s).toArray] W fun e w' => e = .returned (.bool (isT t)) ∧ Below W.heap.size W w') := fun W hW => is_any t s W (HS.out.below hW)
  clear hs
  cases hi : isT t with
  | true =>
    rw [hi] at HIS
    have HTX : Hid (∀ W, Below w.heap.size w W → Calls Tryd.prog 23 #[.agg (tcs t s).toArray] W fun e w' => e = .returned (.string (mkS (txt t))) ∧ Below W.heap.size W w') := fun W hW => by
      have h := isT_iff.1 hi
      exact text_any t s W (by omega) h.2 (HS.out.below hW)
    clear hi
    go_enter Tryd.func13, Tryd.ntmps13
    go_wp2_with (first
      | ((with_reducible refine at_op (some 1) (.box 24 (.tmp 0)) ?_); go_must (refine wpl_box (tcs t s) rfl hm ?_); clear hm; intro w1 g1 hm)
      | ((with_reducible refine at_op (some 3) (.load 24 (.tmp 1)) ?_); go_must (refine wpl_ldw 0 hm rfl rfl _ Tryd.underlying24 rfl 3 sz_term rfl ?_))
      | (go_at_call 7; go_must (refine (HIS.out _ hm.below).mono ?_); rintro e w2 ⟨he, hb⟩; subst he; replace hm := hm.call hb; clear hb)
      | ((with_reducible refine at_op (some 6) (.load 24 (.tmp 1)) ?_); go_must (refine wpl_ldw 0 hm rfl rfl _ Tryd.underlying24 rfl 3 sz_term rfl ?_))
      | (go_at_call 23; go_must (refine (HTX.out _ hm.below).mono ?_); rintro e w3 ⟨he, hb⟩; subst he; replace hm := hm.call hb; clear hb))
    go_ret
    exact ⟨rfl, hm.below⟩
  | false =>
    rw [hi] at HIS
    clear hi
    go_enter Tryd.func13, Tryd.ntmps13
    go_wp2_with (first
      | ((with_reducible refine at_op (some 1) (.box 24 (.tmp 0)) ?_); go_must (refine wpl_box (tcs t s) rfl hm ?_); clear hm; intro w1 g1 hm)
      | ((with_reducible refine at_op (some 3) (.load 24 (.tmp 1)) ?_); go_must (refine wpl_ldw 0 hm rfl rfl _ Tryd.underlying24 rfl 3 sz_term rfl ?_))
      | (go_at_call 7; go_must (refine (HIS.out _ hm.below).mono ?_); rintro e w2 ⟨he, hb⟩; subst he; replace hm := hm.call hb; clear hb))
    go_ret
    exact ⟨rfl, hm.below⟩
end Go.Proofs.YtbiinchmbclmcaaDoor
