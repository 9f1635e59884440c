/- The walk of the law TermBounds. -/
import Derived.Test.YtbphmcbflnaenaaDoorTmKnown
namespace Go.Proofs.YtbphmcbflnaenaaDoor
open Go Go.RowKit
def twD : Nat → Tm
  | 0 => mkT 2 3 []
  | j + 1 => mkT 5 1 [twD j]
def twP : Nat → Tm
  | 0 => mkT 2 3 []
  | j + 1 => mkT 4 0 [twP j, mkT 1 0 []]
theorem twD_cnt (j : Nat) : cnt (twD j) = j + 1 := by
  induction j with
  | zero => rw [twD, cnt_mk]; rfl
  | succ j ih => rw [twD, cnt_mk]; simp [ih]; omega
theorem twP_cnt (j : Nat) : cnt (twP j) = 2 * j + 1 := by
  induction j with
  | zero => rw [twP, cnt_mk]; rfl
  | succ j ih =>
    rw [twP, cnt_mk]
    have : cnt (mkT 1 0 []) = 1 := by rw [cnt_mk]; rfl
    simp [ih, this]; omega
theorem twD_ok (j : Nat) : okT (twD j) = true := by
  induction j with
  | zero => decide +kernel
  | succ j ih => rw [twD, ok_mk]; simp [ih]; decide
theorem twP_ok (j : Nat) : okT (twP j) = true := by
  induction j with
  | zero => decide +kernel
  | succ j ih =>
    rw [twP, ok_mk]
    have : okT (mkT 1 0 []) = true := by decide +kernel
    simp [ih, this]; decide
theorem addP_ge (t : Tm) : ∀ acc, acc.length ≤ (addP t acc).length := by
  induction t using Tm.ind with
  | h t ih =>
    have key : ∀ (l : List Tm), (∀ x ∈ l, ∀ acc, acc.length ≤ (addP x acc).length) → ∀ acc, acc.length ≤ (addK l acc).length := by
      intro l
      induction l with
      | nil => intro _ acc; exact Nat.le_refl _
      | cons x l ih2 =>
        intro h acc
        rw [addK_cons]
        exact Nat.le_trans (h x (List.mem_cons_self ..) acc) (ih2 (fun y hy => h y (List.mem_cons_of_mem _ hy)) _)
    intro acc
    rw [addP_eq]
    split
    · exact Nat.le_refl _
    · have := key t.l ih (acc ++ [t])
      rw [List.length_append, List.length_singleton] at this
      omega
theorem addK_ge (l : List Tm) : ∀ acc, acc.length ≤ (addK l acc).length := by
  induction l with
  | nil => intro acc; exact Nat.le_refl _
  | cons x l ih => intro acc; rw [addK_cons]; exact Nat.le_trans (addP_ge x acc) (ih _)
theorem partsT_pos (t : Tm) : 0 < (partsT t).length := by
  rw [partsT, addP_eq, if_neg (by simp [inL])]
  have := addK_ge t.l ([] ++ [t])
  simp at this ⊢
  omega
theorem txt_pos {t : Tm} (h : okT t = true) : txt t ≠ [] := by
  intro he
  have h1 := rdT_full (cnt t) t h (cnt t) [] (Nat.le_refl _) (Nat.le_refl _) noD_nil
  have hk := okF_k (okT_okF h)
  rw [txt_eq, hdT] at he
  have h2 := dig_len t.n
  unfold wd nb kn at he
  simp only [List.append_eq_nil_iff] at he
  obtain ⟨⟨h3, h4⟩, h5⟩ := he
  have : t.k = 1 ∨ t.k = 2 ∨ t.k = 3 ∨ t.k = 4 ∨ t.k = 5 := by omega
  rcases this with h | h | h | h | h <;> simp [h] at h3 h5
def FNX (hi g : Nat) : Nat → Prop := fun b => b < hi ∧ b ≠ g
theorem exec_minI {a : Act} {w : World} {dst : Option Tmp} {typ : TypeId} {pos : String} {aft : Array Edge} {gd : Option (Nat × Bool)} {x y : Operand} {i j : Int} (c : Int) (hx : a.eval x = .int .i64 i) (hy : a.eval y = .int .i64 j) (hc : (if j < i then j else i) = c) :
    (execOp a.eval { dst := dst, op := .call { callee := .builtin .min, args := #[x, y], argTypes := #[3, 3] }, type := typ, pos := pos, after := aft, guard := gd }).run Tryd.prog w = .ok (.value (.int .i64 c)) w := by
  subst hc
  unfold execOp
  simp only [resolve, invoke, builtin, Sem.run_bind, Sem.run_pure, Result.andThen_ok, List.map_toArray, List.map_cons, List.map_nil, hx, hy]
  simp [Builtin.min_, Builtin.min2]
set_option maxHeartbeats 8000000 in
set_option maxRecDepth 100000 in
theorem tbounds_walk (n kd0 : Int) (hn : 0 ≤ n ∧ n ≤ 255) (hkd : 0 ≤ kd0 ∧ kd0 ≤ 255) (w : World) (hE : Esx w) (h10 : 10 ≤ w.heap.size) :
    Calls Tryd.prog 7 #[.int .u8 n, .int .u8 kd0] w fun e w' => e = .returned (.bool true) ∧ Below w.heap.size w w' := by
  have hm := Mem.start w
  have HKN : Hid (∀ W, Below w.heap.size w W → Calls Tryd.prog 9 #[] W fun e w' => e = .returned (.bool true) ∧ Below W.heap.size W w') := fun W hW => known_any W (hE.below hW) (Nat.le_trans h10 hW.size)
  obtain ⟨k, hk⟩ : ∃ k : Nat, n % 70 + 1 = (k : Int) := ⟨(n % 70 + 1).toNat, by omega⟩
  have hk70 : 1 ≤ k ∧ k ≤ 70 := by omega
  have hw : IntKind.i64.wrap (n % 70 + 1) = (k : Int) := (wrapi _ (by omega) (by omega)).trans hk
  clear hE h10
  rcases (show kd0 % 2 = 0 ∨ kd0 % 2 = 1 by omega) with hpar | hpar
  · go_enter Tryd.func7, Tryd.ntmps7
    go_wp2_with (first
      | (go_at_call 9; go_must (refine (HKN.out _ hm.below).mono ?_); rintro e w' ⟨he, hb⟩; subst he; replace hm := hm.call hb; clear hb)
      | ((with_reducible refine at_op (some 6) (.alloc 24) ?_); go_must (refine wpl_alloc _ zero_term hm ?_); clear hm; intro w4 g6 hm)
      | ((with_reducible refine at_op none (.store 24 (.tmp 6) (.tmp 14)) ?_); go_must (refine wpl_stw 0 ([.int .i64 2, .int .i64 3, .slice none 0 0]) hm rfl rfl rfl 3 sz_term rfl rfl ((by intro v hv; simp only [List.mem_cons, List.not_mem_nil, or_false] at hv; rcases hv with rfl | rfl | rfl <;> rfl)) ?_); clear hm; intro w5 hm))
    go_loopw [7] (fun vm wr => ∃ (j : Nat) (s : Value), vm = .int .i64 ((j + 1 : Nat) : Int) ∧ j + 1 ≤ k ∧ Hid (SlT (FNX wr.heap.size g6) wr s (twD j).l) ∧ Hid (Mem w [] wr [(g6, tcs (twD j) s, 24)])) (fun vm _ => k + 2 - (intOf vm).toNat)
    case atStart => exact ⟨0, _, rfl, by omega, by show SlT _ _ _ _; rw [twD, mkT_l]; exact SlT.nil, hm⟩
    case round =>
      clear hm
      obtain ⟨j, s, rfl, hj, HSJ, HMM⟩ := hrel
      have hm := HMM.out
      obtain ⟨ps, cs, hs, _⟩ := HSJ.out.len
      obtain ⟨ms, hms⟩ : ∃ ms, ms = (twD j).l.length := ⟨_, rfl⟩
      rw [← hms] at hs
      subst hs
      clear HMM hms
      by_cases hlt : j + 1 < k
      · have hki : ((j + 1 : Nat) : Int) < (k : Int) := by omega
        have hki2 : (j : Int) + 1 < (k : Int) := by omega
        go_wp2_with (first
          | ((with_reducible refine at_op (some 21) (.load 24 (.tmp 6)) ?_); go_must (refine wpl_ldw 0 hm rfl rfl _ Tryd.underlying24 rfl 3 sz_term rfl ?_))
          | ((with_reducible refine at_op (some 22) (.buildSlice 22 1 #[(0, .tmp 21)]) ?_); go_must (refine wpl_bslT (twD j) (.slice ps ms cs) rfl rfl hm ?_); clear hm; intro w8 g8 hb8 hm; have HSN : Hid (SlT (FNX w8.heap.size g6) w8 (.slice (some ⟨g8, 0, none⟩) 1 1) [twD j]) := slt_one (hm.get 0 rfl) ((HSJ.out.below hb8).weak (fun b hb9 => ⟨Nat.lt_of_lt_of_le hb9.1 hb8.size, hb9.2⟩)) ⟨(hm.get 0 rfl).lt, (fun he => hm.ne 0 rfl he)⟩; clear hb8)
          | ((with_reducible refine at_op none (.store 24 (.tmp 6) (.tmp 23)) ?_); go_must (refine wpl_stwU 1 [.int .i64 5, .int .i64 1, .slice (some ⟨g8, 0, none⟩) 1 1] hm rfl rfl rfl 3 sz_term rfl rfl (by intro v hv; simp only [List.mem_cons, List.not_mem_nil, or_false] at hv; rcases hv with rfl | rfl | rfl <;> rfl) ?_); clear hm; intro w9 hu9 hm; have HSJ9 : Hid (SlT (FNX w9.heap.size g6) w9 (.slice (some ⟨g8, 0, none⟩) 1 1) (twD (j + 1)).l) := (by show SlT _ _ _ _; rw [twD, mkT_l]; exact (HSN.out.keep (Keeps.upd hu9 (fun b hb9 => hb9.2))).weak (fun b hb9 => ⟨Nat.lt_of_lt_of_le hb9.1 hu9.size, hb9.2⟩)); clear hu9 HSN))
        go_roundw
        case rel => exact ⟨j + 1, _, by go_num, by omega, HSJ9.out, hm.tail⟩
        case measure => simp [intOf]; omega
      · have hki : ¬ ((j + 1 : Nat) : Int) < (k : Int) := by omega
        have hki2 : ¬ (j : Int) + 1 < (k : Int) := by omega
        obtain ⟨mm, hmm⟩ : ∃ mm : Nat, mm = j + 1 := ⟨_, rfl⟩
        have hmi : ((j + 1 : Nat) : Int) = (mm : Int) := by omega
        have hm72 : mm ≤ 72 := by omega
        have hmk : ¬ (mm : Int) < (k : Int) := by omega
        obtain ⟨t, ht⟩ : ∃ t, t = twD j := ⟨_, rfl⟩
        have hcnt : cnt t = mm := by rw [ht, twD_cnt, hmm]
        have hok : okT t = true := by rw [ht]; exact twD_ok j
        have HST : Hid (SlT (FNX wr.heap.size g6) wr (.slice ps ms cs) t.l) := by rw [ht]; exact HSJ.out
        have HM9 : Hid (Mem w [] wr [(g6, tcs t (.slice ps ms cs), 24)]) := by rw [ht]; exact hm
        rw [hmi]
        clear hm hmi ht hki hki2 hmm hlt hj
        by_cases h60 : mm ≤ 60
        · skip
          have hm := HM9.out
          have hit : isT t = true := by rw [isT_iff, hcnt]; exact ⟨h60, hok⟩
          have HIS : Hid (∀ W, Below wr.heap.size wr W → Calls Tryd.prog 11 #[.agg (tcs t (.slice ps ms cs)).toArray] W fun e w' => e = .returned (.bool true) ∧ Below W.heap.size W w') := fun W hW => by
            have h9 := is_any t _ W (HST.out.below hW)
            rw [hit] at h9
            exact h9
          obtain ⟨c61, hc61⟩ : ∃ c : Nat, c = min 61 mm := ⟨_, rfl⟩
          have HCN : Hid (∀ W, Below wr.heap.size wr W → Calls Tryd.prog 15 #[.agg (tcs t (.slice ps ms cs)).toArray] W fun e w' => e = .returned (.int .i64 (c61 : Int)) ∧ Below W.heap.size W w') := fun W hW => by
            have h9 := count_any t _ W (HST.out.below hW)
            rw [hcnt, ← hc61] at h9
            exact h9
          obtain ⟨X, hX⟩ : ∃ X, X = txt t := ⟨_, rfl⟩
          have HXN : Hid (∀ _ : Unit, (mkS X == ⟨#[]⟩) = false) := fun _ => eqs_no (fun he => txt_pos hok (by rw [← hX]; exact mkS_inj he))
          have HPR : Hid (∀ W, Below wr.heap.size wr W → Calls Tryd.prog 17 #[.agg (tcs t (.slice ps ms cs)).toArray] W fun e w' => e = .returned (.string (mkS X)) ∧ Below W.heap.size W w') := fun W hW => by
            have h9 := print_any t _ W (HST.out.below hW)
            rw [hit, if_pos rfl, ← hX] at h9
            exact h9
          obtain ⟨np, hnp⟩ : ∃ np, np = (partsT t).length := ⟨_, rfl⟩
          have hnpi : decide ((np : Int) > 0) = true := decide_eq_true (by have := partsT_pos t; omega)
          have hnpj : (0 : Int) < (np : Int) := by have := partsT_pos t; omega
          have HPT : Hid (∀ W, Below wr.heap.size wr W → Calls Tryd.prog 20 #[.agg (tcs t (.slice ps ms cs)).toArray] W fun e w' => ∃ p c, e = .returned (.slice p np c) ∧ Below W.heap.size W w') := fun W hW => (parts_yes t _ W hit (HST.out.below hW)).mono (by rintro e w' ⟨v, he, hs, hb⟩; obtain ⟨p, c, hv, _⟩ := hs.len; rw [← hnp] at hv; exact ⟨p, c, by rw [he, hv], hb⟩)
          have hnpk : 0 < np := by omega
          have h60i : decide ((mm : Int) ≤ 60) = true := decide_eq_true (by omega)
          have HCE : Hid (∀ _ : Unit, (if (61 : Int) < (mm : Int) then (61 : Int) else (mm : Int)) = (c61 : Int)) := fun _ => by split <;> omega
          have HB0 : Hid (Below w.heap.size w wr) := hm.below
          have hm2 := Mem.start wr
          have HR6 : Hid (Row wr g6 (tcs t (.slice ps ms cs)) 24) := hm.get 0 rfl
          clear hm hcnt hok hit hX hnp hc61 HST HM9
          have hm := Mem.start wr
          clear hm2
          go_wp2_with (first
            | ((with_reducible refine at_op (some 32) (.load 24 (.tmp 6)) ?_); go_must (refine wpl_execG (.agg (tcs t (.slice ps ms cs)).toArray) rfl (exec_ldsG 0 (tcs t (.slice ps ms cs)) (HR6.out.below' hm.below) rfl _ Tryd.underlying24 rfl 3 sz_term (Nat.le_refl _) rfl) ?_))
            | (go_at_call 11; go_must (refine (HIS.out _ hm.below).mono ?_); rintro e w' ⟨he, hb⟩; subst he; replace hm := hm.call hb; clear hb)
            | ((with_reducible refine at_opG (some 38) (.load 24 (.tmp 6)) (some (5, true)) ?_); go_must (refine wpl_execG (.agg (tcs t (.slice ps ms cs)).toArray) rfl (exec_ldsG 0 (tcs t (.slice ps ms cs)) (HR6.out.below' hm.below) rfl _ Tryd.underlying24 rfl 3 sz_term (Nat.le_refl _) rfl) ?_))
            | (go_at_call 15; go_must (refine (HCN.out _ hm.below).mono ?_); rintro e w' ⟨he, hb⟩; subst he; replace hm := hm.call hb; clear hb)
            | ((with_reducible refine at_opG (some 41) (.call { callee := .builtin .min, args := #[.tmp 40, .const (.int .i64 61)], argTypes := #[3, 3] }) (some (5, true)) ?_); go_must (refine wpl_execG (.int .i64 (c61 : Int)) rfl (exec_minI _ rfl rfl (HCE.out ())) ?_))
            | ((with_reducible refine at_opG (some 45) (.load 24 (.tmp 6)) (some (12, true)) ?_); go_must (refine wpl_execG (.agg (tcs t (.slice ps ms cs)).toArray) rfl (exec_ldsG 0 (tcs t (.slice ps ms cs)) (HR6.out.below' hm.below) rfl _ Tryd.underlying24 rfl 3 sz_term (Nat.le_refl _) rfl) ?_))
            | (go_at_call 17; go_must (refine (HPR.out _ hm.below).mono ?_); rintro e w' ⟨he, hb⟩; subst he; replace hm := hm.call hb; clear hb)
            | ((with_reducible refine at_opG (some 47) (.binOp .neq 9 (.tmp 46) (.const (.string { data := #[] })) 9) (some (12, true)) ?_); go_must (refine wpl_execG (.bool true) rfl (exec_neB (mkS X) ⟨#[]⟩ false rfl rfl (HXN.out ())) ?_))
            | ((with_reducible refine at_opG (some 53) (.load 24 (.tmp 6)) (some (20, true)) ?_); go_must (refine wpl_execG (.agg (tcs t (.slice ps ms cs)).toArray) rfl (exec_ldsG 0 (tcs t (.slice ps ms cs)) (HR6.out.below' hm.below) rfl _ Tryd.underlying24 rfl 3 sz_term (Nat.le_refl _) rfl) ?_))
            | (go_at_call 20; go_must (refine (HPT.out _ hm.below).mono ?_); rintro e w10 ⟨p10, c10, he, hb⟩; subst he; replace hm := hm.call hb; clear hb))
          go_ret
          exact ⟨rfl, HB0.out.trans (hm.below.mono HB0.out.size)⟩
        · skip
          have hm := HM9.out
          have hit : isT t = false := by rw [isT, hcnt, decide_eq_false h60]; rfl
          have HIS : Hid (∀ W, Below wr.heap.size wr W → Calls Tryd.prog 11 #[.agg (tcs t (.slice ps ms cs)).toArray] W fun e w' => e = .returned (.bool false) ∧ Below W.heap.size W w') := fun W hW => by
            have h9 := is_any t _ W (HST.out.below hW)
            rw [hit] at h9
            exact h9
          obtain ⟨c61, hc61⟩ : ∃ c : Nat, c = min 61 mm := ⟨_, rfl⟩
          have HCN : Hid (∀ W, Below wr.heap.size wr W → Calls Tryd.prog 15 #[.agg (tcs t (.slice ps ms cs)).toArray] W fun e w' => e = .returned (.int .i64 (c61 : Int)) ∧ Below W.heap.size W w') := fun W hW => by
            have h9 := count_any t _ W (HST.out.below hW)
            rw [hcnt, ← hc61] at h9
            exact h9
          obtain ⟨X, hX⟩ : ∃ X, X = txt t := ⟨_, rfl⟩
          have HXN : Hid (∀ _ : Unit, (mkS X == ⟨#[]⟩) = false) := fun _ => eqs_no (fun he => txt_pos hok (by rw [← hX]; exact mkS_inj he))
          have HPR : Hid (∀ W, Below wr.heap.size wr W → Calls Tryd.prog 17 #[.agg (tcs t (.slice ps ms cs)).toArray] W fun e w' => e = .returned (.string (noStr)) ∧ Below W.heap.size W w') := fun W hW => by
            have h9 := print_any t _ W (HST.out.below hW)
            rw [hit, if_neg (by decide)] at h9
            exact h9
          obtain ⟨np, hnp⟩ : ∃ np, np = 0 := ⟨_, rfl⟩
          have hnpi : decide ((np : Int) > 0) = false := decide_eq_false (by omega)
          have hnpj : ¬ (0 : Int) < (np : Int) := by omega
          have HPT : Hid (∀ W, Below wr.heap.size wr W → Calls Tryd.prog 20 #[.agg (tcs t (.slice ps ms cs)).toArray] W fun e w' => ∃ p c, e = .returned (.slice p np c) ∧ Below W.heap.size W w') := fun W hW => (parts_no t _ W hit (HST.out.below hW)).mono (by rintro e w' ⟨he, hb⟩; exact ⟨none, 0, by rw [he, hnp], hb⟩)
          have hnpk : ¬ 0 < np := by omega
          have h60i : decide ((mm : Int) ≤ 60) = false := decide_eq_false (by omega)
          have HCE : Hid (∀ _ : Unit, (if (61 : Int) < (mm : Int) then (61 : Int) else (mm : Int)) = (c61 : Int)) := fun _ => by split <;> omega
          have HB0 : Hid (Below w.heap.size w wr) := hm.below
          have hm2 := Mem.start wr
          have HR6 : Hid (Row wr g6 (tcs t (.slice ps ms cs)) 24) := hm.get 0 rfl
          clear hm hcnt hok hit hX hnp hc61 HST HM9
          have hm := Mem.start wr
          clear hm2
          go_wp2_with (first
            | ((with_reducible refine at_op (some 32) (.load 24 (.tmp 6)) ?_); go_must (refine wpl_execG (.agg (tcs t (.slice ps ms cs)).toArray) rfl (exec_ldsG 0 (tcs t (.slice ps ms cs)) (HR6.out.below' hm.below) rfl _ Tryd.underlying24 rfl 3 sz_term (Nat.le_refl _) rfl) ?_))
            | (go_at_call 11; go_must (refine (HIS.out _ hm.below).mono ?_); rintro e w' ⟨he, hb⟩; subst he; replace hm := hm.call hb; clear hb)
            | ((with_reducible refine at_opG (some 38) (.load 24 (.tmp 6)) (some (5, true)) ?_); go_must (refine wpl_execG (.agg (tcs t (.slice ps ms cs)).toArray) rfl (exec_ldsG 0 (tcs t (.slice ps ms cs)) (HR6.out.below' hm.below) rfl _ Tryd.underlying24 rfl 3 sz_term (Nat.le_refl _) rfl) ?_))
            | (go_at_call 15; go_must (refine (HCN.out _ hm.below).mono ?_); rintro e w' ⟨he, hb⟩; subst he; replace hm := hm.call hb; clear hb)
            | ((with_reducible refine at_opG (some 41) (.call { callee := .builtin .min, args := #[.tmp 40, .const (.int .i64 61)], argTypes := #[3, 3] }) (some (5, true)) ?_); go_must (refine wpl_execG (.int .i64 (c61 : Int)) rfl (exec_minI _ rfl rfl (HCE.out ())) ?_))
            | ((with_reducible refine at_opG (some 45) (.load 24 (.tmp 6)) (some (12, true)) ?_); go_must (refine wpl_execG (.agg (tcs t (.slice ps ms cs)).toArray) rfl (exec_ldsG 0 (tcs t (.slice ps ms cs)) (HR6.out.below' hm.below) rfl _ Tryd.underlying24 rfl 3 sz_term (Nat.le_refl _) rfl) ?_))
            | (go_at_call 17; go_must (refine (HPR.out _ hm.below).mono ?_); rintro e w' ⟨he, hb⟩; subst he; replace hm := hm.call hb; clear hb)
            | ((with_reducible refine at_opG (some 47) (.binOp .neq 9 (.tmp 46) (.const (.string { data := #[] })) 9) (some (12, true)) ?_); go_must (refine wpl_execG (.bool false) rfl (exec_neB (noStr) ⟨#[]⟩ true rfl rfl (eqs_yes _)) ?_))
            | ((with_reducible refine at_opG (some 53) (.load 24 (.tmp 6)) (some (20, true)) ?_); go_must (refine wpl_execG (.agg (tcs t (.slice ps ms cs)).toArray) rfl (exec_ldsG 0 (tcs t (.slice ps ms cs)) (HR6.out.below' hm.below) rfl _ Tryd.underlying24 rfl 3 sz_term (Nat.le_refl _) rfl) ?_))
            | (go_at_call 20; go_must (refine (HPT.out _ hm.below).mono ?_); rintro e w10 ⟨p10, c10, he, hb⟩; subst he; replace hm := hm.call hb; clear hb))
          go_ret
          exact ⟨rfl, HB0.out.trans (hm.below.mono HB0.out.size)⟩
  · go_enter Tryd.func7, Tryd.ntmps7
    go_wp2_with (first
      | (go_at_call 9; go_must (refine (HKN.out _ hm.below).mono ?_); rintro e w' ⟨he, hb⟩; subst he; replace hm := hm.call hb; clear hb)
      | ((with_reducible refine at_op (some 6) (.alloc 24) ?_); go_must (refine wpl_alloc _ zero_term hm ?_); clear hm; intro w4 g6 hm)
      | ((with_reducible refine at_op none (.store 24 (.tmp 6) (.tmp 14)) ?_); go_must (refine wpl_stw 0 ([.int .i64 2, .int .i64 3, .slice none 0 0]) hm rfl rfl rfl 3 sz_term rfl rfl ((by intro v hv; simp only [List.mem_cons, List.not_mem_nil, or_false] at hv; rcases hv with rfl | rfl | rfl <;> rfl)) ?_); clear hm; intro w5 hm))
    go_loopw [7] (fun vm wr => ∃ (j : Nat) (s : Value), vm = .int .i64 ((2 * j + 1 : Nat) : Int) ∧ 2 * j + 1 ≤ k + 1 ∧ Hid (SlT (FNX wr.heap.size g6) wr s (twP j).l) ∧ Hid (Mem w [] wr [(g6, tcs (twP j) s, 24)])) (fun vm _ => k + 2 - (intOf vm).toNat)
    case atStart => exact ⟨0, _, rfl, by omega, by show SlT _ _ _ _; rw [twP, mkT_l]; exact SlT.nil, hm⟩
    case round =>
      clear hm
      obtain ⟨j, s, rfl, hj, HSJ, HMM⟩ := hrel
      have hm := HMM.out
      obtain ⟨ps, cs, hs, _⟩ := HSJ.out.len
      obtain ⟨ms, hms⟩ : ∃ ms, ms = (twP j).l.length := ⟨_, rfl⟩
      rw [← hms] at hs
      subst hs
      clear HMM hms
      by_cases hlt : 2 * j + 1 < k
      · have hki : ((2 * j + 1 : Nat) : Int) < (k : Int) := by omega
        have hki2 : 2 * (j : Int) + 1 < (k : Int) := by omega
        go_wp2_with (first
          | ((with_reducible refine at_op (some 26) (.load 24 (.tmp 6)) ?_); go_must (refine wpl_ldw 0 hm rfl rfl _ Tryd.underlying24 rfl 3 sz_term rfl ?_))
          | ((with_reducible refine at_op (some 28) (.buildSlice 22 2 #[(0, .tmp 26), (1, .tmp 27)]) ?_); go_must (refine wpl_bslT2 (twP j) (mkT 1 0 []) (.slice ps ms cs) (.slice none 0 0) rfl rfl rfl hm ?_); clear hm; intro w8 g8 hb8 hg8 hm; have HSN : Hid (SlT (FNX w8.heap.size g6) w8 (.slice (some ⟨g8, 0, none⟩) 2 2) [twP j, mkT 1 0 []]) := slt_two (hm.get 0 rfl) ((HSJ.out.below hb8).weak (fun b hb9 => ⟨Nat.lt_of_lt_of_le hb9.1 hb8.size, hb9.2⟩)) (by rw [mkT_l]; exact SlT.nil) ⟨(hm.get 0 rfl).lt, (fun he => hm.ne 0 rfl he)⟩; clear hb8 hg8)
          | ((with_reducible refine at_op none (.store 24 (.tmp 6) (.tmp 29)) ?_); go_must (refine wpl_stwU 1 [.int .i64 4, .int .i64 0, .slice (some ⟨g8, 0, none⟩) 2 2] hm rfl rfl rfl 3 sz_term rfl rfl (by intro v hv; simp only [List.mem_cons, List.not_mem_nil, or_false] at hv; rcases hv with rfl | rfl | rfl <;> rfl) ?_); clear hm; intro w9 hu9 hm; have HSJ9 : Hid (SlT (FNX w9.heap.size g6) w9 (.slice (some ⟨g8, 0, none⟩) 2 2) (twP (j + 1)).l) := (by show SlT _ _ _ _; rw [twP, mkT_l]; exact (HSN.out.keep (Keeps.upd hu9 (fun b hb9 => hb9.2))).weak (fun b hb9 => ⟨Nat.lt_of_lt_of_le hb9.1 hu9.size, hb9.2⟩)); clear hu9 HSN))
        go_roundw
        case rel => exact ⟨j + 1, _, by go_num, by omega, HSJ9.out, hm.tail⟩
        case measure => simp [intOf]; omega
      · have hki : ¬ ((2 * j + 1 : Nat) : Int) < (k : Int) := by omega
        have hki2 : ¬ 2 * (j : Int) + 1 < (k : Int) := by omega
        obtain ⟨mm, hmm⟩ : ∃ mm : Nat, mm = 2 * j + 1 := ⟨_, rfl⟩
        have hmi : ((2 * j + 1 : Nat) : Int) = (mm : Int) := by omega
        have hm72 : mm ≤ 72 := by omega
        have hmk : ¬ (mm : Int) < (k : Int) := by omega
        obtain ⟨t, ht⟩ : ∃ t, t = twP j := ⟨_, rfl⟩
        have hcnt : cnt t = mm := by rw [ht, twP_cnt, hmm]
        have hok : okT t = true := by rw [ht]; exact twP_ok j
        have HST : Hid (SlT (FNX wr.heap.size g6) wr (.slice ps ms cs) t.l) := by rw [ht]; exact HSJ.out
        have HM9 : Hid (Mem w [] wr [(g6, tcs t (.slice ps ms cs), 24)]) := by rw [ht]; exact hm
        rw [hmi]
        clear hm hmi ht hki hki2 hmm hlt hj
        by_cases h60 : mm ≤ 60
        · skip
          have hm := HM9.out
          have hit : isT t = true := by rw [isT_iff, hcnt]; exact ⟨h60, hok⟩
          have HIS : Hid (∀ W, Below wr.heap.size wr W → Calls Tryd.prog 11 #[.agg (tcs t (.slice ps ms cs)).toArray] W fun e w' => e = .returned (.bool true) ∧ Below W.heap.size W w') := fun W hW => by
            have h9 := is_any t _ W (HST.out.below hW)
            rw [hit] at h9
            exact h9
          obtain ⟨c61, hc61⟩ : ∃ c : Nat, c = min 61 mm := ⟨_, rfl⟩
          have HCN : Hid (∀ W, Below wr.heap.size wr W → Calls Tryd.prog 15 #[.agg (tcs t (.slice ps ms cs)).toArray] W fun e w' => e = .returned (.int .i64 (c61 : Int)) ∧ Below W.heap.size W w') := fun W hW => by
            have h9 := count_any t _ W (HST.out.below hW)
            rw [hcnt, ← hc61] at h9
            exact h9
          obtain ⟨X, hX⟩ : ∃ X, X = txt t := ⟨_, rfl⟩
          have HXN : Hid (∀ _ : Unit, (mkS X == ⟨#[]⟩) = false) := fun _ => eqs_no (fun he => txt_pos hok (by rw [← hX]; exact mkS_inj he))
          have HPR : Hid (∀ W, Below wr.heap.size wr W → Calls Tryd.prog 17 #[.agg (tcs t (.slice ps ms cs)).toArray] W fun e w' => e = .returned (.string (mkS X)) ∧ Below W.heap.size W w') := fun W hW => by
            have h9 := print_any t _ W (HST.out.below hW)
            rw [hit, if_pos rfl, ← hX] at h9
            exact h9
          obtain ⟨np, hnp⟩ : ∃ np, np = (partsT t).length := ⟨_, rfl⟩
          have hnpi : decide ((np : Int) > 0) = true := decide_eq_true (by have := partsT_pos t; omega)
          have hnpj : (0 : Int) < (np : Int) := by have := partsT_pos t; omega
          have HPT : Hid (∀ W, Below wr.heap.size wr W → Calls Tryd.prog 20 #[.agg (tcs t (.slice ps ms cs)).toArray] W fun e w' => ∃ p c, e = .returned (.slice p np c) ∧ Below W.heap.size W w') := fun W hW => (parts_yes t _ W hit (HST.out.below hW)).mono (by rintro e w' ⟨v, he, hs, hb⟩; obtain ⟨p, c, hv, _⟩ := hs.len; rw [← hnp] at hv; exact ⟨p, c, by rw [he, hv], hb⟩)
          have hnpk : 0 < np := by omega
          have h60i : decide ((mm : Int) ≤ 60) = true := decide_eq_true (by omega)
          have HCE : Hid (∀ _ : Unit, (if (61 : Int) < (mm : Int) then (61 : Int) else (mm : Int)) = (c61 : Int)) := fun _ => by split <;> omega
          have HB0 : Hid (Below w.heap.size w wr) := hm.below
          have hm2 := Mem.start wr
          have HR6 : Hid (Row wr g6 (tcs t (.slice ps ms cs)) 24) := hm.get 0 rfl
          clear hm hcnt hok hit hX hnp hc61 HST HM9
          have hm := Mem.start wr
          clear hm2
          go_wp2_with (first
            | ((with_reducible refine at_op (some 32) (.load 24 (.tmp 6)) ?_); go_must (refine wpl_execG (.agg (tcs t (.slice ps ms cs)).toArray) rfl (exec_ldsG 0 (tcs t (.slice ps ms cs)) (HR6.out.below' hm.below) rfl _ Tryd.underlying24 rfl 3 sz_term (Nat.le_refl _) rfl) ?_))
            | (go_at_call 11; go_must (refine (HIS.out _ hm.below).mono ?_); rintro e w' ⟨he, hb⟩; subst he; replace hm := hm.call hb; clear hb)
            | ((with_reducible refine at_opG (some 38) (.load 24 (.tmp 6)) (some (5, true)) ?_); go_must (refine wpl_execG (.agg (tcs t (.slice ps ms cs)).toArray) rfl (exec_ldsG 0 (tcs t (.slice ps ms cs)) (HR6.out.below' hm.below) rfl _ Tryd.underlying24 rfl 3 sz_term (Nat.le_refl _) rfl) ?_))
            | (go_at_call 15; go_must (refine (HCN.out _ hm.below).mono ?_); rintro e w' ⟨he, hb⟩; subst he; replace hm := hm.call hb; clear hb)
            | ((with_reducible refine at_opG (some 41) (.call { callee := .builtin .min, args := #[.tmp 40, .const (.int .i64 61)], argTypes := #[3, 3] }) (some (5, true)) ?_); go_must (refine wpl_execG (.int .i64 (c61 : Int)) rfl (exec_minI _ rfl rfl (HCE.out ())) ?_))
            | ((with_reducible refine at_opG (some 45) (.load 24 (.tmp 6)) (some (12, true)) ?_); go_must (refine wpl_execG (.agg (tcs t (.slice ps ms cs)).toArray) rfl (exec_ldsG 0 (tcs t (.slice ps ms cs)) (HR6.out.below' hm.below) rfl _ Tryd.underlying24 rfl 3 sz_term (Nat.le_refl _) rfl) ?_))
            | (go_at_call 17; go_must (refine (HPR.out _ hm.below).mono ?_); rintro e w' ⟨he, hb⟩; subst he; replace hm := hm.call hb; clear hb)
            | ((with_reducible refine at_opG (some 47) (.binOp .neq 9 (.tmp 46) (.const (.string { data := #[] })) 9) (some (12, true)) ?_); go_must (refine wpl_execG (.bool true) rfl (exec_neB (mkS X) ⟨#[]⟩ false rfl rfl (HXN.out ())) ?_))
            | ((with_reducible refine at_opG (some 53) (.load 24 (.tmp 6)) (some (20, true)) ?_); go_must (refine wpl_execG (.agg (tcs t (.slice ps ms cs)).toArray) rfl (exec_ldsG 0 (tcs t (.slice ps ms cs)) (HR6.out.below' hm.below) rfl _ Tryd.underlying24 rfl 3 sz_term (Nat.le_refl _) rfl) ?_))
            | (go_at_call 20; go_must (refine (HPT.out _ hm.below).mono ?_); rintro e w10 ⟨p10, c10, he, hb⟩; subst he; replace hm := hm.call hb; clear hb))
          go_ret
          exact ⟨rfl, HB0.out.trans (hm.below.mono HB0.out.size)⟩
        · skip
          have hm := HM9.out
          have hit : isT t = false := by rw [isT, hcnt, decide_eq_false h60]; rfl
          have HIS : Hid (∀ W, Below wr.heap.size wr W → Calls Tryd.prog 11 #[.agg (tcs t (.slice ps ms cs)).toArray] W fun e w' => e = .returned (.bool false) ∧ Below W.heap.size W w') := fun W hW => by
            have h9 := is_any t _ W (HST.out.below hW)
            rw [hit] at h9
            exact h9
          obtain ⟨c61, hc61⟩ : ∃ c : Nat, c = min 61 mm := ⟨_, rfl⟩
          have HCN : Hid (∀ W, Below wr.heap.size wr W → Calls Tryd.prog 15 #[.agg (tcs t (.slice ps ms cs)).toArray] W fun e w' => e = .returned (.int .i64 (c61 : Int)) ∧ Below W.heap.size W w') := fun W hW => by
            have h9 := count_any t _ W (HST.out.below hW)
            rw [hcnt, ← hc61] at h9
            exact h9
          obtain ⟨X, hX⟩ : ∃ X, X = txt t := ⟨_, rfl⟩
          have HXN : Hid (∀ _ : Unit, (mkS X == ⟨#[]⟩) = false) := fun _ => eqs_no (fun he => txt_pos hok (by rw [← hX]; exact mkS_inj he))
          have HPR : Hid (∀ W, Below wr.heap.size wr W → Calls Tryd.prog 17 #[.agg (tcs t (.slice ps ms cs)).toArray] W fun e w' => e = .returned (.string (noStr)) ∧ Below W.heap.size W w') := fun W hW => by
            have h9 := print_any t _ W (HST.out.below hW)
            rw [hit, if_neg (by decide)] at h9
            exact h9
          obtain ⟨np, hnp⟩ : ∃ np, np = 0 := ⟨_, rfl⟩
          have hnpi : decide ((np : Int) > 0) = false := decide_eq_false (by omega)
          have hnpj : ¬ (0 : Int) < (np : Int) := by omega
          have HPT : Hid (∀ W, Below wr.heap.size wr W → Calls Tryd.prog 20 #[.agg (tcs t (.slice ps ms cs)).toArray] W fun e w' => ∃ p c, e = .returned (.slice p np c) ∧ Below W.heap.size W w') := fun W hW => (parts_no t _ W hit (HST.out.below hW)).mono (by rintro e w' ⟨he, hb⟩; exact ⟨none, 0, by rw [he, hnp], hb⟩)
          have hnpk : ¬ 0 < np := by omega
          have h60i : decide ((mm : Int) ≤ 60) = false := decide_eq_false (by omega)
          have HCE : Hid (∀ _ : Unit, (if (61 : Int) < (mm : Int) then (61 : Int) else (mm : Int)) = (c61 : Int)) := fun _ => by split <;> omega
          have HB0 : Hid (Below w.heap.size w wr) := hm.below
          have hm2 := Mem.start wr
          have HR6 : Hid (Row wr g6 (tcs t (.slice ps ms cs)) 24) := hm.get 0 rfl
          clear hm hcnt hok hit hX hnp hc61 HST HM9
          have hm := Mem.start wr
          clear hm2
          go_wp2_with (first
            | ((with_reducible refine at_op (some 32) (.load 24 (.tmp 6)) ?_); go_must (refine wpl_execG (.agg (tcs t (.slice ps ms cs)).toArray) rfl (exec_ldsG 0 (tcs t (.slice ps ms cs)) (HR6.out.below' hm.below) rfl _ Tryd.underlying24 rfl 3 sz_term (Nat.le_refl _) rfl) ?_))
            | (go_at_call 11; go_must (refine (HIS.out _ hm.below).mono ?_); rintro e w' ⟨he, hb⟩; subst he; replace hm := hm.call hb; clear hb)
            | ((with_reducible refine at_opG (some 38) (.load 24 (.tmp 6)) (some (5, true)) ?_); go_must (refine wpl_execG (.agg (tcs t (.slice ps ms cs)).toArray) rfl (exec_ldsG 0 (tcs t (.slice ps ms cs)) (HR6.out.below' hm.below) rfl _ Tryd.underlying24 rfl 3 sz_term (Nat.le_refl _) rfl) ?_))
            | (go_at_call 15; go_must (refine (HCN.out _ hm.below).mono ?_); rintro e w' ⟨he, hb⟩; subst he; replace hm := hm.call hb; clear hb)
            | ((with_reducible refine at_opG (some 41) (.call { callee := .builtin .min, args := #[.tmp 40, .const (.int .i64 61)], argTypes := #[3, 3] }) (some (5, true)) ?_); go_must (refine wpl_execG (.int .i64 (c61 : Int)) rfl (exec_minI _ rfl rfl (HCE.out ())) ?_))
            | ((with_reducible refine at_opG (some 45) (.load 24 (.tmp 6)) (some (12, true)) ?_); go_must (refine wpl_execG (.agg (tcs t (.slice ps ms cs)).toArray) rfl (exec_ldsG 0 (tcs t (.slice ps ms cs)) (HR6.out.below' hm.below) rfl _ Tryd.underlying24 rfl 3 sz_term (Nat.le_refl _) rfl) ?_))
            | (go_at_call 17; go_must (refine (HPR.out _ hm.below).mono ?_); rintro e w' ⟨he, hb⟩; subst he; replace hm := hm.call hb; clear hb)
            | ((with_reducible refine at_opG (some 47) (.binOp .neq 9 (.tmp 46) (.const (.string { data := #[] })) 9) (some (12, true)) ?_); go_must (refine wpl_execG (.bool false) rfl (exec_neB (noStr) ⟨#[]⟩ true rfl rfl (eqs_yes _)) ?_))
            | ((with_reducible refine at_opG (some 53) (.load 24 (.tmp 6)) (some (20, true)) ?_); go_must (refine wpl_execG (.agg (tcs t (.slice ps ms cs)).toArray) rfl (exec_ldsG 0 (tcs t (.slice ps ms cs)) (HR6.out.below' hm.below) rfl _ Tryd.underlying24 rfl 3 sz_term (Nat.le_refl _) rfl) ?_))
            | (go_at_call 20; go_must (refine (HPT.out _ hm.below).mono ?_); rintro e w10 ⟨p10, c10, he, hb⟩; subst he; replace hm := hm.call hb; clear hb))
          go_ret
          exact ⟨rfl, HB0.out.trans (hm.below.mono HB0.out.size)⟩
end Go.Proofs.YtbphmcbflnaenaaDoor
