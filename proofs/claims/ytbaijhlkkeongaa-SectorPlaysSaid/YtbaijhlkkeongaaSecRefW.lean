/- The contract of the document's Write. -/
import Derived.Test.YtbaijhlkkeongaaSecRefN
namespace Go.Proofs.Ytbaijhlkkeongaa
open Go Go.RowKit Go.Maps

set_option maxRecDepth 100000 in
theorem flatK_cell (ds : Nat → List Int) (n i k : Nat) (x : Int) (h : ∀ i, i < n → (ds i).length = 64) (hi : i < n) (hk : k < 64) : (flatK ds n).set (i * 64 + k) x = flatK (upf ds i ((ds i).set k x)) n := by
  have hl := flatK_length ds n h
  have hd := h i hi
  rw [← flatK_set ds n i _ h (by rw [List.length_set]; exact hd) hi]
  have e3 : (flatK ds n).drop (i * 64) = ds i ++ (flatK ds n).drop (i * 64 + 64) := by
    have := (List.take_append_drop 64 ((flatK ds n).drop (i * 64))).symm
    rw [flatK_at ds n i h hi, List.drop_drop] at this
    exact this
  have e4 : flatK ds n = (flatK ds n).take (i * 64) ++ (ds i ++ (flatK ds n).drop (i * 64 + 64)) := by rw [← e3, List.take_append_drop]
  have hlt : ((flatK ds n).take (i * 64)).length = i * 64 := by simp; omega
  unfold splice
  rw [List.length_set, hd]
  conv => lhs; rw [e4]
  rw [List.set_append_right _ _ (by omega), hlt, show i * 64 + k - i * 64 = k by omega, List.set_append_left _ _ (by omega)]
set_option maxRecDepth 100000 in
theorem over_step (old bs : List Int) (k : Nat) (h : old.length = 64) (hk : k < bs.length) (hb : bs.length ≤ 64) : (over old (bs.take k)).set k (bs.getD k 0) = over old (bs.take (k + 1)) := by
  have h1 : (bs.take k).length = k := by simp; omega
  have h2 : (bs.take (k + 1)).length = k + 1 := by simp; omega
  unfold over
  rw [h1, h2, List.set_append_right _ _ (by omega), h1, Nat.sub_self, List.drop_eq_getElem_cons (by omega), List.set_cons_zero, show bs.getD k 0 = bs[k] by simp [hk], List.take_succ_eq_append_getElem hk, List.append_assoc]
  rfl
set_option maxRecDepth 100000 in
theorem rf_put {w : World} {q a b c : Nat} {d : Dk} (i : Nat) (l : List Int) (h : RfAt w q a b c d.n (upf d.now i l) d.kept (upf (pOf d) i true) d.steps d.left d.off) : Rf w q a b c (d.put i l) := by
  refine RfAt.congr (w := w) h (fun j _ => ?_) (fun _ _ => rfl) (fun j _ => ?_)
  · by_cases he : j = i
    · subst he; rw [upf_same, Dk.put_nowA]
    · rw [upf_other _ _ he, Dk.put_now_other _ he]
  · by_cases he : j = i
    · subst he; rw [upf_same]; simp [pOf, Dk.put, upf]
    · rw [upf_other _ _ he]; simp [pOf, Dk.put, upf, he]
set_option maxHeartbeats 1000000 in
set_option maxRecDepth 100000 in
theorem writeR_off (q a b c : Nat) (d : Dk) (i : Int) (v : Value) (ho : d.step.off = true) (hnu : d.Num) (hsn : d.Sane) (w : World) (h : Rf w q a b c d) :
    Calls Try.prog 8 #[.pointer (some ⟨q, 0, none⟩), .int .i64 i, v] w fun e w' => e = .returned (.int .i64 61) ∧ Rf w' q a b c d.step ∧ UpdS [q, a, b, c] w w' := by
  have HD : Hid (Rf w q a b c d) := h
  have HNU : Hid _ := hnu
  have HSN : Hid d.Sane := hsn
  have HO : Hid (d.step.off = true) := ho
  clear h hnu hsn ho
  go_enter Try.func8, Try.ntmps8
  go_wp2_with (first
    | (go_at_call 25; refine (stepR_any q a b c d HNU.out HSN.out _ HD.out).mono ?_; rintro e w1 ⟨he, hd1, hu1⟩; rw [HO.out] at he; subst he; clear HD; have HD : Hid (Rf w1 q a b c d.step) := hd1; have HU1 : Hid _ := hu1; clear hd1 hu1))
  go_ret
  exact ⟨rfl, HD.out, HU1.out⟩
set_option maxHeartbeats 1000000 in
set_option maxRecDepth 100000 in
theorem writeR_neg (q a b c : Nat) (d : Dk) (i : Int) (v : Value) (ho : d.step.off = false) (hi : i < 0) (hnu : d.Num) (hsn : d.Sane) (w : World) (h : Rf w q a b c d) :
    Calls Try.prog 8 #[.pointer (some ⟨q, 0, none⟩), .int .i64 i, v] w fun e w' => e = .returned (.int .i64 60) ∧ Rf w' q a b c d.step ∧ UpdS [q, a, b, c] w w' := by
  have HD : Hid (Rf w q a b c d) := h
  have HNU : Hid _ := hnu
  have HSN : Hid d.Sane := hsn
  have HO : Hid (d.step.off = false) := ho
  clear h hnu hsn ho
  go_enter Try.func8, Try.ntmps8
  go_wp2_with (first
    | (go_at_call 25; refine (stepR_any q a b c d HNU.out HSN.out _ HD.out).mono ?_; rintro e w1 ⟨he, hd1, hu1⟩; rw [HO.out] at he; subst he; clear HD; have HD : Hid (Rf w1 q a b c d.step) := hd1; have HU1 : Hid _ := hu1; clear hd1 hu1))
  go_ret
  exact ⟨rfl, HD.out, HU1.out⟩
set_option maxHeartbeats 1000000 in
set_option maxRecDepth 100000 in
theorem writeR_big (q a b c : Nat) (d : Dk) (i : Nat) (v : Value) (ho : d.step.off = false) (hi2 : (i : Int) ≥ (d.n : Int)) (hnu : d.Num) (hsn : d.Sane) (w : World) (h : Rf w q a b c d) :
    Calls Try.prog 8 #[.pointer (some ⟨q, 0, none⟩), .int .i64 i, v] w fun e w' => e = .returned (.int .i64 60) ∧ Rf w' q a b c d.step ∧ UpdS [q, a, b, c] w w' := by
  have HD : Hid (Rf w q a b c d) := h
  have HNU : Hid _ := hnu
  have HSN : Hid d.Sane := hsn
  have HO : Hid (d.step.off = false) := ho
  obtain ⟨n, hn⟩ : ∃ n, n = d.n := ⟨_, rfl⟩
  have HN : Hid (∀ _ : Unit, d.step.n = n) := fun _ => hn.symm
  rw [← hn] at hi2
  clear hn
  have hi1 : ¬ ((i : Int) < 0) := by omega
  clear h hnu hsn ho
  go_enter Try.func8, Try.ntmps8
  go_wp2_with (first
    | (go_at_call 25; refine (stepR_any q a b c d HNU.out HSN.out _ HD.out).mono ?_; rintro e w1 ⟨he, hd1, hu1⟩; rw [HO.out] at he; subst he; clear HD; have HD : Hid (Rf w1 q a b c d.step) := hd1; have HU1 : Hid _ := hu1; clear hd1 hu1)
    | ((with_reducible refine at_opG (some 18) (.load 48 (.tmp 17)) (some (2, false)) ?_); go_must (refine wpl_execG (.slice (some ⟨a, 0, none⟩) n n) rfl (exec_ldrG 0 (.slice (some ⟨a, 0, none⟩) n n) (RfAt.row HD.out) rfl ag_rs (by show (rrow a b c d.step.n d.step.steps d.step.left d.step.off)[0]? = _; rw [HN.out ()]; rfl)) ?_)))
  go_ret
  exact ⟨rfl, HD.out, HU1.out⟩
set_option maxHeartbeats 1000000 in
set_option maxRecDepth 100000 in
theorem writeR_long (q a b c : Nat) (d : Dk) (i : Nat) (m cap : Nat) (p : Option Addr) (ho : d.step.off = false) (hi2 : ¬ (i : Int) ≥ (d.n : Int)) (hm : 64 < m) (hnu : d.Num) (hsn : d.Sane) (w : World) (h : Rf w q a b c d) :
    Calls Try.prog 8 #[.pointer (some ⟨q, 0, none⟩), .int .i64 i, .slice p m cap] w fun e w' => e = .returned (.int .i64 60) ∧ Rf w' q a b c d.step ∧ UpdS [q, a, b, c] w w' := by
  have HD : Hid (Rf w q a b c d) := h
  have HNU : Hid _ := hnu
  have HSN : Hid d.Sane := hsn
  have HO : Hid (d.step.off = false) := ho
  obtain ⟨n, hn⟩ : ∃ n, n = d.n := ⟨_, rfl⟩
  have HN : Hid (∀ _ : Unit, d.step.n = n) := fun _ => hn.symm
  rw [← hn] at hi2
  clear hn
  have hi1 : ¬ ((i : Int) < 0) := by omega
  have hm1 : (m : Int) > 64 := by omega
  clear h hnu hsn ho
  go_enter Try.func8, Try.ntmps8
  go_wp2_with (first
    | (go_at_call 25; refine (stepR_any q a b c d HNU.out HSN.out _ HD.out).mono ?_; rintro e w1 ⟨he, hd1, hu1⟩; rw [HO.out] at he; subst he; clear HD; have HD : Hid (Rf w1 q a b c d.step) := hd1; have HU1 : Hid _ := hu1; clear hd1 hu1)
    | ((with_reducible refine at_opG (some 18) (.load 48 (.tmp 17)) (some (2, false)) ?_); go_must (refine wpl_execG (.slice (some ⟨a, 0, none⟩) n n) rfl (exec_ldrG 0 (.slice (some ⟨a, 0, none⟩) n n) (RfAt.row HD.out) rfl ag_rs (by show (rrow a b c d.step.n d.step.steps d.step.left d.step.off)[0]? = _; rw [HN.out ()]; rfl)) ?_)))
  go_ret
  exact ⟨rfl, HD.out, HU1.out⟩
set_option maxHeartbeats 4000000 in
set_option maxRecDepth 100000 in
theorem writeR_good (q a b c : Nat) (d : Dk) (i : Nat) (bs : List Int) (v : Value) (ho : d.step.off = false) (hi : i < d.n) (hl : bs.length ≤ 64) (hok : d.Ok) (hnu : d.Num) (hsn : d.Sane) (w : World) (h : Rf w q a b c d) (hs : SlA w [q, a, b, c] v bs) :
    Calls Try.prog 8 #[.pointer (some ⟨q, 0, none⟩), .int .i64 i, v] w fun e w' => e = .returned (.int .i64 0) ∧ Rf w' q a b c (d.step.put i (over (d.now i) bs)) ∧ UpdS [q, a, b, c] w w' := by
  have HD : Hid (Rf w q a b c d) := h
  have HNU : Hid _ := hnu
  have HSN : Hid d.Sane := hsn
  have HO : Hid (d.step.off = false) := ho
  obtain ⟨n, hn⟩ : ∃ n, n = d.n := ⟨_, rfl⟩
  have HN : Hid (∀ _ : Unit, d.step.n = n) := fun _ => hn.symm
  obtain ⟨p, cap, rfl, hcap, _⟩ := id hs
  obtain ⟨bl, hbl⟩ : ∃ bl, bl = bs.length := ⟨_, rfl⟩
  have HS : Hid (SlA w [q, a, b, c] (.slice p bl cap) bs) := by rw [hbl]; exact hs
  have HBL : Hid (∀ _ : Unit, bs.length = bl) := fun _ => hbl.symm
  have hbl1 : ¬ ((bl : Int) > 64) := by omega
  have hbl2 : bl ≤ 64 := by omega
  have hi1 : ¬ ((i : Int) < 0) := by omega
  rw [← hn] at hi
  have hi2 : ¬ ((i : Int) ≥ (n : Int)) := by omega
  have HNL : Hid (∀ j, j < n → (d.step.now j).length = 64) := fun j hj => by rw [hn] at hj; exact hok.now hj
  have HND : Hid ([q, a, b, c].Nodup) := h.nd
  obtain ⟨NW, hNW⟩ : ∃ f, f = d.step.now := ⟨_, rfl⟩
  have HNW : Hid (∀ _ : Unit, d.step.now = NW) := fun _ => hNW.symm
  rw [← hNW] at HNL
  have HBLE : Hid (bs.length ≤ 64) := hl
  rw [← hbl]
  clear h hnu hsn ho hs hn hl hok hcap hNW hbl
  go_enter Try.func8, Try.ntmps8
  go_wp2_with (first
    | (go_at_call 25; refine (stepR_any q a b c d HNU.out HSN.out _ HD.out).mono ?_; rintro e w1 ⟨he, hd1, hu1⟩; rw [HO.out] at he; subst he; clear HD; have HD : Hid (Rf w1 q a b c d.step) := hd1; have HU1 : Hid _ := hu1; clear hd1 hu1)
    | ((with_reducible refine at_opG (some 18) (.load 48 (.tmp 17)) (some (2, false)) ?_); go_must (refine wpl_execG (.slice (some ⟨a, 0, none⟩) n n) rfl (exec_ldrG 0 (.slice (some ⟨a, 0, none⟩) n n) (RfAt.row HD.out) rfl ag_rs (by show (rrow a b c d.step.n d.step.steps d.step.left d.step.off)[0]? = _; rw [HN.out ()]; rfl)) ?_)))
  have HE : Hid (Mem w1 [a] w1 [(a, u8s (flatK NW n), 53)]) := by
    have h1 := RfAt.now HD.out
    rw [HN.out (), HNW.out ()] at h1
    exact Mem.enter h1
  have HQ : Hid (∀ V rows, Mem w1 [a] V rows → Row V q (rrow a b c n d.step.steps d.step.left d.step.off) 51) := fun V rows hV => by
    have h1 := RfAt.row HD.out
    rw [HN.out ()] at h1
    have hnd := HND.out
    simp only [List.nodup_cons, List.mem_cons, List.not_mem_nil, or_false, not_or] at hnd
    unfold Row
    rw [hV.block q h1.lt (by simp; exact hnd.1.1)]
    exact h1
  have HB : Hid (∀ V rows (k : Nat), Mem w1 [a] V rows → k < bl → ∃ bb oo, p = some ⟨bb, oo, none⟩ ∧ V.cell? ⟨bb, oo + k, none⟩ = some (.int .u8 (bs.getD k 0))) := fun V rows k hV hk => by
    obtain ⟨bb, oo, hp, hnb, hc⟩ := SlA.at (SlA.upd HS.out HU1.out) k hk
    refine ⟨bb, oo, hp, ?_⟩
    rw [hV.old (p := ⟨bb, oo + k, none⟩) (block_lt_of_cell hc) (by simp; intro e; exact hnb (by simp [e]))]
    exact hc
  simp only [show decide ((i : Int) < 0) = false from decide_eq_false (by omega), show decide (n ≤ i) = false from decide_eq_false (by omega), show decide ((64 : Int) < (bl : Int)) = false from decide_eq_false (by omega), Bool.or_false]
  go_loopw [7] (fun vk wr => ∃ k : Nat, k ≤ bl ∧ vk = .int .i64 (k : Int) ∧ Mem w1 [a] wr [(a, u8s (flatK (upf NW i (over (NW i) (bs.take k))) n), 53)]) (fun vk _ => bl - (intOf vk).toNat)
  case atStart =>
    refine ⟨0, by omega, rfl, ?_⟩
    have h1 : upf NW i (over (NW i) (bs.take 0)) = NW := by
      funext j
      by_cases he : j = i
      · subst he; rw [upf_same]; simp [over]
      · rw [upf_other _ _ he]
    rw [h1]
    exact HE.out
  case round =>
    obtain ⟨k, hk, rfl, hm0⟩ := hrel
    have HM : Hid (Mem w1 [a] wr [(a, u8s (flatK (upf NW i (over (NW i) (bs.take k))) n), 53)]) := hm0
    clear hm0 HE
    by_cases hlt : k < bl
    · have hlt2 : (k : Int) < (bl : Int) := by omega
      have hk64 : (k : Int) < 64 := by omega
      obtain ⟨bb, oo, hp, _⟩ := HB.out wr _ k HM.out hlt
      subst hp
      obtain ⟨x, hx⟩ : ∃ x, x = bs.getD k 0 := ⟨_, rfl⟩
      have HX : Hid (∀ V, Mem w1 [a] V [] → V.cell? ⟨bb, oo + k, none⟩ = some (.int .u8 x)) := fun V hV => by
        obtain ⟨b2, o2, h2, h3⟩ := HB.out V _ k hV hlt
        simp only [Option.some.injEq, Addr.mk.injEq, and_true] at h2
        obtain ⟨rfl, rfl⟩ := h2
        rw [hx]
        exact h3
      have HOL : Hid ((over (NW i) (bs.take k)).length = 64) := over_length (HNL.out i hi) (by simp; have := HBLE.out; omega)
      have HUL : Hid (∀ j, j < n → (upf NW i (over (NW i) (bs.take k)) j).length = 64) := fun j hj => by
        by_cases he : j = i
        · subst he; rw [upf_same]; exact HOL.out
        · rw [upf_other _ _ he]; exact HNL.out j hj
      have HST : Hid ((u8s (flatK (upf NW i (over (NW i) (bs.take k))) n)).set (i * 64 + k) (.int .u8 x) = u8s (flatK (upf NW i (over (NW i) (bs.take (k + 1)))) n)) := by
        show _ = _
        rw [u8s_set, flatK_cell _ n i k x HUL.out hi (by omega), upf_same, hx, over_step (NW i) bs k (HNL.out i hi) (by rw [HBL.out ()]; exact hlt) HBLE.out]
        congr 2
        funext j
        by_cases he : j = i
        · subst he; rw [upf_same, upf_same]
        · rw [upf_other _ _ he, upf_other _ _ he, upf_other _ _ he]
      have HLN : Hid (i * 64 + k < (u8s (flatK (upf NW i (over (NW i) (bs.take k))) n)).length) := by show _ < _; have := rlen HUL.out hi; omega
      have hm : Mem w1 [a] wr [] := Mem.sub HM.out (List.nil_sublist _)
      clear hx
      go_wp2_with fail
      refine wp_ends0 ?_
      refine anyH_start (T := fun V => Mem w1 [a] V []) (by kernel_rfl) HM.out ?_
      clear hm HM
      intro w5 hm0
      have HM : Hid (Mem w1 [a] w5 [(a, u8s (flatK (upf NW i (over (NW i) (bs.take k))) n), 53)]) := hm0
      have hm : Mem w1 [a] w5 [] := hm0.sub (List.nil_sublist _)
      clear hm0
      refine anyH_takeG 0 (v := .pointer (some ⟨q, 0, none⟩)) rfl (by kernel_rfl) (by kernel_rfl) (by kernel_rfl) rfl (fun V _ => by go_simp) hm ?_
      go_simp
      refine anyH_takeG 1 (v := .pointer (some ⟨q, 0, none⟩)) rfl (by kernel_rfl) (by kernel_rfl) (by kernel_rfl) rfl (fun V _ => by go_simp) hm ?_
      go_simp
      refine anyH_takeG 2 (v := .pointer (some ⟨q, 0, none⟩)) rfl (by kernel_rfl) (by kernel_rfl) (by kernel_rfl) rfl (fun V _ => by go_simp) hm ?_
      go_simp
      refine anyH_takeG 3 (v := .slice (some ⟨a, 0, none⟩) n n) rfl (by kernel_rfl) (by kernel_rfl) (by kernel_rfl) rfl (fun V hV => exec_ldrG 0 (.slice (some ⟨a, 0, none⟩) n n) (HQ.out V _ hV) rfl ag_rs rfl) hm ?_
      go_simp
      refine anyH_takeG 4 (v := .int .i64 (i : Int)) rfl (by kernel_rfl) (by kernel_rfl) (by kernel_rfl) rfl (fun V _ => by go_simp) hm ?_
      go_simp
      refine anyH_takeG 5 (v := .int .i64 (k : Int)) rfl (by kernel_rfl) (by kernel_rfl) (by kernel_rfl) rfl (fun V _ => by go_simp) hm ?_
      go_simp
      refine anyH_takeG 6 (v := .slice (some ⟨bb, oo, none⟩) bl cap) rfl (by kernel_rfl) (by kernel_rfl) (by kernel_rfl) rfl (fun V _ => by go_simp) hm ?_
      go_simp
      refine anyH_takeG 7 (v := .int .i64 (k : Int)) rfl (by kernel_rfl) (by kernel_rfl) (by kernel_rfl) rfl (fun V _ => by go_simp) hm ?_
      go_simp
      refine anyH_takeG 8 (v := .pointer (some ⟨bb, oo + k, none⟩)) rfl (by kernel_rfl) (by kernel_rfl) (by kernel_rfl) rfl (fun V _ => exec_ixI un_bs sz_u8 k rfl rfl rfl hlt) hm ?_
      go_simp
      refine anyH_takeG 9 (v := .int .u8 x) rfl (by kernel_rfl) (by kernel_rfl) (by kernel_rfl) rfl (fun V hV => exec_ldxG (.int .u8 x) (HX.out V hV) rfl ag_u8) hm ?_
      go_simp
      refine anyH_takeG 10 (v := .pointer (some ⟨a, i * 64, none⟩)) rfl (by kernel_rfl) (by kernel_rfl) (by kernel_rfl) rfl (fun V _ => exec_ixR i rfl rfl rfl hi) hm ?_
      go_simp
      refine anyH_takeG 11 (v := .pointer (some ⟨a, i * 64 + k, none⟩)) rfl (by kernel_rfl) (by kernel_rfl) (by kernel_rfl) rfl (fun V _ => by go_simp) hm ?_
      go_simp
      refine wpAnyH_all (rs := [12]) (by kernel_rfl) (by simp) ?_
      intro i' hi'
      simp only [List.mem_cons, List.not_mem_nil, or_false] at hi'
      subst hi'
      refine anyH_opW 12 rfl rfl ?_
      intro K hK
      refine wpl_stc 0 (i * 64 + k) (.int .u8 x) HM.out rfl rfl rfl sz_u8 HLN.out rfl rfl ?_
      intro w6 hq
      rw [List.set_cons_zero, HST.out] at hq
      clear hm HM
      have HM : Hid (Mem w1 [a] w6 [(a, u8s (flatK (upf NW i (over (NW i) (bs.take (k + 1)))) n), 53)]) := hq
      have hm : Mem w1 [a] w6 [] := hq.sub (List.nil_sublist _)
      clear hq
      refine wpList_nil ?_
      refine hK _ _ hm ?_
      clear hK K
      go_simp
      refine wpAnyH_done (by kernel_rfl) ?_ _
      simp only [endsIn]
      go_wp2_with fail
      go_roundw
      case rel => exact ⟨k + 1, by omega, by go_num, HM.out⟩
      case measure => simp [intOf]; omega
    · have hlt2 : ¬ ((k : Int) < (bl : Int)) := by omega
      have hkb : k = bl := by omega
      have HMF : Hid (Mem w1 [a] wr [(a, u8s (flatK (upf NW i (over (NW i) bs)) n), 53)]) := by
        have h1 := HM.out
        rw [hkb, List.take_of_length_le (by rw [HBL.out ()]; exact Nat.le_refl _)] at h1
        exact h1
      have HCR : Hid (Row wr c (pendL (pOf d.step) n) 4) := by
        have h1 := RfAt.pend HD.out
        rw [HN.out ()] at h1
        have hnd := HND.out
        simp only [List.nodup_cons, List.mem_cons, List.not_mem_nil, or_false, not_or] at hnd
        unfold Row
        rw [HM.out.block c h1.lt (by simp; exact fun e => hnd.2.1.2 e.symm)]
        exact h1
      clear hkb HM
      go_wp2_with (first
        | ((with_reducible refine at_op (some 48) (.load 49 (.tmp 47)) ?_); go_must (refine wpl_ldr 2 (.slice (some ⟨c, 0, none⟩) n n) (HQ.out _ _ HMF.out) rfl ag_bos rfl ?_))
        | ((with_reducible refine at_op (some 50) (.indexAddr 49 (.tmp 48) (.tmp 49)) ?_); go_must (refine wpl_execG (.pointer (some ⟨c, 0 + i, none⟩)) rfl (exec_ixI un_bos sz_bool i rfl rfl rfl hi) ?_))
        | ((with_reducible refine at_op none (.store 4 (.tmp 50) (.const (.bool true))) ?_); go_must (refine wpl_stc 0 i (.bool true) (Mem.enter HCR.out) rfl (by rw [Nat.zero_add]; rfl) rfl sz_bool (by rw [pendL_length]; exact hi) rfl rfl ?_); intro w7 hq; rw [List.set_cons_zero, pendL_set] at hq; have HU7 : Hid (Upd c wr w7) := hq.toUpd; have HC7 : Hid (Row w7 c (pendL (upf (pOf d.step) i true) n) 4) := hq.get 0 rfl; clear hq))
      go_ret
      have hnd := HND.out
      simp only [List.nodup_cons, List.mem_cons, List.not_mem_nil, or_false, not_or] at hnd
      refine ⟨rfl, rf_put i _ ?_, (HU1.out.trans ((UpdS.of_mem HMF.out).mono (by simp))).trans (UpdS.of_upd HU7.out (by simp))⟩
      refine ⟨?_, ?_, ?_, ?_, HND.out⟩
      · have h1 := HU7.out.row (HQ.out _ _ HMF.out) hnd.1.2.2
        rw [← HN.out ()] at h1
        exact h1
      · have h1 := HU7.out.row (HMF.out.get 0 rfl) hnd.2.1.2
        rw [← HN.out (), ← HNW.out ()] at h1
        exact h1
      · have h1 := RfAt.kept HD.out
        have h2 : Row wr b (u8s (flatK d.step.kept d.step.n)) 53 := by
          unfold Row
          rw [HMF.out.block b h1.lt (by simp; exact fun e => hnd.2.1.1 e.symm)]
          exact h1
        exact HU7.out.row h2 hnd.2.2.1
      · have h1 := HC7.out
        rw [← HN.out ()] at h1
        exact h1
set_option maxRecDepth 100000 in
theorem writeR_any (q a b c : Nat) (d : Dk) (i : Int) (bs : List Int) (v : Value) (hok : d.Ok) (hnu : d.Num) (hsn : d.Sane) (w : World) (h : Rf w q a b c d) (hs : SlA w [q, a, b, c] v bs) :
    Calls Try.prog 8 #[.pointer (some ⟨q, 0, none⟩), .int .i64 i, v] w fun e w' => e = .returned (.int .i64 (d.wcode i bs)) ∧ Rf w' q a b c (d.write i bs) ∧ UpdS [q, a, b, c] w w' := by
  unfold Dk.wcode Dk.write
  cases ho : d.step.off with
  | true =>
    rw [if_pos rfl, if_neg (by simp)]
    exact writeR_off q a b c d i v ho hnu hsn w h
  | false =>
    rw [if_neg (by simp)]
    cases hf : d.fits i bs with
    | true =>
      simp only [Dk.fits, Bool.and_eq_true, decide_eq_true_eq] at hf
      rw [if_pos rfl, if_pos ⟨rfl, rfl⟩]
      obtain ⟨k, rfl⟩ : ∃ k : Nat, i = (k : Int) := ⟨i.toNat, by omega⟩
      exact writeR_good q a b c d k bs v ho (by omega) hf.2 hok hnu hsn w h hs
    | false =>
      rw [if_neg (by simp), if_neg (by simp)]
      by_cases h0 : i < 0
      · exact writeR_neg q a b c d i v ho h0 hnu hsn w h
      · obtain ⟨i, rfl⟩ : ∃ k : Nat, i = (k : Int) := ⟨i.toNat, by omega⟩
        by_cases h1 : (i : Int) ≥ (d.n : Int)
        · exact writeR_big q a b c d i v ho h1 hnu hsn w h
        · obtain ⟨p, cap, rfl, _, _⟩ := hs
          refine writeR_long q a b c d i bs.length cap p ho h1 ?_ hnu hsn w h
          have hd : decide (0 ≤ (i : Int) ∧ (i : Int) < d.n) = true := by simp; omega
          unfold Dk.fits at hf
          rw [hd, Bool.true_and] at hf
          simpa using hf
end Go.Proofs.Ytbaijhlkkeongaa
