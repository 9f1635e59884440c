/- The walk of SectorApart. -/
import Derived.Test.YtlddkmjhkhliiaaSecWant
namespace Go.Proofs.Ytlddkmjhkhliiaa
open Go Go.RowKit Go.Maps
set_option maxHeartbeats 1000000 in
set_option maxRecDepth 100000 in
theorem apart_longA (i j : Int) (pa pb : Option Addr) (la lb ca cb : Nat) (h : 64 < la) (w : World) :
    Calls Try.prog 6 #[.int .u8 i, .int .u8 j, .slice pa la ca, .slice pb lb cb] w fun e w' => e = .returned (.bool true) ∧ Below w.heap.size w w' := by
  have hm := Mem.start w
  have h1 : (la : Int) > 64 := by omega
  go_enter Try.func6, Try.ntmps6
  go_wp2_with (go_at_call 9; refine (known6_any _).mono ?_; rintro e wk ⟨rfl, hbk⟩; replace hm := hm.call hbk; clear hbk)
  go_ret
  exact ⟨rfl, hm.below⟩
set_option maxHeartbeats 1000000 in
set_option maxRecDepth 100000 in
theorem apart_longB (i j : Int) (pa pb : Option Addr) (la lb ca cb : Nat) (h0 : la ≤ 64) (h : 64 < lb) (w : World) :
    Calls Try.prog 6 #[.int .u8 i, .int .u8 j, .slice pa la ca, .slice pb lb cb] w fun e w' => e = .returned (.bool true) ∧ Below w.heap.size w w' := by
  have hm := Mem.start w
  have h1 : ¬ ((la : Int) > 64) := by omega
  have h2 : (lb : Int) > 64 := by omega
  go_enter Try.func6, Try.ntmps6
  go_wp2_with (go_at_call 9; refine (known6_any _).mono ?_; rintro e wk ⟨rfl, hbk⟩; replace hm := hm.call hbk; clear hbk)
  go_ret
  exact ⟨rfl, hm.below⟩
set_option maxHeartbeats 4000000 in
set_option maxRecDepth 100000 in
theorem apart_good (i j : Int) (az bs : List Int) (va vb : Value) (hi : 0 ≤ i ∧ i ≤ 255) (hj : 0 ≤ j ∧ j ≤ 255) (hab : Bytes az) (hbb : Bytes bs) (w : World) (hsa : SlOld w va az) (hsb : SlOld w vb bs) (hal : az.length ≤ 64) (hbl : bs.length ≤ 64) : Calls Try.prog 6 #[.int .u8 i, .int .u8 j, va, vb] w fun e w' => e = .returned (.bool true) ∧ Below w.heap.size w w' := by
  have hm := Mem.start w
  obtain ⟨pa, ca, rfl, hcapa⟩ := hsa.len
  obtain ⟨la, hla⟩ : ∃ x, x = az.length := ⟨_, rfl⟩
  have HSa : Hid (SlOld w (.slice pa la ca) az) := by rw [hla]; exact hsa
  rw [← hla]
  obtain ⟨pb, cb, rfl, hcapb⟩ := hsb.len
  obtain ⟨lb, hlb⟩ : ∃ x, x = bs.length := ⟨_, rfl⟩
  have HSb : Hid (SlOld w (.slice pb lb cb) bs) := by rw [hlb]; exact hsb
  rw [← hlb]
  have hla1 : ¬ ((la : Int) > 64) := by omega
  have hlb1 : ¬ ((lb : Int) > 64) := by omega
  have hla2 : la ≤ 64 := by omega
  have hlb2 : lb ≤ 64 := by omega
  have HALE : Hid (az.length ≤ 64) := hal
  have HBLE : Hid (bs.length ≤ 64) := hbl
  have HAB : Hid (Bytes az) := hab
  have HBB : Hid (Bytes bs) := hbb
  obtain ⟨hi0, hi1⟩ := hi
  obtain ⟨hj0, hj1⟩ := hj
  obtain ⟨x, hx⟩ : ∃ x : Nat, x = (i % 8).toNat := ⟨_, rfl⟩
  obtain ⟨y, hy⟩ : ∃ y : Nat, y = (j % 8).toNat := ⟨_, rfl⟩
  have hx8 : x < 8 := by omega
  have hy8 : y < 8 := by omega
  have HX : Hid (∀ _ : Unit, i % 8 = (x : Int)) := fun _ => by omega
  have HY : Hid (∀ _ : Unit, j % 8 = (y : Int)) := fun _ => by omega
  have HXN : Hid (∀ _ : Unit, (i % 8).toNat = x) := fun _ => hx.symm
  have HYN : Hid (∀ _ : Unit, (j % 8).toNat = y) := fun _ => hy.symm
  obtain ⟨W1, hW1⟩ : ∃ W, W = upf (fun _ => zeroK) x (over zeroK az) := ⟨_, rfl⟩
  obtain ⟨W2, hW2⟩ : ∃ W, W = upf W1 y (over (W1 y) bs) := ⟨_, rfl⟩
  have HL1 : Hid (∀ d : Dk, d.Like (fun _ => zeroK) 0 → (d.step.put x (over (d.now x) az)).Like W1 1) := fun d h => by rw [hW1]; exact h.write x az hx8 hal hab
  have HL2 : Hid (∀ d : Dk, d.Like W1 1 → (d.step.put y (over (d.now y) bs)).Like W2 2) := fun d h => by rw [hW2]; exact h.write y bs hy8 hbl hbb
  have HLZ : Hid (∀ k, k < 8 → ((fun _ : Nat => zeroK) k).length = 64) := fun _ _ => zeroK_length
  have HLW1 : Hid (∀ k, k < 8 → (W1 k).length = 64) := (HL1.out _ like_new).len
  have HW1 : Hid (splice (u8s (flatK (fun _ => zeroK) 8)) (x * 64) (u8s (az.take la)) = u8s (flatK W1 8)) := by
    show _ = _
    rw [hla, List.take_of_length_le (Nat.le_refl _), u8s_splice, flatK_over _ 8 x az HLZ.out hal hx8, hW1]
  have HW2 : Hid (splice (u8s (flatK W1 8)) (y * 64) (u8s (bs.take lb)) = u8s (flatK W2 8)) := by
    show _ = _
    rw [hlb, List.take_of_length_le (Nat.le_refl _), u8s_splice, flatK_over _ 8 y bs HLW1.out hbl hy8, hW2]
  clear hx hy hW1 hW2 hla hlb hal hbl hab hbb hsa hsb hcapa hcapb
  go_enter Try.func6, Try.ntmps6
  go_wp2_with (go_at_call 9; refine (known6_any _).mono ?_; rintro e wk ⟨rfl, hbk⟩; replace hm := hm.call hbk; clear hbk)
  go_at_call 10
  refine (new_any 8 _).mono ?_
  rintro e wn ⟨g, rfl, mb, kv, hd, hf, hb⟩
  have ST : Hid (Sd w wn g mb kv (Dk.new 8) []) := Sd.startR hm hb hd hf
  clear hd hf hb hm
  go_wp2_with fail
  go_at_call 12
  refine (write_ok ST.out (i % 8) az _ (by omega) (by show i % 8 < 8; omega) rfl HALE.out HAB.out (num_new 8) (Sd.old ST.out HSa.out)).mono ?_
  rintro e w1 ⟨rfl, st'⟩
  rw [HXN.out ()] at st'
  obtain ⟨d1, hd1⟩ : ∃ d, d = (Dk.new 8).step.put x (over ((Dk.new 8).now x) az) := ⟨_, rfl⟩
  have HD1 : Hid (d1.Like W1 1) := by rw [hd1]; exact HL1.out _ like_new
  have SW : Hid (Sd w w1 g mb kv d1 []) := Sd.congr st' hd1.symm
  clear st' hd1 ST
  go_wp2_with fail
  go_at_call 12
  refine (write_ok SW.out (j % 8) bs _ (by omega) (by rw [HD1.out.n]; show j % 8 < 8; omega) HD1.out.calm.step.off HBLE.out HBB.out (HD1.out.num (by omega)) (Sd.old SW.out HSb.out)).mono ?_
  rintro e w2 ⟨rfl, st'⟩
  rw [HYN.out ()] at st'
  obtain ⟨d2, hd2⟩ : ∃ d, d = d1.step.put y (over (d1.now y) bs) := ⟨_, rfl⟩
  have HD2 : Hid (d2.Like W2 2) := by rw [hd2]; exact HL2.out _ HD1.out
  clear SW
  have SW : Hid (Sd w w2 g mb kv d2 []) := Sd.congr st' hd2.symm
  clear st' hd2 HD1
  go_wp2_with (first
    | ((with_reducible refine at_op (some 12) (.alloc 47) ?_); go_must (refine wpl_alloc _ zero_w8 (Mem.start _) ?_); intro w3 qw hq; have SW' := Sd.took SW.out hq; clear hq SW; have SW : Hid (Sd w w3 g mb kv d2 [(qw, (u8s (flatK (fun _ => zeroK) 8)), 47)]) := SW'; clear SW')
    | ((with_reducible refine at_op (some 50) (.indexAddr 47 (.tmp 12) (.tmp 49)) ?_); go_must (refine wpl_execG (.pointer (some ⟨qw, x * 64, none⟩)) rfl (exec_ixP x rfl rfl (HX.out ()) hx8) ?_))
    | ((with_reducible refine at_op (some 51) (.slice 42 (.tmp 50) none none none) ?_); go_must (refine wpl_sla 64 un_b64 sz_u8 0 64 (by omega) (by omega) rfl (Or.inr ⟨rfl, rfl⟩) (Or.inr ⟨rfl, rfl⟩) ?_))
    | ((with_reducible refine at_op (some 53) (.call { callee := .builtin .copy, args := #[.tmp 51, .tmp 52], argTypes := #[28, 28] }) ?_); go_must (refine wpl_cp 0 az la (u8s (flatK W1 8)) (Mem.enter ((Sd.mem SW.out).get 0 rfl)) rfl rfl rfl _ un_bs sz_u8 (SlOld.mem HSa.out (Sd.mem SW.out)) (by show la = min la 64; omega) (by rw [u8s_length, flatK_length _ 8 HLZ.out]; omega) HW1.out ?_); intro w4 hq; have SW' := Sd.turned SW.out 0 rfl hq; clear hq SW; have SW : Hid (Sd w w4 g mb kv d2 [(qw, u8s (flatK W1 8), 47)]) := SW'; clear SW')
    | ((with_reducible refine at_op (some 55) (.indexAddr 47 (.tmp 12) (.tmp 54)) ?_); go_must (refine wpl_execG (.pointer (some ⟨qw, y * 64, none⟩)) rfl (exec_ixP y rfl rfl (HY.out ()) hy8) ?_))
    | ((with_reducible refine at_op (some 56) (.slice 42 (.tmp 55) none none none) ?_); go_must (refine wpl_sla 64 un_b64 sz_u8 0 64 (by omega) (by omega) rfl (Or.inr ⟨rfl, rfl⟩) (Or.inr ⟨rfl, rfl⟩) ?_))
    | ((with_reducible refine at_op (some 58) (.call { callee := .builtin .copy, args := #[.tmp 56, .tmp 57], argTypes := #[28, 28] }) ?_); go_must (refine wpl_cp 0 bs lb (u8s (flatK W2 8)) (Mem.enter ((Sd.mem SW.out).get 0 rfl)) rfl rfl rfl _ un_bs sz_u8 (SlOld.mem HSb.out (Sd.mem SW.out)) (by show lb = min lb 64; omega) (by rw [u8s_length, flatK_length _ 8 HLW1.out]; omega) HW2.out ?_); intro w5 hq; have SW' := Sd.turned SW.out 0 rfl hq; clear hq SW; have SW : Hid (Sd w w5 g mb kv d2 [(qw, u8s (flatK W2 8), 47)]) := SW'; clear SW'))
  go_loopw [13] (fun vi wr => ∃ k : Nat, k ≤ 8 ∧ vi = .int .i64 (k : Int) ∧ Sd w wr g mb kv d2 [(qw, u8s (flatK W2 8), 47)]) (fun vi _ => 8 - (intOf vi).toNat)
  case atStart => exact ⟨0, by omega, rfl, SW.out⟩
  case round =>
    obtain ⟨k, hk, rfl, st'⟩ := hrel
    clear SW
    have SW : Hid (Sd w wr g mb kv d2 [(qw, u8s (flatK W2 8), 47)]) := st'
    clear st'
    by_cases hlt : k < 8
    · have hlt2 : (k : Int) < 8 := by omega
      have hk8 : k < 8 := hlt
      go_wp2_with fail
      go_at_call 24
      refine (read_ok SW.out (k : Int) (by omega) (by rw [HD2.out.n]; exact hlt2) HD2.out.calm.off).mono ?_
      rintro e w6 ⟨qr, rfl, st'⟩
      have SR : Hid (Sd w w6 g mb kv d2 ((qr, u8s (W2 k), 62) :: [(qw, u8s (flatK W2 8), 47)])) := by have h := st'; rw [Int.toNat_natCast, HD2.out.now k hlt] at h; exact h
      clear st' SW
      go_wp2_with fail
      have hm := Mem.start w6
      refine wp_ends0 ?_
      refine anyH_start (T := fun W => Mem w6 [] W []) (by kernel_rfl) hm ?_
      clear hm
      intro w7 hm
      refine anyH_takeG 0 (v := .int .i64 0) rfl (by kernel_rfl) (by kernel_rfl) (by kernel_rfl) rfl (fun W _ => by go_simp) hm ?_
      go_simp
      refine anyH_takeG 1 (v := .bool false) rfl (by kernel_rfl) (by kernel_rfl) (by kernel_rfl) rfl (fun W _ => by go_simp) hm ?_
      go_simp
      refine anyH_takeG 2 (v := .bool false) rfl (by kernel_rfl) (by kernel_rfl) (by kernel_rfl) rfl (fun W _ => by go_simp) hm ?_
      go_simp
      refine anyH_takeG 3 (v := .slice (some ⟨qr, 0, none⟩) 64 64) rfl (by kernel_rfl) (by kernel_rfl) (by kernel_rfl) rfl (fun W _ => by go_simp) hm ?_
      go_simp
      refine anyH_takeG 4 (v := .string (strOf (W2 k))) rfl (by kernel_rfl) (by kernel_rfl) (by kernel_rfl) rfl (fun W hW => exec_tostr un_bs un_u8 un_strT (W2 k) rfl (SlOld.mem (old_all ((Sd.mem SR.out).get 0 rfl) (HD2.out.len k hk8) (Nat.le_refl _)) hW)) hm ?_
      go_simp
      refine anyH_takeG 5 (v := .int .i64 (k : Int)) rfl (by kernel_rfl) (by kernel_rfl) (by kernel_rfl) rfl (fun W _ => by go_simp) hm ?_
      go_simp
      refine anyH_takeG 6 (v := .pointer (some ⟨qw, k * 64, none⟩)) rfl (by kernel_rfl) (by kernel_rfl) (by kernel_rfl) rfl (fun W _ => exec_ixP k rfl rfl rfl hk8) hm ?_
      go_simp
      refine anyH_takeG 7 (v := .slice (some ⟨qw, k * 64, none⟩) 64 64) rfl (by kernel_rfl) (by kernel_rfl) (by kernel_rfl) rfl (fun W _ => exec_slaG 64 un_b64 sz_u8 0 64 (by omega) (by omega) rfl (Or.inr ⟨rfl, rfl⟩) (Or.inr ⟨rfl, rfl⟩)) hm ?_
      go_simp
      refine anyH_takeG 8 (v := .string (strOf (W2 k))) rfl (by kernel_rfl) (by kernel_rfl) (by kernel_rfl) rfl (fun W hW => exec_tostr un_bs un_u8 un_strT (W2 k) rfl (SlOld.mem (old_want k ((Sd.mem SR.out).get 1 rfl) HD2.out.len hk8) hW)) hm ?_
      go_simp
      refine anyH_takeG 9 (v := .bool false) rfl (by kernel_rfl) (by kernel_rfl) (by kernel_rfl) rfl (fun W _ => exec_nes (strOf (W2 k)) (strOf (W2 k)) true rfl rfl (beq_self_str _)) hm ?_
      go_simp
      refine anyH_takeG 10 (v := .bool false) rfl (by kernel_rfl) (by kernel_rfl) (by kernel_rfl) rfl (fun W _ => by go_simp) hm ?_
      go_simp
      refine wpAnyH_done (by kernel_rfl) ?_ _
      simp only [endsIn]
      go_wp2_with fail
      go_roundw
      case rel => exact ⟨k + 1, by omega, by go_num, (Sd.below SR.out hm.below).tail⟩
      case measure => simp [intOf]; omega
    · have hk2 : ¬ ((k : Int) < 8) := by omega
      go_wp2_with fail
      go_at_call 24
      refine (read_ok SW.out (i % 8) (by omega) (by rw [HD2.out.n]; show i % 8 < 8; omega) HD2.out.calm.off).mono ?_
      rintro e w6 ⟨qs, rfl, st'⟩
      have SR : Hid (Sd w w6 g mb kv d2 ((qs, u8s (W2 x), 62) :: [(qw, u8s (flatK W2 8), 47)])) := by have h := st'; rw [HXN.out (), HD2.out.now x hx8] at h; exact h
      obtain ⟨z, hz⟩ : ∃ z, z = (W2 x).getD 0 0 := ⟨_, rfl⟩
      have HZ : Hid ((u8s (W2 x))[0]? = some (.int .u8 z)) := by show _ = _; rw [u8s_get _ _ (by rw [HD2.out.len x hx8]; omega), hz]
      have HZL : Hid (0 < (u8s (W2 x)).length) := by show 0 < _; rw [u8s_length, HD2.out.len x hx8]; omega
      clear st' SW hz
      go_wp2_with (first
        | ((with_reducible refine at_op (some 91) (.load 5 (.tmp 90)) ?_); go_must (refine wpl_ldr 0 (.int .u8 z) ((Sd.mem SR.out).get 0 rfl) rfl ag_u8 HZ.out ?_))
        | ((with_reducible refine at_op none (.store 5 (.tmp 93) (.tmp 92)) ?_); go_must (refine wpl_stc 0 0 _ (Mem.enter ((Sd.mem SR.out).get 0 rfl)) rfl rfl rfl sz_u8 HZL.out rfl rfl ?_); intro w7 hq; have SW := (Sd.turned SR.out 0 rfl hq).tail; clear hq SR; have SR : Hid (Sd w w7 g mb kv d2 [(qw, u8s (flatK W2 8), 47)]) := SW; clear SW))
      go_at_call 24
      refine (read_ok SR.out (i % 8) (by omega) (by rw [HD2.out.n]; show i % 8 < 8; omega) HD2.out.calm.off).mono ?_
      rintro e w8 ⟨qt, rfl, st'⟩
      clear SR
      have SR : Hid (Sd w w8 g mb kv d2 ((qt, u8s (W2 x), 62) :: [(qw, u8s (flatK W2 8), 47)])) := by have h := st'; rw [HXN.out (), HD2.out.now x hx8] at h; exact h
      clear st'
      go_wp2_with fail
      have hm := Mem.start w8
      refine wp_ends0 ?_
      refine anyH_start (T := fun W => Mem w8 [] W []) (by kernel_rfl) hm ?_
      clear hm
      intro w9 hm
      refine anyH_takeG 0 (v := .slice (some ⟨qt, 0, none⟩) 64 64) rfl (by kernel_rfl) (by kernel_rfl) (by kernel_rfl) rfl (fun W _ => by go_simp) hm ?_
      go_simp
      refine anyH_takeG 1 (v := .string (strOf (W2 x))) rfl (by kernel_rfl) (by kernel_rfl) (by kernel_rfl) rfl (fun W hW => exec_tostr un_bs un_u8 un_strT (W2 x) rfl (SlOld.mem (old_all ((Sd.mem SR.out).get 0 rfl) (HD2.out.len x hx8) (Nat.le_refl _)) hW)) hm ?_
      go_simp
      refine anyH_takeG 2 (v := .int .i64 (i % 8)) rfl (by kernel_rfl) (by kernel_rfl) (by kernel_rfl) rfl (fun W _ => by go_simp) hm ?_
      go_simp
      refine anyH_takeG 3 (v := .pointer (some ⟨qw, x * 64, none⟩)) rfl (by kernel_rfl) (by kernel_rfl) (by kernel_rfl) rfl (fun W _ => exec_ixP x rfl rfl (HX.out ()) hx8) hm ?_
      go_simp
      refine anyH_takeG 4 (v := .slice (some ⟨qw, x * 64, none⟩) 64 64) rfl (by kernel_rfl) (by kernel_rfl) (by kernel_rfl) rfl (fun W _ => exec_slaG 64 un_b64 sz_u8 0 64 (by omega) (by omega) rfl (Or.inr ⟨rfl, rfl⟩) (Or.inr ⟨rfl, rfl⟩)) hm ?_
      go_simp
      refine anyH_takeG 5 (v := .string (strOf (W2 x))) rfl (by kernel_rfl) (by kernel_rfl) (by kernel_rfl) rfl (fun W hW => exec_tostr un_bs un_u8 un_strT (W2 x) rfl (SlOld.mem (old_want x ((Sd.mem SR.out).get 1 rfl) HD2.out.len hx8) hW)) hm ?_
      go_simp
      refine anyH_takeG 6 (v := .bool true) rfl (by kernel_rfl) (by kernel_rfl) (by kernel_rfl) rfl (fun W _ => exec_eqsB (strOf (W2 x)) (strOf (W2 x)) true rfl rfl (beq_self_str _)) hm ?_
      go_simp
      refine anyH_takeG 7 (v := .bool true) rfl (by kernel_rfl) (by kernel_rfl) (by kernel_rfl) rfl (fun W _ => by go_simp) hm ?_
      go_simp
      refine wpAnyH_done (by kernel_rfl) ?_ _
      simp only [endsIn]
      go_wp2_with fail
      go_ret
      exact ⟨rfl, (Sd.mem (Sd.below SR.out hm.below)).below⟩
set_option maxRecDepth 100000 in
theorem sectorApart_walk (i j : Int) (az bs : List Int) (va vb : Value) (hi : 0 ≤ i ∧ i ≤ 255) (hj : 0 ≤ j ∧ j ≤ 255) (hab : Bytes az) (hbb : Bytes bs) (w : World) (hsa : SlOld w va az) (hsb : SlOld w vb bs) : Calls Try.prog 6 #[.int .u8 i, .int .u8 j, va, vb] w fun e w' => e = .returned (.bool true) ∧ Below w.heap.size w w' := by
  by_cases h1 : az.length ≤ 64
  · by_cases h2 : bs.length ≤ 64
    · exact apart_good i j az bs va vb hi hj hab hbb w hsa hsb h1 h2
    · obtain ⟨pa, ca, rfl, _⟩ := hsa.len
      obtain ⟨pb, cb, rfl, _⟩ := hsb.len
      exact apart_longB i j pa pb _ _ ca cb h1 (by omega) w
  · obtain ⟨pa, ca, rfl, _⟩ := hsa.len
    obtain ⟨pb, cb, rfl, _⟩ := hsb.len
    exact apart_longA i j pa pb _ _ ca cb (by omega) w
end Go.Proofs.Ytlddkmjhkhliiaa
