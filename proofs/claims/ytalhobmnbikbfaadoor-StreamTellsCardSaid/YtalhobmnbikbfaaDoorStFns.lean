/- Facts on the types of package stream, and contracts of the small functions. -/
import Derived.Test.YtalhobmnbikbfaaDoorRows
import Derived.Test.YtalhobmnbikbfaaDoorStLaws
namespace Go.Proofs.YtalhobmnbikbfaaDoor
open Go Go.RowKit
theorem info_b64 : (Tryd.prog.info? 31).map (fun i => (i.zero, i.size)) = some (some (.agg (u8s (List.replicate 64 0)).toArray), 64) := by kernel_rfl
theorem zero_b64 : ∀ w, (zeroValue 31).run Tryd.prog w = .ok (.agg (u8s (List.replicate 64 0)).toArray) w := (zero_of_info info_b64).1
theorem sz_b64 : (Tryd.prog.info? 31).map (·.size) = some 64 := (zero_of_info info_b64).2
theorem un_b64 : Tryd.prog.underlying 31 = some (.array 64 5) := Tryd.underlying31
theorem info_b32 : (Tryd.prog.info? 23).map (fun i => (i.zero, i.size)) = some (some (.agg (u8s (List.replicate 32 0)).toArray), 32) := by kernel_rfl
theorem zero_b32 : ∀ w, (zeroValue 23).run Tryd.prog w = .ok (.agg (u8s (List.replicate 32 0)).toArray) w := (zero_of_info info_b32).1
theorem sz_b32 : (Tryd.prog.info? 23).map (·.size) = some 32 := (zero_of_info info_b32).2
theorem un_b32 : Tryd.prog.underlying 23 = some (.array 32 5) := Tryd.underlying23
theorem info_b4 : (Tryd.prog.info? 53).map (fun i => (i.zero, i.size)) = some (some (.agg (u8s [0, 0, 0, 0]).toArray), 4) := by kernel_rfl
theorem zero_b4 : ∀ w, (zeroValue 53).run Tryd.prog w = .ok (.agg (u8s [0, 0, 0, 0]).toArray) w := (zero_of_info info_b4).1
theorem sz_b4 : (Tryd.prog.info? 53).map (·.size) = some 4 := (zero_of_info info_b4).2
theorem un_b4 : Tryd.prog.underlying 53 = some (.array 4 5) := Tryd.underlying53
theorem info_w16 : (Tryd.prog.info? 42).map (fun i => (i.zero, i.size)) = some (some (.agg (u32s (List.replicate 16 0)).toArray), 16) := by kernel_rfl
theorem zero_w16 : ∀ w, (zeroValue 42).run Tryd.prog w = .ok (.agg (u32s (List.replicate 16 0)).toArray) w := (zero_of_info info_w16).1
theorem sz_w16 : (Tryd.prog.info? 42).map (·.size) = some 16 := (zero_of_info info_w16).2
theorem un_w16 : Tryd.prog.underlying 42 = some (.array 16 22) := Tryd.underlying42
theorem info_key : (Tryd.prog.info? 24).map (fun i => (i.zero, i.size)) = some (some (.agg (u8s (List.replicate 32 0)).toArray), 32) := by kernel_rfl
theorem zero_key : ∀ w, (zeroValue 24).run Tryd.prog w = .ok (.agg (u8s (List.replicate 32 0)).toArray) w := (zero_of_info info_key).1
theorem sz_key : (Tryd.prog.info? 24).map (·.size) = some 32 := (zero_of_info info_key).2
theorem un_key : Tryd.prog.underlying 24 = some (.array 32 5) := Tryd.underlying24
theorem info_nce : (Tryd.prog.info? 26).map (fun i => (i.zero, i.size)) = some (some (.agg (u8s (List.replicate 12 0)).toArray), 12) := by kernel_rfl
theorem zero_nce : ∀ w, (zeroValue 26).run Tryd.prog w = .ok (.agg (u8s (List.replicate 12 0)).toArray) w := (zero_of_info info_nce).1
theorem sz_nce : (Tryd.prog.info? 26).map (·.size) = some 12 := (zero_of_info info_nce).2
theorem un_nce : Tryd.prog.underlying 26 = some (.array 12 5) := Tryd.underlying26
theorem info_i4 : (Tryd.prog.info? 47).map (fun i => (i.zero, i.size)) = some (some (.agg (i64s (List.replicate 4 0)).toArray), 4) := by kernel_rfl
theorem zero_i4 : ∀ w, (zeroValue 47).run Tryd.prog w = .ok (.agg (i64s (List.replicate 4 0)).toArray) w := (zero_of_info info_i4).1
theorem sz_i4 : (Tryd.prog.info? 47).map (·.size) = some 4 := (zero_of_info info_i4).2
theorem un_i4 : Tryd.prog.underlying 47 = some (.array 4 3) := Tryd.underlying47
theorem info_i84 : (Tryd.prog.info? 48).map (fun i => (i.zero, i.size)) = some (some (.agg (i64s (List.replicate 32 0)).toArray), 32) := by kernel_rfl
theorem zero_i84 : ∀ w, (zeroValue 48).run Tryd.prog w = .ok (.agg (i64s (List.replicate 32 0)).toArray) w := (zero_of_info info_i84).1
theorem sz_i84 : (Tryd.prog.info? 48).map (·.size) = some 32 := (zero_of_info info_i84).2
theorem un_i84 : Tryd.prog.underlying 48 = some (.array 8 47) := Tryd.underlying48
theorem sz_u8 : (Tryd.prog.info? 5).map (·.size) = some 1 := by kernel_rfl
theorem ag_u8 : ∀ w, (isAgg 5).run Tryd.prog w = .ok false w := by intro w; simp [go_sem]
theorem sz_u32 : (Tryd.prog.info? 22).map (·.size) = some 1 := by kernel_rfl
theorem ag_u32 : ∀ w, (isAgg 22).run Tryd.prog w = .ok false w := by intro w; simp [go_sem]
theorem sz_int : (Tryd.prog.info? 3).map (·.size) = some 1 := by kernel_rfl
theorem ag_int : ∀ w, (isAgg 3).run Tryd.prog w = .ok false w := by intro w; simp [go_sem]
theorem made_u8 : (Tryd.prog.info? 5).map (fun i => (i.zero, i.size, i.bytes)) = some (some (.int .u8 0), 1, 1) := by kernel_rfl
theorem un_bs : Tryd.prog.underlying 27 = some (.slice 5) := Tryd.underlying27
theorem un_u8 : Tryd.prog.underlying 5 = some (.int .u8) := Tryd.underlying5
theorem un_ws : Tryd.prog.underlying 52 = some (.slice 22) := Tryd.underlying52
theorem ag_i4 : ∀ w, (isAgg 47).run Tryd.prog w = .ok true w := by intro w; simp [go_sem]
set_option maxHeartbeats 400000 in
theorem rotl_any (x n : Int) (w : World) (hn0 : 0 ≤ n) (hn1 : n < 32) :
    Calls Tryd.prog 16 #[.int .u32 x, .int .i64 n] w fun e w' => e = .returned (.int .u32 (rotl x n)) ∧ w' = w := by
  have hn : n % 32 = n := by omega
  go_enter Tryd.func16, Tryd.ntmps16
  go_wp2
  go_ret
  exact ⟨rfl, rfl⟩
def quartV (a b c d : Int) : Value := .tuple #[.int .u32 (quart a b c d).1, .int .u32 (quart a b c d).2.1, .int .u32 (quart a b c d).2.2.1, .int .u32 (quart a b c d).2.2.2]
theorem results_tmp4 {fn : Func} {t u v x : Tmp} (h : fn.results = #[.tmp t, .tmp u, .tmp v, .tmp x]) (tmps : Array Value) (P : Program) (w : World) :
    (results fn tmps).run P w = .ok (.tuple #[tmps.getD t undef, tmps.getD u undef, tmps.getD v undef, tmps.getD x undef]) w := by
  simp [results, h]
set_option maxHeartbeats 400000 in
theorem quarter_any (a b c d : Int) (w : World) :
    Calls Tryd.prog 9 #[.int .u32 a, .int .u32 b, .int .u32 c, .int .u32 d] w fun e w' => e = .returned (quartV a b c d) ∧ w' = w := by
  go_enter Tryd.func9, Tryd.ntmps9
  go_wp2_with (go_at_call 16; refine (rotl_any _ _ _ (by omega) (by omega)).mono ?_; rintro e w' ⟨rfl, rfl⟩)
  exact bodyPost_ret (results_tmp4 Tryd.results9 _ _ _) rfl ⟨rfl, rfl⟩
set_option maxHeartbeats 400000 in
theorem putLittle_any (x : Int) (w : World) :
    Calls Tryd.prog 25 #[.int .u32 x] w fun e w' => e = .returned (.agg (u8s (lfour x)).toArray) ∧ Below w.heap.size w w' := by
  go_enter Tryd.func25, Tryd.ntmps25
  go_wp2
  refine bodyPost_ret (v := .agg (u8s (lfour x)).toArray) (by simp [results, Tryd.results25, go_sem, u8s, lfour]) rfl ⟨rfl, ?_⟩
  exact (Below.refl _ _).alloc (Nat.le_refl _) _
set_option maxHeartbeats 400000 in
theorem firstFour_long (b off n cap : Nat) (cs : List Int) (hcs : cs.length = 4) (hn : 4 ≤ n) (w : World) (hc : Seg w b off cs) :
    Calls Tryd.prog 27 #[.slice (some ⟨b, off, none⟩) n cap] w fun e w' => e = .returned (.agg (u8s cs).toArray) ∧ Below w.heap.size w w' := by
  have hm := Mem.start w
  go_enter Tryd.func27, Tryd.ntmps27
  go_wp2_with (first
    | ((with_reducible refine at_op (some 2) (.alloc 53) ?_); refine wpl_alloc _ zero_b4 hm ?_; clear hm; intro w1 g1 hm)
    | ((with_reducible refine at_op (some 3) (.alloc 53) ?_); refine wpl_alloc _ zero_b4 hm ?_; clear hm; intro w2 g2 hm)
    | ((with_reducible refine at_op (some 6) (.call { callee := .builtin .copy, args := #[.tmp 4, .tmp 5], argTypes := #[27, 27] }) ?_); refine wpl_copyN 0 0 4 4 ⟨b, off, none⟩ n cap (u8s cs) 4 (u8s cs) hm rfl rfl rfl _ un_bs sz_u8 (by rw [u8s_length, hcs]) (Nat.min_eq_right hn).symm (hc.mem hm (by simp)).src (by simp [u8s_length]) (u8s_one _) (splice_all _ _ (by simp [u8s_length, hcs])) ?_; clear hm; intro w3 hm)
    | ((with_reducible refine at_op (some 7) (.load 53 (.tmp 3)) ?_); refine wpl_ldw 0 hm rfl rfl _ un_b4 rfl 4 sz_b4 (by simp [u8s_length, hcs]) ?_)
    | ((with_reducible refine at_op none (.store 53 (.tmp 2) (.tmp 7)) ?_); refine wpl_stw 1 (u8s cs) hm rfl rfl rfl 4 sz_b4 (by simp [u8s_length]) (by simp [u8s_length, hcs]) (u8s_one _) ?_; clear hm; intro w4 hm))
  exact ret_cell 1 hm rfl Tryd.results27 rfl _ un_b4 rfl 4 sz_b4 (by simp [u8s_length, hcs]) rfl ⟨rfl, hm.below⟩
set_option maxHeartbeats 400000 in
theorem little_any (b off n cap : Nat) (c0 c1 c2 c3 : Int) (hn : 4 ≤ n) (w : World) (hc : Seg w b off [c0, c1, c2, c3]) (h0 : 0 ≤ c0 ∧ c0 < 256) (h1 : 0 ≤ c1 ∧ c1 < 256) (h2 : 0 ≤ c2 ∧ c2 < 256) (h3 : 0 ≤ c3 ∧ c3 < 256) :
    Calls Tryd.prog 26 #[.slice (some ⟨b, off, none⟩) n cap] w fun e w' => e = .returned (.int .u32 (lit4 c0 c1 c2 c3)) ∧ Below w.heap.size w w' := by
  obtain ⟨h00, h01⟩ := h0
  obtain ⟨h10, h11⟩ := h1
  obtain ⟨h20, h21⟩ := h2
  obtain ⟨h30, h31⟩ := h3
  have hm := Mem.start w
  go_enter Tryd.func26, Tryd.ntmps26
  go_wp2_with (first
    | (go_at_call 27; refine (firstFour_long b off n cap [c0, c1, c2, c3] rfl hn _ (hc.mem hm (by simp))).mono ?_; rintro e w1 ⟨rfl, hb⟩; replace hm := hm.call hb; clear hb)
    | ((with_reducible refine at_op (some 3) (.alloc 53) ?_); refine wpl_alloc _ zero_b4 hm ?_; clear hm; intro w2 g2 hm)
    | ((with_reducible refine at_op none (.store 53 (.tmp 3) (.tmp 5)) ?_); refine wpl_stw 0 (u8s [c0, c1, c2, c3]) hm rfl rfl rfl 4 sz_b4 (by simp [u8s_length]) (rfl) (u8s_one _) ?_; clear hm; intro w3 hm)
    | ((with_reducible refine at_op (some 7) (.load 5 (.tmp 6)) ?_); refine wpl_ldc 0 3 (.int .u8 c3) hm rfl rfl ag_u8 (rfl) ?_)
    | ((with_reducible refine at_op (some 11) (.load 5 (.tmp 10)) ?_); refine wpl_ldc 0 2 (.int .u8 c2) hm rfl rfl ag_u8 (rfl) ?_)
    | ((with_reducible refine at_op (some 16) (.load 5 (.tmp 15)) ?_); refine wpl_ldc 0 1 (.int .u8 c1) hm rfl rfl ag_u8 (rfl) ?_)
    | ((with_reducible refine at_op (some 21) (.load 5 (.tmp 20)) ?_); refine wpl_ldc 0 0 (.int .u8 c0) hm rfl rfl ag_u8 (rfl) ?_))
  go_ret
  exact ⟨rfl, hm.below⟩
/-- Words put from a place on. -/
def putL (l : List Int) (off : Nat) (bs : List Int) (n : Nat) : List Int := splice l off (litWords bs n)
theorem putL_zero (l : List Int) (off : Nat) (bs : List Int) : putL l off bs 0 = l := by simp [putL, splice, litWords]
theorem putL_length (l : List Int) (off : Nat) (bs : List Int) (n : Nat) (h : off + n ≤ l.length) : (putL l off bs n).length = l.length := by simp [putL, splice, litWords_length]; omega
theorem putL_step (l : List Int) (off : Nat) (bs : List Int) (n : Nat) (h : off + n < l.length) : (putL l off bs n).set (off + n) (litAt bs n) = putL l off bs (n + 1) := by
  have h1 : (l.take off).length = off := by simp; omega
  unfold putL splice
  rw [litWords_length, litWords_length, List.set_append_right _ _ (by omega), h1, Nat.add_sub_cancel_left, List.set_append_right _ _ (by rw [litWords_length]; omega), litWords_length, Nat.sub_self,
    List.drop_eq_getElem_cons h, List.set_cons_zero, litWords, ← Nat.add_assoc]
  simp
theorem seg_four {w : World} {b o : Nat} {bs : List Int} (hs : Seg w b o bs) (k : Nat) (hk : 4 * k + 4 ≤ bs.length) :
    Seg w b (o + 4 * k) [bs.getD (4 * k) 0, bs.getD (4 * k + 1) 0, bs.getD (4 * k + 2) 0, bs.getD (4 * k + 3) 0] := by
  intro j hj
  have hj4 : j < 4 := by simpa using hj
  have hq := hs (4 * k + j) (by omega)
  rw [Nat.add_assoc, hq]
  match j, hj4 with
  | 0, _ => rfl
  | 1, _ => rfl
  | 2, _ => rfl
  | 3, _ => rfl
set_option maxHeartbeats 800000 in
theorem putWords_any (g off n cap b o m cp : Nat) (l bs : List Int) (t : TypeId) (hl : off + n ≤ l.length) (hm4 : 4 * n ≤ bs.length) (hmb : m = bs.length) (hmc : m ≤ cp) (hml : m ≤ 1000000) (hbb : Bytes bs) (hne : b ≠ g) (w : World) (hr : Row w g (u32s l) t) (hs : Seg w b o bs) :
    Calls Tryd.prog 24 #[.slice (some ⟨g, off, none⟩) n cap, .slice (some ⟨b, o, none⟩) m cp] w fun e w' => e = .returned (.tuple #[]) ∧ Row w' g (u32s (putL l off bs n)) t ∧ Upd g w w' := by
  subst hmb
  have hm := Mem.enter hr
  have HS : Hid (Seg w b o bs) := hs
  have HB : Hid _ := hbb
  clear hr hs hbb
  go_enter Tryd.func24, Tryd.ntmps24
  go_wp2_with fail
  go_loopw [7] (fun vi wr => ∃ k : Nat, k ≤ n ∧ vi = .int .i64 k ∧ Mem w [g] wr [(g, u32s (putL l off bs k), t)]) (fun vi _ => n - (intOf vi).toNat)
  case atStart => exact ⟨0, by omega, rfl, by rw [putL_zero]; exact hm⟩
  case round =>
    clear hm
    obtain ⟨k, hk, rfl, hm⟩ := hrel
    by_cases hlt : k < n
    · have hki : (k : Int) < (n : Int) := by omega
      have HQ : Hid _ := And.intro (Bytes.get HB.out (4 * k)) (And.intro (Bytes.get HB.out (4 * k + 1)) (And.intro (Bytes.get HB.out (4 * k + 2)) (Bytes.get HB.out (4 * k + 3))))
      have HSG : Hid (Seg wr b (o + 4 * k) [bs.getD (4 * k) 0, bs.getD (4 * k + 1) 0, bs.getD (4 * k + 2) 0, bs.getD (4 * k + 3) 0]) := seg_four (HS.out.mem hm (by simpa using hne)) k (by omega)
      have HST : Hid ((u32s (putL l off bs k)).set (off + k) (.int .u32 (litAt bs k)) = u32s (putL l off bs (k + 1))) := by
        show _ = _
        rw [u32s_set, putL_step l off bs k (by omega)]
      have HLN : Hid (off + k < (u32s (putL l off bs k)).length) := by show _ < _; rw [u32s_length, putL_length _ _ _ _ (by omega)]; omega
      have e4 : IntKind.i64.wrap (4 * (k : Int)) = ((4 * k : Nat) : Int) := by rw [show 4 * (k : Int) = ((4 * k : Nat) : Int) by omega, wrap_nat _ (by omega)]
      have HE : Hid _ := e4
      clear e4
      go_wp2_with (first
        | ((with_reducible refine at_op (some 15) (.slice 27 (.tmp 12) (some (.tmp 14)) none none) ?_); go_must (refine wpl_slo2 un_bs sz_u8 (4 * k) (by omega) (by omega) rfl rfl (by first | exact HE.out | omega) ?_))
        | (go_at_call 26; refine (little_any _ _ _ _ _ _ _ _ (by omega) _ (HSG.out) HQ.out.1 HQ.out.2.1 HQ.out.2.2.1 HQ.out.2.2.2).mono ?_; rintro e w5 ⟨rfl, hb⟩; replace hm := hm.call hb; clear hb)
        | ((with_reducible refine at_op none (.store 22 (.tmp 17) (.tmp 16)) ?_); go_must (refine wpl_stc 0 (off + k) (.int .u32 (litAt bs k)) hm rfl rfl rfl sz_u32 HLN.out rfl rfl ?_); clear hm; intro w6 hm))

      rw [List.set_cons_zero, HST.out] at hm
      go_roundw
      case rel => exact ⟨k + 1, by omega, by go_num, hm⟩
      case measure => simp [intOf]; omega
    · have hkn : k = n := by omega
      subst hkn
      have hni : ¬ (k : Int) < (k : Int) := by omega
      go_wp2_with fail
      go_end0
      exact ⟨rfl, hm.get 0 rfl, hm.toUpd⟩
end Go.Proofs.YtalhobmnbikbfaaDoor
