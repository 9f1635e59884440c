/- Package bits, as package node calls it. -/
import Derived.Test.YtnahflppggoplaaNdPlain
namespace Go.Proofs.Ytnahflppggoplaa
open Go Go.RowKit
set_option maxHeartbeats 1000000 in
set_option maxRecDepth 100000 in
theorem longer_gen (zs : List Int) (v : Value) (m : Nat) (hzl : zs.length ≤ 30000) (hml : m ≤ 30000) (w : World) (hv : SlOld w v zs) :
    Calls Try.prog 32 #[v, .int .i64 (m : Int)] w fun e w' => ∃ g, e = .returned (.slice (some ⟨g, 0, none⟩) (zs.length + m) (zs.length + m)) ∧ w.heap.size ≤ g ∧ Row w' g (u8s (zs ++ List.replicate m 0)) 5 ∧ Below w.heap.size w w' := by
  obtain ⟨p, cap, rfl, hcap⟩ := hv.len
  have hm := Mem.start w
  have HV : Hid (SlOld w (.slice p zs.length cap) zs) := hv
  have HNE : Hid (splice (List.replicate (zs.length + m) (.int .u8 0)) 0 (u8s (zs.take zs.length)) = u8s (zs ++ List.replicate m 0)) := by
    show _ = _
    have e : List.replicate (zs.length + m) (Value.int .u8 0) = u8s (List.replicate (zs.length + m) 0) := by simp [u8s]
    rw [List.take_of_length_le (Nat.le_refl _), e, splice_zeros zs (zs.length + m), show zs.length + m - zs.length = m by omega]
  have HMI : Hid (zs.length = Nat.min zs.length (zs.length + m)) := (Nat.min_eq_left (by omega)).symm
  clear hv
  go_enter Try.func32, Try.ntmps32
  go_wp2_with (first
    | ((with_reducible refine at_op (some 10) (.makeSlice 22 (.tmp 9) (.tmp 9)) ?_); go_must (refine wpl_make _ un_bs _ made_u8 rfl (zs.length + m) rfl (by first | rfl | omega | go_num) rfl (by first | rfl | omega | go_num) (by omega) hm ?_); clear hm; intro w1 g hm)
    | ((with_reducible refine at_op (some 13) (.call { callee := .builtin .copy, args := #[.tmp 11, .tmp 12], argTypes := #[22, 22] }) ?_); go_must (refine wpl_cp 0 zs zs.length (u8s (zs ++ List.replicate m 0)) hm rfl rfl rfl _ un_bs sz_u8 (SlOld.mem HV.out hm) HMI.out (by simp) HNE.out ?_); clear hm; intro w2 hm))
  go_ret
  have hf := hm.fresh _ (List.mem_cons_self ..)
  exact ⟨g, rfl, by simpa using hf, hm.get 0 rfl, hm.below⟩
set_option maxHeartbeats 1000000 in
set_option maxRecDepth 100000 in
theorem set_two (zs : List Int) (a b : Int) (r : List Int) : (((u8s (zs ++ ([0, 0] ++ r))).set (zs.length + 1) (.int .u8 b)).set (zs.length + 0) (.int .u8 a)) = u8s (zs ++ ([a, b] ++ r)) := by
  rw [u8s_set, u8s_set]
  simp [u8s, List.set_append_right]
set_option maxHeartbeats 1000000 in
set_option maxRecDepth 100000 in
theorem putNumber_two (g : Nat) (zs r : List Int) (n : Int) (cap : Nat) (w : World) (hr : Row w g (u8s (zs ++ ([0, 0] ++ r))) 5) :
    Calls Try.prog 40 #[.slice (some ⟨g, zs.length, none⟩) 2 cap, .int .u64 n] w fun e w' => e = .returned (.tuple #[]) ∧ Row w' g (u8s (zs ++ (be2 n ++ r))) 5 ∧ Upd g w w' := by
  have hm := Mem.enter hr
  have HLN : Hid (((u8s (zs ++ ([0, 0] ++ r))).length = zs.length + (2 + r.length))) := by show _ = _; simp [u8s_length]; omega
  clear hr
  go_enter Try.func40, Try.ntmps40
  go_wp2_with fail
  refine wp_loop_rounds 3 ?_
  iterate 3 (rw [rounds_succ]; go_wp2_with (first
    | (((with_reducible refine at_op none (.store 5 (.tmp 16) (.tmp 15)) ?_); refine wpl_stc 0 _ _ hm rfl (rfl) rfl sz_u8 (by first | (rw [HLN.out]; omega) | (simp only [List.length_set]; rw [HLN.out]; omega)) rfl rfl ?_; clear hm; intro w9 hm))))
  go_end0
  have hrow := hm.get 0 rfl
  exact ⟨rfl, by have e := set_two zs (n / 256 % 256) (n % 256) r; rw [show be2 n = [n / 256 % 256, n % 256] from rfl, ← e]; exact hrow, hm.toUpd⟩
set_option maxHeartbeats 1000000 in
set_option maxRecDepth 100000 in
theorem held_two (w : World) :
    Calls Try.prog 41 #[.int .i64 2] w fun e w' => e = .returned (.int .i64 2) ∧ w' = w := by
  go_enter Try.func41, Try.ntmps41
  go_wp2
  go_ret
  exact ⟨rfl, rfl⟩
set_option maxHeartbeats 1000000 in
set_option maxRecDepth 100000 in
theorem put_two (zs : List Int) (v : Value) (n : Int) (hzl : zs.length ≤ 30000) (w : World) (hv : SlOld w v zs) :
    Calls Try.prog 30 #[v, .int .u64 n, .int .i64 2] w fun e w' => ∃ g, e = .returned (.slice (some ⟨g, 0, none⟩) (zs.length + 2) (zs.length + 2)) ∧ w.heap.size ≤ g ∧ Row w' g (u8s (zs ++ be2 n)) 5 ∧ Below w.heap.size w w' := by
  obtain ⟨p, cap, rfl, hcap⟩ := hv.len
  have hm := Mem.start w
  have HV : Hid (SlOld w (.slice p zs.length cap) zs) := hv
  clear hv
  go_enter Try.func30, Try.ntmps30
  go_wp2_with (first
    | (go_at_call 41; refine (held_two _).mono ?_; rintro e w1 ⟨rfl, rfl⟩)
    | (go_at_call 32; refine (longer_gen zs _ 2 (by omega) (by omega) _ HV.out).mono ?_; rintro e w2 ⟨g, rfl, hge, hr, hb⟩; have HGE : Hid _ := hge; have HR : Hid (Row w2 g (u8s (zs ++ ([0, 0] ++ []))) 5) := hr; have HBL : Hid _ := hb; clear hge hr hb)
    | ((with_reducible refine at_op (some 17) (.slice 22 (.tmp 14) (some (.tmp 16)) none none) ?_); go_must (refine wpl_slo un_bs sz_u8 zs.length zs.length 2 2 (by omega) (by omega) (by omega) (by omega) (by omega) rfl rfl rfl ?_))
    | (go_at_call 40; refine (putNumber_two g zs [] n 2 _ HR.out).mono ?_; rintro e w3 ⟨rfl, hr2, hu⟩; rw [List.append_nil] at hr2; have HR2 : Hid (Row w3 g (u8s (zs ++ be2 n)) 5) := hr2; have HU2 : Hid (Upd g w2 w3) := hu; clear hr2 hu))
  go_ret
  exact ⟨g, rfl, HGE.out, HR2.out, below_upd HBL.out HU2.out HGE.out HBL.out.size⟩
set_option maxHeartbeats 1000000 in
set_option maxRecDepth 100000 in
theorem or_next {x c : Int} (hx : 0 ≤ x ∧ x < 72057594037927936) (hc : 0 ≤ c ∧ c < 256) : Go.bits .or .u64 (x * 256) c = x * 256 + c := by
  rw [u64_or (x * 256) c (by omega) (by omega) hc.1 (by omega), nat_join 8 _ _ (by omega) (by omega)]
  omega
set_option maxHeartbeats 1000000 in
set_option maxRecDepth 100000 in
theorem take_next (cs : List Int) (k : Nat) (h : k < cs.length) : numL (cs.take (k + 1)) = numL (cs.take k) * 256 + cs.getD k 0 := by
  rw [List.take_add_one, List.getElem?_eq_getElem h, Option.toList_some, numL_snoc]
  simp [h]
set_option maxHeartbeats 1000000 in
set_option maxRecDepth 100000 in
theorem number_any (cs : List Int) (v : Value) (n : Nat) (hn : cs.length = n) (hn8 : n ≤ 8) (hcb : Bytes cs) (w : World) (hv : SlOld w v cs) :
    Calls Try.prog 33 #[v] w fun e w' => e = .returned (.int .u64 (numL cs)) ∧ w' = w := by
  obtain ⟨p, cap, rfl, hcap, hs⟩ := hv
  rw [hn] at hs hcap ⊢
  have HB : Hid _ := hcb
  clear hcb
  go_enter Try.func33, Try.ntmps33
  go_wp2_with fail
  go_loopw [3, 8] (fun vx vi wr => ∃ k : Nat, k ≤ n ∧ vx = .int .u64 (numL (cs.take k)) ∧ vi = .int .i64 k ∧ wr = w) (fun _ vi _ => n - (RowKit.intOf vi).toNat)
  case atStart => exact ⟨0, by omega, rfl, rfl, rfl⟩
  case round =>
    obtain ⟨k, hk, rfl, rfl, rfl⟩ := hrel
    by_cases hlt : k < n
    · obtain ⟨b, off, rfl, hseg⟩ := hs (by omega)
      have hki : (k : Int) < (n : Int) := by omega
      have hc := hseg k (by omega)
      have hb1 := Bytes.get HB.out k
      have hb2 : Bytes (cs.take k) := Bytes.take HB.out k
      have h1 := numL_nonneg hb2
      have h2 := numL_lt hb2
      have h3 : (256 : Int) ^ (cs.take k).length ≤ 256 ^ 7 := by
        rw [List.length_take, Nat.min_eq_left (by omega)]
        exact (show ∀ k : Nat, k < 8 → (256 : Int) ^ k ≤ 256 ^ 7 by decide) k (by omega)
      have h4 : numL (cs.take k) < 72057594037927936 := by
        have : (256 : Int) ^ 7 = 72057594037927936 := by decide
        omega
      have HN : Hid (numL (cs.take (k + 1)) = Go.bits .or .u64 (numL (cs.take k) * 256) (cs.getD k 0)) := by
        show _ = _
        rw [take_next cs k (by omega), or_next ⟨h1, h4⟩ hb1]
      obtain ⟨x, hx⟩ : ∃ x, x = numL (cs.take k) := ⟨_, rfl⟩
      obtain ⟨c, hcc⟩ : ∃ c, c = cs.getD k 0 := ⟨_, rfl⟩
      rw [← hx] at h1 h4 HN ⊢
      rw [← hcc] at hc hb1 HN
      obtain ⟨hb10, hb11⟩ := hb1
      clear h2 h3 hx hcc hb2 hseg
      go_wp2_with fail
      go_roundw
      case rel => exact ⟨k + 1, by omega, by rw [HN.out], by go_num, trivial⟩
      case measure => simp [RowKit.intOf]; omega
    · have hkn : k = n := by omega
      subst hkn
      have hni : ¬ (k : Int) < (k : Int) := by omega
      go_wp2_with fail
      go_ret
      rw [List.take_of_length_le (by omega)]
      exact ⟨rfl, rfl⟩
set_option maxHeartbeats 1000000 in
set_option maxRecDepth 100000 in
theorem held_four (w : World) :
    Calls Try.prog 41 #[.int .i64 4] w fun e w' => e = .returned (.int .i64 4) ∧ w' = w := by
  go_enter Try.func41, Try.ntmps41
  go_wp2
  go_ret
  exact ⟨rfl, rfl⟩
set_option maxHeartbeats 1000000 in
set_option maxRecDepth 100000 in
theorem longer_four (zs : List Int) (v : Value) (hzl : zs.length ≤ 60000) (w : World) (hv : SlOld w v zs) :
    Calls Try.prog 32 #[v, .int .i64 4] w fun e w' => ∃ g, e = .returned (.slice (some ⟨g, 0, none⟩) (zs.length + 4) (zs.length + 4)) ∧ w.heap.size ≤ g ∧ Row w' g (u8s (zs ++ [0, 0, 0, 0])) 5 ∧ Below w.heap.size w w' := by
  obtain ⟨p, cap, rfl, hcap⟩ := hv.len
  have hm := Mem.start w
  have HV : Hid (SlOld w (.slice p zs.length cap) zs) := hv
  have HNE : Hid (splice (List.replicate (zs.length + 4) (.int .u8 0)) 0 (u8s (zs.take zs.length)) = u8s (zs ++ [0, 0, 0, 0])) := by
    show _ = _
    have e : List.replicate (zs.length + 4) (Value.int .u8 0) = u8s (List.replicate (zs.length + 4) 0) := by simp [u8s]
    rw [List.take_of_length_le (Nat.le_refl _), e, splice_zeros zs (zs.length + 4), show zs.length + 4 - zs.length = 4 by omega]
    rfl
  have HMI : Hid (zs.length = Nat.min zs.length (zs.length + 4)) := (Nat.min_eq_left (by omega)).symm
  clear hv
  go_enter Try.func32, Try.ntmps32
  go_wp2_with (first
    | ((with_reducible refine at_op (some 10) (.makeSlice 22 (.tmp 9) (.tmp 9)) ?_); go_must (refine wpl_make _ un_bs _ made_u8 rfl (zs.length + 4) rfl (by first | rfl | omega | go_num) rfl (by first | rfl | omega | go_num) (by omega) hm ?_); clear hm; intro w1 g hm)
    | ((with_reducible refine at_op (some 13) (.call { callee := .builtin .copy, args := #[.tmp 11, .tmp 12], argTypes := #[22, 22] }) ?_); go_must (refine wpl_cp 0 zs zs.length (u8s (zs ++ [0, 0, 0, 0])) hm rfl rfl rfl _ un_bs sz_u8 (SlOld.mem HV.out hm) HMI.out (by simp) HNE.out ?_); clear hm; intro w2 hm))
  go_ret
  have hf := hm.fresh _ (List.mem_cons_self ..)
  exact ⟨g, rfl, by simpa using hf, hm.get 0 rfl, hm.below⟩
set_option maxHeartbeats 1000000 in
set_option maxRecDepth 100000 in
theorem set_four (zs : List Int) (a b c d : Int) : ((((u8s (zs ++ [0, 0, 0, 0])).set (zs.length + 3) (.int .u8 d)).set (zs.length + 2) (.int .u8 c)).set (zs.length + 1) (.int .u8 b)).set (zs.length + 0) (.int .u8 a) = u8s (zs ++ [a, b, c, d]) := by
  rw [u8s_set, u8s_set, u8s_set, u8s_set]
  simp [u8s, List.set_append_right]
set_option maxHeartbeats 1000000 in
set_option maxRecDepth 100000 in
theorem putNumber_four (g : Nat) (zs : List Int) (n : Int) (w : World) (hr : Row w g (u8s (zs ++ [0, 0, 0, 0])) 5) :
    Calls Try.prog 40 #[.slice (some ⟨g, zs.length, none⟩) 4 4, .int .u64 n] w fun e w' => e = .returned (.tuple #[]) ∧ Row w' g (u8s (zs ++ be4 n)) 5 ∧ Upd g w w' := by
  have hm := Mem.enter hr
  have HLN : Hid (((u8s (zs ++ [0, 0, 0, 0])).length = zs.length + 4)) := by show _ = _; simp [u8s_length]
  clear hr
  go_enter Try.func40, Try.ntmps40
  go_wp2_with fail
  refine wp_loop_rounds 5 ?_
  iterate 5 (rw [rounds_succ]; go_wp2_with (first
    | (((with_reducible refine at_op none (.store 5 (.tmp 16) (.tmp 15)) ?_); refine wpl_stc 0 _ _ hm rfl (rfl) rfl sz_u8 (by first | (rw [HLN.out]; omega) | (simp only [List.length_set]; rw [HLN.out]; omega)) rfl rfl ?_; clear hm; intro w9 hm))))
  go_end0
  have hrow := hm.get 0 rfl
  exact ⟨rfl, by have e := set_four zs (n / 256 / 256 / 256 % 256) (n / 256 / 256 % 256) (n / 256 % 256) (n % 256); rw [show be4 n = [n / 256 / 256 / 256 % 256, n / 256 / 256 % 256, n / 256 % 256, n % 256] from rfl, ← e]; exact hrow, hm.toUpd⟩
set_option maxHeartbeats 1000000 in
set_option maxRecDepth 100000 in
theorem put_four (zs : List Int) (v : Value) (n : Int) (hzl : zs.length ≤ 60000) (w : World) (hv : SlOld w v zs) :
    Calls Try.prog 30 #[v, .int .u64 n, .int .i64 4] w fun e w' => ∃ g, e = .returned (.slice (some ⟨g, 0, none⟩) (zs.length + 4) (zs.length + 4)) ∧ w.heap.size ≤ g ∧ Row w' g (u8s (zs ++ be4 n)) 5 ∧ Below w.heap.size w w' := by
  obtain ⟨p, cap, rfl, hcap⟩ := hv.len
  have hm := Mem.start w
  have HV : Hid (SlOld w (.slice p zs.length cap) zs) := hv
  clear hv
  go_enter Try.func30, Try.ntmps30
  go_wp2_with (first
    | (go_at_call 41; refine (held_four _).mono ?_; rintro e w1 ⟨rfl, rfl⟩)
    | (go_at_call 32; refine (longer_four zs _ hzl _ HV.out).mono ?_; rintro e w2 ⟨g, rfl, hge, hr, hb⟩; have HGE : Hid _ := hge; have HR : Hid (Row w2 g (u8s (zs ++ [0, 0, 0, 0])) 5) := hr; have HBL : Hid _ := hb; clear hge hr hb)
    | ((with_reducible refine at_op (some 17) (.slice 22 (.tmp 14) (some (.tmp 16)) none none) ?_); go_must (refine wpl_slo un_bs sz_u8 zs.length zs.length 4 4 (by omega) (by omega) (by omega) (by omega) (by omega) rfl rfl rfl ?_))
    | (go_at_call 40; refine (putNumber_four g zs n _ HR.out).mono ?_; rintro e w3 ⟨rfl, hr2, hu⟩; have HR2 : Hid (Row w3 g (u8s (zs ++ be4 n)) 5) := hr2; have HU2 : Hid (Upd g w2 w3) := hu; clear hr2 hu))
  go_ret
  exact ⟨g, rfl, HGE.out, HR2.out, below_upd HBL.out HU2.out HGE.out HBL.out.size⟩
set_option maxRecDepth 100000 in
theorem byteCells_strB (s : ByteArray) : Lib.byteCells s.data.toList = u8s (strB s) := by
  simp [Lib.byteCells, u8s, strB]
set_option maxRecDepth 100000 in
theorem exec_strAll {a : Act} {w : World} {dst : Option Tmp} {typ : TypeId} {pos : String} {aft : Array Edge} {gd : Option (Nat × Bool)} {x hi : Operand} (s : ByteArray) (n : Nat) (hn : s.size = n) (hx : a.eval x = .string s) (hh : a.eval hi = .int .i64 (n : Int)) :
    (execOp a.eval { dst := dst, op := .slice 9 x none (some hi) none, type := typ, pos := pos, after := aft, guard := gd }).run Try.prog w = .ok (.value (.string s)) w := by
  have h1 : (Instr.slice 9 (.string s) none (some (.int .i64 (n : Int))) none).run Try.prog w = .ok (.string s) w := by
    have h2 := run_slice_string_h (P := Try.prog) w 9 s un_strT .i64 (n : Int) (by omega) (by omega)
    rw [h2, Int.toNat_natCast, ← hn, ByteArray.extract_zero_size]
  unfold execOp
  simp only [hx, hh, Instr.sliceAt, run_underlying un_strT, Option.map_some, Option.map_none, h1, Sem.run_bind, Sem.run_pure, Result.andThen_ok]
section
variable {P : Program} {ops : Array Oper} {rest : List Oper} {a : Act} {w w0 : World} {Q : Exit → Act → World → Prop} {dst : Option Tmp} {typ : TypeId} {pos : String} {aft : Array Edge} {S : List Nat} {rows : List (Nat × List Value × TypeId)}
set_option maxRecDepth 100000 in
theorem wpl_cpStr {d x : Operand} {dT sT : TypeId} (i : Nat) {g : Nat} {l : List Value} {t : TypeId} (off dLen dCap : Nat) (s : ByteArray) (new : List Value) (hm : Mem w0 S w rows) (hi : rows[i]? = some (g, l, t))
    (hd : a.eval d = .slice (some ⟨g, off, none⟩) dLen dCap) (hs : a.eval x = .string s) (elem : TypeId) (hu : P.underlying dT = some (.slice elem)) (hsz : (P.info? elem).map (·.size) = some 1)
    (hle : s.size ≤ dLen) (hfit : off + s.size ≤ l.length) (hnew : splice l off (u8s (strB s)) = new)
    (h : ∀ w', Mem w0 S w' (rows.set i (g, new, t)) → wpList P ops Q rest (a.put dst (.int .i64 s.size)) w') :
    wpList P ops Q ({ dst := dst, op := .call { callee := .builtin .copy, args := #[d, x], argTypes := #[dT, sT] }, type := typ, pos := pos, after := aft, guard := none } :: rest) a w := by
  have hr := hm.get i hi
  have hrun := Lib.run_copy_row_string (P := P) w dT sT typ elem g off dLen dCap s l.toArray t hu hsz hr hle (by simpa using hfit)
  have e : (l.take off ++ Lib.byteCells s.data.toList ++ l.drop (off + s.size)) = new := by
    rw [← hnew, byteCells_strB]
    unfold splice
    rw [u8s_length, strB_length, List.append_assoc]
  rw [e] at hrun
  refine wpList_plain rfl fun K hK => ?_
  have hh := hK _ _ (h _ (hm.upd i hi (Upd.setRow g w new.toArray) (hr.setRow new)))
  unfold Oper.wp execOp
  simp only [resolve, invoke, builtin, Sem.run_bind, Sem.run_pure, Result.andThen_ok, List.map_toArray, List.map_cons, List.map_nil, hd, hs, hrun]
  exact hh
end
set_option maxHeartbeats 1000000 in
set_option maxRecDepth 100000 in
theorem firstFour_long (b off n cap : Nat) (cs : List Int) (hcs : cs.length = 4) (hn : 4 ≤ n) (w : World) (hc : Seg w b off cs) :
    Calls Try.prog 42 #[.slice (some ⟨b, off, none⟩) n cap] w fun e w' => e = .returned (.agg (u8s cs).toArray) ∧ Below w.heap.size w w' := by
  have hm := Mem.start w
  go_enter Try.func42, Try.ntmps42
  go_wp2_with (first
    | ((with_reducible refine at_op (some 2) (.alloc 76) ?_); refine wpl_alloc _ zero_b4 hm ?_; clear hm; intro w1 g1 hm)
    | ((with_reducible refine at_op (some 3) (.alloc 76) ?_); refine wpl_alloc _ zero_b4 hm ?_; clear hm; intro w2 g2 hm)
    | ((with_reducible refine at_op (some 6) (.call { callee := .builtin .copy, args := #[.tmp 4, .tmp 5], argTypes := #[22, 22] }) ?_); refine wpl_copyN 0 0 4 4 ⟨b, off, none⟩ n cap (u8s cs) 4 (u8s cs) hm rfl rfl rfl _ un_bs sz_u8 (by rw [u8s_length, hcs]) (Nat.min_eq_right hn).symm (hc.mem hm (by simp)).src (by simp [u8s_length]) (u8s_one _) (splice_all _ _ (by simp [u8s_length, hcs])) ?_; clear hm; intro w3 hm)
    | ((with_reducible refine at_op (some 7) (.load 76 (.tmp 3)) ?_); refine wpl_ldw 0 hm rfl rfl _ un_b4 rfl 4 sz_b4 (by simp [u8s_length, hcs]) ?_)
    | ((with_reducible refine at_op none (.store 76 (.tmp 2) (.tmp 7)) ?_); refine wpl_stw 1 (u8s cs) hm rfl rfl rfl 4 sz_b4 (by simp [u8s_length]) (by simp [u8s_length, hcs]) (u8s_one _) ?_; clear hm; intro w4 hm))
  exact ret_cell 1 hm rfl Try.results42 rfl _ un_b4 rfl 4 sz_b4 (by simp [u8s_length, hcs]) rfl ⟨rfl, hm.below⟩
set_option maxHeartbeats 1000000 in
set_option maxRecDepth 100000 in
theorem bigN_any (cs : List Int) (v : Value) (hl : 4 ≤ cs.length) (hcb : Bytes cs) (w : World) (hv : SlOld w v cs) :
    Calls Try.prog 38 #[v] w fun e w' => e = .returned (.int .u32 (edOf cs)) ∧ Below w.heap.size w w' := by
  obtain ⟨p, cap, rfl, hcap, hs⟩ := hv
  obtain ⟨b, off, rfl, hseg⟩ := hs (by omega)
  obtain ⟨h00, h01⟩ := Bytes.get hcb 0
  obtain ⟨h10, h11⟩ := Bytes.get hcb 1
  obtain ⟨h20, h21⟩ := Bytes.get hcb 2
  obtain ⟨h30, h31⟩ := Bytes.get hcb 3
  have HC : Hid (Seg w b off [cs.getD 0 0, cs.getD 1 0, cs.getD 2 0, cs.getD 3 0]) := seg_four hseg 0 (by omega)
  have hm := Mem.start w
  unfold edOf
  obtain ⟨n, hn⟩ : ∃ n, n = cs.length := ⟨_, rfl⟩
  rw [← hn] at hl hcap ⊢
  generalize cs.getD 0 0 = c0 at *
  generalize cs.getD 1 0 = c1 at *
  generalize cs.getD 2 0 = c2 at *
  generalize cs.getD 3 0 = c3 at *
  clear hseg hs hcb hn
  go_enter Try.func38, Try.ntmps38
  go_wp2_with (first
    | (go_at_call 42; refine (firstFour_long b off n cap [c0, c1, c2, c3] rfl hl _ (HC.out.mem hm (by simp))).mono ?_; rintro e w1 ⟨rfl, hb⟩; replace hm := hm.call hb; clear hb)
    | ((with_reducible refine at_op (some 3) (.alloc 76) ?_); refine wpl_alloc _ zero_b4 hm ?_; clear hm; intro w2 g2 hm)
    | ((with_reducible refine at_op none (.store 76 (.tmp 3) (.tmp 5)) ?_); refine wpl_stw 0 (u8s [c0, c1, c2, c3]) hm rfl rfl rfl 4 sz_b4 (by simp [u8s_length]) (rfl) (u8s_one _) ?_; clear hm; intro w3 hm)
    | ((with_reducible refine at_op (some 7) (.load 5 (.tmp 6)) ?_); refine wpl_ldc 0 0 (.int .u8 c0) hm rfl rfl ag_u8 (rfl) ?_)
    | ((with_reducible refine at_op (some 11) (.load 5 (.tmp 10)) ?_); refine wpl_ldc 0 1 (.int .u8 c1) hm rfl rfl ag_u8 (rfl) ?_)
    | ((with_reducible refine at_op (some 16) (.load 5 (.tmp 15)) ?_); refine wpl_ldc 0 2 (.int .u8 c2) hm rfl rfl ag_u8 (rfl) ?_)
    | ((with_reducible refine at_op (some 21) (.load 5 (.tmp 20)) ?_); refine wpl_ldc 0 3 (.int .u8 c3) hm rfl rfl ag_u8 (rfl) ?_))
  go_ret
  exact ⟨rfl, hm.below⟩
end Go.Proofs.Ytnahflppggoplaa
