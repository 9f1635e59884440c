/- The walk of SectorKeeps. -/
import Derived.Test.YtlddkmjhkhliiaaSecKnown
namespace Go.Proofs.Ytlddkmjhkhliiaa
open Go Go.RowKit Go.Maps

set_option maxRecDepth 100000 in
theorem Sd.drewN {w0 w : World} {g mb : Nat} {kv : Value} {d : Dk} {rows : List (Nat × List Value × TypeId)} (h : Sd w0 w g mb kv d rows) (n : Nat) : Sd w0 (w.drewN n) g mb kv d rows := ⟨h.mem.drewN n, ⟨h.dk.ok, h.dk.row, ⟨h.dk.kept.ex⟩, h.dk.map⟩, h.new, h.apart⟩
section
variable {P : Program} {a : Act} {w : World} {dst : Option Tmp} {typ : TypeId} {pos : String} {aft : Array Edge} {gd : Option (Nat × Bool)}
set_option maxRecDepth 100000 in
theorem exec_ldxG {ty : TypeId} {x : Operand} {b j : Nat} (v : Value) (hc : w.cell? ⟨b, j, none⟩ = some v) (hx : a.eval x = .pointer (some ⟨b, j, none⟩)) (ha : ∀ w, (isAgg ty).run P w = .ok false w) :
    (execOp a.eval { dst := dst, op := .load ty x, type := typ, pos := pos, after := aft, guard := gd }).run P w = .ok (.value v) w := by
  have hld : (loadVar ty ⟨b, j, none⟩).run P w = .ok v w := by simp [loadVar, ha, go_sem, hc]
  unfold execOp
  simp only [hx, Instr.loadAt, Instr.sureAddr, Sem.run_bind, Sem.run_pure, Result.andThen_ok, hld]
set_option maxRecDepth 100000 in
theorem exec_slaG {ty : TypeId} {x : Operand} {lo hi : Option Operand} (n : Nat) {elem : TypeId} (hu : P.underlying ty = some (.array n elem)) (hs : (P.info? elem).map (·.size) = some 1) {g o : Nat} (l m : Nat) (hlm : l + m ≤ n) (hln : l < n) (hx : a.eval x = .pointer (some ⟨g, o, none⟩))
    (hlo : lo.map a.eval = some (.int .i64 l) ∨ (lo.map a.eval = none ∧ l = 0)) (hhi : hi.map a.eval = some (.int .i64 (l + m : Nat)) ∨ (hi.map a.eval = none ∧ l + m = n)) :
    (execOp a.eval { dst := dst, op := .slice ty x lo hi none, type := typ, pos := pos, after := aft, guard := gd }).run P w = .ok (.value (.slice (some ⟨g, o + l, none⟩) m (n - l))) w := by
  have hr := run_sla (P := P) w hu hs g o l m hlm hln (lo.map a.eval) (hi.map a.eval) hlo hhi
  unfold execOp
  simp only [hx, Option.map_none, hr, Sem.run_bind, Sem.run_pure, Result.andThen_ok]
end
/-- What a disk of two sectors holds in its first one. -/
structure Dk.Hold (d : Dk) (A : List Int) (B : Option (List Int)) (s : Int) : Prop where
  calm : d.Calm
  n : d.n = 2
  kept : d.kept 0 = A
  pend : d.pend 0 = B
  steps : d.steps = s
set_option maxRecDepth 100000 in
theorem hold_new : (Dk.new 2).Hold zeroK none 0 := ⟨Dk.calm_new 2, rfl, rfl, rfl, rfl⟩
set_option maxRecDepth 100000 in
theorem over_all (old bs : List Int) (h : old.length = 64) (hb : bs.length = 64) : over old bs = bs := by
  unfold over
  rw [List.drop_of_length_le (by omega), List.append_nil]
section
variable {d : Dk} {A : List Int} {B : Option (List Int)} {s : Int}
set_option maxRecDepth 100000 in
theorem Dk.Hold.now (h : d.Hold A B s) : d.now 0 = B.getD A := by unfold Dk.now; rw [h.kept, h.pend]
set_option maxRecDepth 100000 in
theorem Dk.Hold.num (h : d.Hold A B s) (hs : s < 1000) : d.Num := h.calm.num (by rw [h.steps]; omega)
set_option maxRecDepth 100000 in
theorem Dk.Hold.write (h : d.Hold A B s) (bs : List Int) (hb : bs.length = 64) (hl : (B.getD A).length = 64) : (d.step.put 0 (over (d.now 0) bs)).Hold A (some bs) (s + 1) := by
  refine ⟨h.calm.step.put _ _, h.n, h.kept, ?_, by show d.steps + 1 = _; rw [h.steps]⟩
  rw [h.now, over_all _ _ hl hb]
  simp [Dk.put, upf]
set_option maxRecDepth 100000 in
theorem Dk.Hold.flush (h : d.Hold A B s) : d.step.flushed.Hold (B.getD A) none (s + 1) :=
  ⟨h.calm.step.flushed, h.n, h.now, rfl, by show d.steps + 1 = _; rw [h.steps]⟩
set_option maxRecDepth 100000 in
theorem Dk.Hold.crashN (h : d.Hold A none s) (cs : List Int) : (d.crash cs).Hold A none s := by
  refine ⟨Dk.crash_calm _ h.calm.s0, h.n, ?_, rfl, h.steps⟩
  show d.keptAt cs (d.rank d.n) 0 = A
  unfold Dk.keptAt
  rw [h.pend]
  exact h.kept
set_option maxRecDepth 100000 in
theorem Dk.Hold.crashS {l : List Int} (h : d.Hold A (some l) s) (cs : List Int) : (d.crash cs).Hold (tornOf A l (cs.getD 0 0)) none s := by
  refine ⟨Dk.crash_calm _ h.calm.s0, h.n, ?_, rfl, h.steps⟩
  show d.keptAt cs (d.rank d.n) 0 = _
  have h0 : d.rank 0 = 0 := rfl
  have h1 := d.rank_lt d.n 0 (by rw [h.n]; omega) (by rw [h.pend]; rfl)
  unfold Dk.keptAt
  rw [h.pend]
  simp only
  rw [if_pos h1, h0, h.kept]
end
set_option maxHeartbeats 2000000 in
set_option maxRecDepth 100000 in
theorem keeps_flush (az bs : List Int) (c : Int) (hc : 0 ≤ c ∧ c ≤ 255) (h255 : c ≠ 255) (hal : az.length = 64) (hbl : bs.length = 64) (hab : Bytes az) (hbb : Bytes bs) (w : World) :
    Calls Try.prog 4 #[.agg (u8s az).toArray, .agg (u8s bs).toArray, .bool true, .int .u8 c] w fun e w' => e = .returned (.bool true) ∧ Below w.heap.size w w' := by
  have hm := Mem.start w
  have HAL : Hid (az.length = 64) := hal
  have HBL : Hid (bs.length = 64) := hbl
  have HAB : Hid (Bytes az) := hab
  have HBB : Hid (Bytes bs) := hbb
  obtain ⟨hc0, hc1⟩ := hc
  have hne : (c == 255) = false := by simpa using h255
  clear h255
  obtain ⟨X, hX⟩ : ∃ X, X = bs.take 64 ++ az.drop 64 := ⟨_, rfl⟩
  have HXL : Hid (X.length = 64) := by show _ = _; rw [hX, List.length_append, List.length_take, List.length_drop, HAL.out, HBL.out]; omega
  have HXX : Hid (∀ _ : Unit, X = bs.take 64 ++ az.drop 64) := fun _ => hX
  have HXG : Hid (∀ i : Nat, i < 64 → X.getD i 0 = if i < 64 then bs.getD i 0 else az.getD i 0) := by
    intro i hi
    have h1 := HBL.out
    have h2 := HAL.out
    rw [hX, List.getD_eq_getElem?_getD, List.getD_eq_getElem?_getD, List.getD_eq_getElem?_getD]
    by_cases hik : i < 64
    · rw [if_pos hik, List.getElem?_append_left (by simp; omega), List.getElem?_take, if_pos hik]
    · rw [if_neg hik, List.getElem?_append_right (by simp; omega), List.getElem?_drop]
      congr 2
      simp
      omega
  clear hX hal hbl hab hbb
  go_enter Try.func4, Try.ntmps4
  go_wp2_with (first
    | ((with_reducible refine at_op (some 4) (.box 42 (.tmp 0)) ?_); refine wpl_box (u8s az) rfl hm ?_; clear hm; intro wa qa hm)
    | ((with_reducible refine at_op (some 5) (.box 42 (.tmp 1)) ?_); refine wpl_box (u8s bs) rfl hm ?_; clear hm; intro wb qb hm)
    | (go_at_call 9; refine (known6_any _).mono ?_; rintro e wk ⟨rfl, hbk⟩; replace hm := hm.call hbk; clear hbk))
  go_at_call 10
  refine (new_any 2 _).mono ?_
  rintro e wn ⟨g, rfl, mb, kv, hd, hf, hb⟩
  have ST : Hid (Sd w wn g mb kv (Dk.new 2) [(qb, u8s bs, 42), (qa, u8s az, 42)]) := Sd.startR hm hb hd hf
  clear hd hf hb hm
  go_wp2_with (first
    | ((with_reducible refine at_op (some 20) (.slice 42 (.tmp 4) none none none) ?_); refine wpl_sla 64 un_b64 sz_u8 0 64 (by omega) (by omega) rfl (Or.inr ⟨rfl, rfl⟩) (Or.inr ⟨rfl, rfl⟩) ?_))
  go_at_call 12
  refine (write_ok ST.out 0 az _ (by omega) (by decide) rfl (by rw [HAL.out]; omega) HAB.out (num_new 2) (Sd.sl ST.out 1 rfl 64 64 HAL.out.symm (Nat.le_refl _))).mono ?_
  rintro e w1 ⟨rfl, st'⟩
  obtain ⟨d1, hd1⟩ : ∃ x, x = (Dk.new 2).step.put 0 (over ((Dk.new 2).now 0) az) := ⟨_, rfl⟩
  have Hd1 : Hid (d1.Hold zeroK (some az) 1) := by rw [hd1]; exact hold_new.write az HAL.out zeroK_length
  have Sd1 : Hid (Sd w w1 g mb kv d1 [(qb, u8s bs, 42), (qa, u8s az, 42)]) := Sd.congr st' hd1.symm
  clear st' hd1 ST
  go_wp2_with fail
  go_at_call 14
  refine (flush_ok Sd1.out Hd1.out.calm.step.off (Hd1.out.num (by omega))).mono ?_
  rintro e w2 ⟨rfl, st'⟩
  obtain ⟨d2, hd2⟩ : ∃ x, x = d1.step.flushed := ⟨_, rfl⟩
  have Hd2 : Hid (d2.Hold az none 2) := by rw [hd2]; exact Hd1.out.flush
  have Sd2 : Hid (Sd w w2 g mb kv d2 [(qb, u8s bs, 42), (qa, u8s az, 42)]) := Sd.congr st' hd2.symm
  clear st' hd2 Sd1 Hd1
  go_wp2_with (first
    | ((with_reducible refine at_opG (some 30) (.slice 42 (.tmp 5) none none none) (some (9, false)) ?_); go_must (refine wpl_execG (.slice (some ⟨qb, 0, none⟩) 64 64) rfl (exec_slaG 64 un_b64 sz_u8 0 64 (by omega) (by omega) rfl (Or.inr ⟨rfl, rfl⟩) (Or.inr ⟨rfl, rfl⟩)) ?_)))
  go_at_call 12
  refine (write_ok Sd2.out 0 bs _ (by omega) (by rw [Hd2.out.n]; decide) Hd2.out.calm.step.off (by rw [HBL.out]; omega) HBB.out (Hd2.out.num (by omega)) (Sd.sl Sd2.out 0 rfl 64 64 HBL.out.symm (Nat.le_refl _))).mono ?_
  rintro e w3 ⟨rfl, st'⟩
  obtain ⟨d3, hd3⟩ : ∃ x, x = d2.step.put 0 (over (d2.now 0) bs) := ⟨_, rfl⟩
  have Hd3 : Hid (d3.Hold az (some bs) 3) := by rw [hd3]; exact Hd2.out.write bs HBL.out HAL.out
  have Sd3 : Hid (Sd w w3 g mb kv d3 [(qb, u8s bs, 42), (qa, u8s az, 42)]) := Sd.congr st' hd3.symm
  clear st' hd3 Sd2 Hd2
  go_wp2_with fail
  go_at_call 14
  refine (flush_ok Sd3.out Hd3.out.calm.step.off (Hd3.out.num (by omega))).mono ?_
  rintro e w4 ⟨rfl, st'⟩
  obtain ⟨d4, hd4⟩ : ∃ x, x = d3.step.flushed := ⟨_, rfl⟩
  have Hd4 : Hid (d4.Hold bs none 4) := by rw [hd4]; exact Hd3.out.flush
  have Sd4 : Hid (Sd w w4 g mb kv d4 [(qb, u8s bs, 42), (qa, u8s az, 42)]) := Sd.congr st' hd4.symm
  clear st' hd4 Sd3 Hd3
  go_wp2_with fail
  go_at_call 18
  refine (crash_st (Sd.alloc Sd4.out (u8s [c, c]) 5) [c, c] _ (by intro y hy; simp at hy; omega) (Sd.sl (Sd.alloc Sd4.out (u8s [c, c]) 5) 0 rfl 2 2 rfl (Nat.le_refl _))).mono ?_
  rintro e w5 ⟨rfl, st'⟩
  replace st' := st'.tail
  obtain ⟨d5, hd5⟩ : ∃ x, x = d4.crash [c, c] := ⟨_, rfl⟩
  have Hd5 : Hid (d5.Hold X none 4) := by rw [hd5]; exact (show (bs : List Int) = X by rw [HXX.out (), List.take_of_length_le (by rw [HBL.out]; omega), List.drop_of_length_le (by rw [HAL.out]; omega), List.append_nil]) ▸ Hd4.out.crashN _
  have Sd5 : Hid (Sd w w5 g mb kv d5 [(qb, u8s bs, 42), (qa, u8s az, 42)]) := Sd.congr st' hd5.symm
  clear st' hd5 Sd4 Hd4
  go_wp2_with fail
  go_at_call 24
  refine (read_ok Sd5.out 0 (by omega) (by rw [Hd5.out.n]; decide) Hd5.out.calm.off).mono ?_
  rintro e w6 ⟨qx, rfl, st'⟩
  have HN6 : Hid (d5.now 0 = X) := Hd5.out.now
  have Sd6 : Hid (Sd w w6 g mb kv d5 [(qx, u8s X, 62), (qb, u8s bs, 42), (qa, u8s az, 42)]) := by rw [← HN6.out]; exact st'
  clear st' Sd5 HN6
  go_wp2_with fail
  go_loopw [13] (fun vi wr => ∃ i : Nat, i ≤ 64 ∧ vi = .int .i64 (i : Int) ∧ Sd w wr g mb kv d5 [(qx, u8s X, 62), (qb, u8s bs, 42), (qa, u8s az, 42)]) (fun vi _ => 64 - (intOf vi).toNat)
  case atStart => exact ⟨0, by omega, rfl, Sd6.out⟩
  case round =>
    obtain ⟨i, hi, rfl, st'⟩ := hrel
    have ST6 : Hid (Sd w wr g mb kv d5 [(qx, u8s X, 62), (qb, u8s bs, 42), (qa, u8s az, 42)]) := st'
    clear st' Sd6
    by_cases hlt : i < 64
    · have hlt2 : (i : Int) < 64 := by omega
      have hik : i < 64 := hlt
      obtain ⟨x, hx⟩ : ∃ x, x = bs.getD i 0 := ⟨_, rfl⟩
      have cx : wr.cell? ⟨qx, i, none⟩ = some (.int .u8 x) := by rw [(Sd.mem ST6.out).cell 0 rfl, u8s_get _ _ (by rw [HXL.out]; exact hlt), HXG.out i hlt, if_pos hik, hx]
      have cb : wr.cell? ⟨qb, i, none⟩ = some (.int .u8 x) := by rw [(Sd.mem ST6.out).cell 1 rfl, u8s_get _ _ (by rw [HBL.out]; exact hlt), hx]
      have HCX : Hid (∀ W, Mem wr [] W [] → W.cell? ⟨qx, i, none⟩ = some (.int .u8 x)) := fun W hW => (hW.old (p := ⟨qx, i, none⟩) ((Sd.mem ST6.out).get 0 rfl).lt (by simp)).trans cx
      have HCY : Hid (∀ W, Mem wr [] W [] → W.cell? ⟨qb, i, none⟩ = some (.int .u8 x)) := fun W hW => (hW.old (p := ⟨qb, i, none⟩) ((Sd.mem ST6.out).get 1 rfl).lt (by simp)).trans cb
      have AX2 : True := trivial
      clear hx cx cb
      go_wp2_with fail
      have hm := Mem.start wr
      refine wp_ends0 ?_
      refine anyH_start (T := fun W => Mem wr [] W []) (by kernel_rfl) hm ?_
      clear hm
      intro w9 hm
      refine anyH_takeG 0 (v := .int .i64 (i : Int)) rfl (by kernel_rfl) (by kernel_rfl) (by kernel_rfl) rfl (fun W _ => by go_simp) hm ?_
      go_simp
      refine anyH_takeG 1 (v := .int .i64 (64)) rfl (by kernel_rfl) (by kernel_rfl) (by kernel_rfl) rfl (fun W _ => by go_simp) hm ?_
      go_simp
      refine anyH_takeG 2 (v := .bool true) rfl (by kernel_rfl) (by kernel_rfl) (by kernel_rfl) rfl (fun W _ => by go_simp) hm ?_
      go_simp
      refine anyH_takeG 3 (v := .bool true) rfl (by kernel_rfl) (by kernel_rfl) (by kernel_rfl) rfl (fun W _ => by go_simp) hm ?_
      go_simp
      refine anyH_takeG 4 (v := .slice (some ⟨qx, 0, none⟩) 64 64) rfl (by kernel_rfl) (by kernel_rfl) (by kernel_rfl) rfl (fun W _ => by go_simp) hm ?_
      go_simp
      refine anyH_takeG 5 (v := .int .i64 (i : Int)) rfl (by kernel_rfl) (by kernel_rfl) (by kernel_rfl) rfl (fun W _ => by go_simp) hm ?_
      go_simp
      refine anyH_takeG 6 (v := .pointer (some ⟨qx, i, none⟩)) rfl (by kernel_rfl) (by kernel_rfl) (by kernel_rfl) rfl (fun W _ => by go_simp) hm ?_
      go_simp
      refine anyH_takeG 7 (v := .int .u8 x) rfl (by kernel_rfl) (by kernel_rfl) (by kernel_rfl) rfl (fun W hW => exec_ldxG (.int .u8 x) (HCX.out W hW) rfl ag_u8) hm ?_
      go_simp
      refine anyH_takeG 8 (v := .int .i64 (i : Int)) rfl (by kernel_rfl) (by kernel_rfl) (by kernel_rfl) rfl (fun W _ => by go_simp) hm ?_
      go_simp
      refine anyH_takeG 9 (v := .pointer (some ⟨qb, i, none⟩)) rfl (by kernel_rfl) (by kernel_rfl) (by kernel_rfl) rfl (fun W _ => by go_simp) hm ?_
      go_simp
      refine anyH_takeG 10 (v := .int .u8 x) rfl (by kernel_rfl) (by kernel_rfl) (by kernel_rfl) rfl (fun W hW => exec_ldxG (.int .u8 x) (HCY.out W hW) rfl ag_u8) hm ?_
      go_simp
      refine anyH_takeG 11 (v := .bool false) rfl (by kernel_rfl) (by kernel_rfl) (by kernel_rfl) rfl (fun W _ => by go_simp) hm ?_
      go_simp
      refine anyH_takeG 12 (v := .bool false) rfl (by kernel_rfl) (by kernel_rfl) (by kernel_rfl) rfl (fun W _ => by go_simp) hm ?_
      go_simp
      refine anyH_takeG 13 (v := .bool false) rfl (by kernel_rfl) (by kernel_rfl) (by kernel_rfl) rfl (fun W _ => by go_simp) hm ?_
      go_simp
      refine anyH_takeG 14 (v := .int .i64 (i : Int)) rfl (by kernel_rfl) (by kernel_rfl) (by kernel_rfl) rfl (fun W _ => by go_simp) hm ?_
      go_simp
      refine anyH_takeG 15 (v := .int .i64 (64)) rfl (by kernel_rfl) (by kernel_rfl) (by kernel_rfl) rfl (fun W _ => by go_simp) hm ?_
      go_simp
      refine anyH_takeG 16 (v := .bool false) rfl (by kernel_rfl) (by kernel_rfl) (by kernel_rfl) rfl (fun W _ => by go_simp) hm ?_
      go_simp
      refine anyH_takeG 17 (v := .bool false) rfl (by kernel_rfl) (by kernel_rfl) (by kernel_rfl) rfl (fun W _ => by go_simp) hm ?_
      go_simp
      refine anyH_skip 18 rfl (by kernel_rfl) (by kernel_rfl) (by kernel_rfl) rfl hm ?_
      go_simp
      refine anyH_skip 19 rfl (by kernel_rfl) (by kernel_rfl) (by kernel_rfl) rfl hm ?_
      go_simp
      refine anyH_skip 20 rfl (by kernel_rfl) (by kernel_rfl) (by kernel_rfl) rfl hm ?_
      go_simp
      refine anyH_skip 21 rfl (by kernel_rfl) (by kernel_rfl) (by kernel_rfl) rfl hm ?_
      go_simp
      refine anyH_skip 22 rfl (by kernel_rfl) (by kernel_rfl) (by kernel_rfl) rfl hm ?_
      go_simp
      refine anyH_skip 23 rfl (by kernel_rfl) (by kernel_rfl) (by kernel_rfl) rfl hm ?_
      go_simp
      refine anyH_skip 24 rfl (by kernel_rfl) (by kernel_rfl) (by kernel_rfl) rfl hm ?_
      go_simp
      refine anyH_skip 25 rfl (by kernel_rfl) (by kernel_rfl) (by kernel_rfl) rfl hm ?_
      go_simp
      refine anyH_takeG 26 (v := .bool false) rfl (by kernel_rfl) (by kernel_rfl) (by kernel_rfl) rfl (fun W _ => by go_simp) hm ?_
      go_simp
      refine anyH_takeG 27 (v := .bool false) rfl (by kernel_rfl) (by kernel_rfl) (by kernel_rfl) rfl (fun W _ => by go_simp) hm ?_
      go_simp
      refine wpAnyH_done (by kernel_rfl) ?_ _
      simp only [endsIn]
      go_wp2_with fail
      go_roundw
      case rel => exact ⟨i + 1, by omega, by go_num, Sd.below ST6.out hm.below⟩
      case measure => simp [intOf]; omega
    · have hi64 : i = 64 := by omega
      subst hi64
      go_wp2_with fail
      go_at_call 18
      refine (crash_st (Sd.alloc ST6.out (u8s [9]) 5) [9] _ (by unfold Bytes; decide) (Sd.sl (Sd.alloc ST6.out (u8s [9]) 5) 0 rfl 1 1 rfl (Nat.le_refl _))).mono ?_
      rintro e w7 ⟨rfl, st'⟩
      replace st' := st'.tail
      obtain ⟨d7, hd7⟩ : ∃ x, x = d5.crash [9] := ⟨_, rfl⟩
      have Hd7 : Hid (d7.Hold X none 4) := by rw [hd7]; exact Hd5.out.crashN _
      have Sd7 : Hid (Sd w w7 g mb kv d7 [(qx, u8s X, 62), (qb, u8s bs, 42), (qa, u8s az, 42)]) := Sd.congr st' hd7.symm
      clear st' hd7 ST6
      go_wp2_with fail
      go_at_call 24
      refine (read_ok Sd7.out 0 (by omega) (by rw [Hd7.out.n]; decide) Hd7.out.calm.off).mono ?_
      rintro e w8 ⟨qy, rfl, st'⟩
      have HN8 : Hid (d7.now 0 = X) := Hd7.out.now
      have Sd8 : Hid (Sd w w8 g mb kv d7 [(qy, u8s X, 62), (qx, u8s X, 62), (qb, u8s bs, 42), (qa, u8s az, 42)]) := by have h := st'; rw [show d7.now (Int.toNat 0) = X from HN8.out] at h; exact h
      clear st' Sd7 HN8
      go_wp2_with (first
        | ((with_reducible refine at_opG (some 112) (.convert 28 9 (.tmp 111)) (some (6, true)) ?_); go_must (refine wpl_execG (.string (strOf X)) rfl (exec_tostr un_bs un_u8 un_strT X rfl (old_all ((Sd.mem Sd8.out).get 1 rfl) HXL.out (Nat.le_refl _))) ?_))
        | ((with_reducible refine at_opG (some 114) (.convert 28 9 (.tmp 113)) (some (6, true)) ?_); go_must (refine wpl_execG (.string (strOf X)) rfl (exec_tostr un_bs un_u8 un_strT X rfl (old_all ((Sd.mem Sd8.out).get 0 rfl) HXL.out (Nat.le_refl _))) ?_))
        | ((with_reducible refine at_opG (some 115) (.binOp .eql 9 (.tmp 112) (.tmp 114) 9) (some (6, true)) ?_); go_must (refine wpl_execG (.bool true) rfl (exec_eqsB (strOf X) (strOf X) true rfl rfl (beq_self_str _)) ?_)))
      go_ret
      exact ⟨rfl, (Sd.mem Sd8.out).below⟩
set_option maxHeartbeats 2000000 in
set_option maxRecDepth 100000 in
theorem keeps_flushW (az bs : List Int)  (hal : az.length = 64) (hbl : bs.length = 64) (hab : Bytes az) (hbb : Bytes bs) (w : World) :
    Calls Try.prog 4 #[.agg (u8s az).toArray, .agg (u8s bs).toArray, .bool true, .int .u8 255] w fun e w' => e = .returned (.bool true) ∧ Below w.heap.size w w' := by
  have hm := Mem.start w
  have HAL : Hid (az.length = 64) := hal
  have HBL : Hid (bs.length = 64) := hbl
  have HAB : Hid (Bytes az) := hab
  have HBB : Hid (Bytes bs) := hbb
  obtain ⟨X, hX⟩ : ∃ X, X = bs.take 64 ++ az.drop 64 := ⟨_, rfl⟩
  have HXL : Hid (X.length = 64) := by show _ = _; rw [hX, List.length_append, List.length_take, List.length_drop, HAL.out, HBL.out]; omega
  have HXX : Hid (∀ _ : Unit, X = bs.take 64 ++ az.drop 64) := fun _ => hX
  have HXG : Hid (∀ i : Nat, i < 64 → X.getD i 0 = if i < 64 then bs.getD i 0 else az.getD i 0) := by
    intro i hi
    have h1 := HBL.out
    have h2 := HAL.out
    rw [hX, List.getD_eq_getElem?_getD, List.getD_eq_getElem?_getD, List.getD_eq_getElem?_getD]
    by_cases hik : i < 64
    · rw [if_pos hik, List.getElem?_append_left (by simp; omega), List.getElem?_take, if_pos hik]
    · rw [if_neg hik, List.getElem?_append_right (by simp; omega), List.getElem?_drop]
      congr 2
      simp
      omega
  clear hX hal hbl hab hbb
  go_enter Try.func4, Try.ntmps4
  go_wp2_with (first
    | ((with_reducible refine at_op (some 4) (.box 42 (.tmp 0)) ?_); refine wpl_box (u8s az) rfl hm ?_; clear hm; intro wa qa hm)
    | ((with_reducible refine at_op (some 5) (.box 42 (.tmp 1)) ?_); refine wpl_box (u8s bs) rfl hm ?_; clear hm; intro wb qb hm)
    | (go_at_call 9; refine (known6_any _).mono ?_; rintro e wk ⟨rfl, hbk⟩; replace hm := hm.call hbk; clear hbk))
  go_at_call 10
  refine (new_any 2 _).mono ?_
  rintro e wn ⟨g, rfl, mb, kv, hd, hf, hb⟩
  have ST : Hid (Sd w wn g mb kv (Dk.new 2) [(qb, u8s bs, 42), (qa, u8s az, 42)]) := Sd.startR hm hb hd hf
  clear hd hf hb hm
  go_wp2_with (first
    | ((with_reducible refine at_op (some 20) (.slice 42 (.tmp 4) none none none) ?_); refine wpl_sla 64 un_b64 sz_u8 0 64 (by omega) (by omega) rfl (Or.inr ⟨rfl, rfl⟩) (Or.inr ⟨rfl, rfl⟩) ?_))
  go_at_call 12
  refine (write_ok ST.out 0 az _ (by omega) (by decide) rfl (by rw [HAL.out]; omega) HAB.out (num_new 2) (Sd.sl ST.out 1 rfl 64 64 HAL.out.symm (Nat.le_refl _))).mono ?_
  rintro e w1 ⟨rfl, st'⟩
  obtain ⟨d1, hd1⟩ : ∃ x, x = (Dk.new 2).step.put 0 (over ((Dk.new 2).now 0) az) := ⟨_, rfl⟩
  have Hd1 : Hid (d1.Hold zeroK (some az) 1) := by rw [hd1]; exact hold_new.write az HAL.out zeroK_length
  have Sd1 : Hid (Sd w w1 g mb kv d1 [(qb, u8s bs, 42), (qa, u8s az, 42)]) := Sd.congr st' hd1.symm
  clear st' hd1 ST
  go_wp2_with fail
  go_at_call 14
  refine (flush_ok Sd1.out Hd1.out.calm.step.off (Hd1.out.num (by omega))).mono ?_
  rintro e w2 ⟨rfl, st'⟩
  obtain ⟨d2, hd2⟩ : ∃ x, x = d1.step.flushed := ⟨_, rfl⟩
  have Hd2 : Hid (d2.Hold az none 2) := by rw [hd2]; exact Hd1.out.flush
  have Sd2 : Hid (Sd w w2 g mb kv d2 [(qb, u8s bs, 42), (qa, u8s az, 42)]) := Sd.congr st' hd2.symm
  clear st' hd2 Sd1 Hd1
  go_wp2_with (first
    | ((with_reducible refine at_opG (some 30) (.slice 42 (.tmp 5) none none none) (some (9, false)) ?_); go_must (refine wpl_execG (.slice (some ⟨qb, 0, none⟩) 64 64) rfl (exec_slaG 64 un_b64 sz_u8 0 64 (by omega) (by omega) rfl (Or.inr ⟨rfl, rfl⟩) (Or.inr ⟨rfl, rfl⟩)) ?_)))
  go_at_call 12
  refine (write_ok Sd2.out 0 bs _ (by omega) (by rw [Hd2.out.n]; decide) Hd2.out.calm.step.off (by rw [HBL.out]; omega) HBB.out (Hd2.out.num (by omega)) (Sd.sl Sd2.out 0 rfl 64 64 HBL.out.symm (Nat.le_refl _))).mono ?_
  rintro e w3 ⟨rfl, st'⟩
  obtain ⟨d3, hd3⟩ : ∃ x, x = d2.step.put 0 (over (d2.now 0) bs) := ⟨_, rfl⟩
  have Hd3 : Hid (d3.Hold az (some bs) 3) := by rw [hd3]; exact Hd2.out.write bs HBL.out HAL.out
  have Sd3 : Hid (Sd w w3 g mb kv d3 [(qb, u8s bs, 42), (qa, u8s az, 42)]) := Sd.congr st' hd3.symm
  clear st' hd3 Sd2 Hd2
  go_wp2_with fail
  go_at_call 14
  refine (flush_ok Sd3.out Hd3.out.calm.step.off (Hd3.out.num (by omega))).mono ?_
  rintro e w4 ⟨rfl, st'⟩
  obtain ⟨d4, hd4⟩ : ∃ x, x = d3.step.flushed := ⟨_, rfl⟩
  have Hd4 : Hid (d4.Hold bs none 4) := by rw [hd4]; exact Hd3.out.flush
  have Sd4 : Hid (Sd w w4 g mb kv d4 [(qb, u8s bs, 42), (qa, u8s az, 42)]) := Sd.congr st' hd4.symm
  clear st' hd4 Sd3 Hd3
  go_wp2_with fail
  go_at_call 18
  refine (crash_st (Sd.alloc Sd4.out (u8s [255, 255]) 5) [255, 255] _ (by intro y hy; simp at hy; omega) (Sd.sl (Sd.alloc Sd4.out (u8s [255, 255]) 5) 0 rfl 2 2 rfl (Nat.le_refl _))).mono ?_
  rintro e w5 ⟨rfl, st'⟩
  replace st' := st'.tail
  obtain ⟨d5, hd5⟩ : ∃ x, x = d4.crash [255, 255] := ⟨_, rfl⟩
  have Hd5 : Hid (d5.Hold X none 4) := by rw [hd5]; exact (show (bs : List Int) = X by rw [HXX.out (), List.take_of_length_le (by rw [HBL.out]; omega), List.drop_of_length_le (by rw [HAL.out]; omega), List.append_nil]) ▸ Hd4.out.crashN _
  have Sd5 : Hid (Sd w w5 g mb kv d5 [(qb, u8s bs, 42), (qa, u8s az, 42)]) := Sd.congr st' hd5.symm
  clear st' hd5 Sd4 Hd4
  go_wp2_with fail
  go_at_call 24
  refine (read_ok Sd5.out 0 (by omega) (by rw [Hd5.out.n]; decide) Hd5.out.calm.off).mono ?_
  rintro e w6 ⟨qx, rfl, st'⟩
  have HN6 : Hid (d5.now 0 = X) := Hd5.out.now
  have Sd6 : Hid (Sd w w6 g mb kv d5 [(qx, u8s X, 62), (qb, u8s bs, 42), (qa, u8s az, 42)]) := by rw [← HN6.out]; exact st'
  clear st' Sd5 HN6
  go_wp2_with fail
  go_loopw [13] (fun vi wr => ∃ i : Nat, i ≤ 64 ∧ vi = .int .i64 (i : Int) ∧ Sd w wr g mb kv d5 [(qx, u8s X, 62), (qb, u8s bs, 42), (qa, u8s az, 42)]) (fun vi _ => 64 - (intOf vi).toNat)
  case atStart => exact ⟨0, by omega, rfl, Sd6.out⟩
  case round =>
    obtain ⟨i, hi, rfl, st'⟩ := hrel
    have ST6 : Hid (Sd w wr g mb kv d5 [(qx, u8s X, 62), (qb, u8s bs, 42), (qa, u8s az, 42)]) := st'
    clear st' Sd6
    by_cases hlt : i < 64
    · have hlt2 : (i : Int) < 64 := by omega
      have hik : i < 64 := hlt
      obtain ⟨x, hx⟩ : ∃ x, x = bs.getD i 0 := ⟨_, rfl⟩
      have cx : wr.cell? ⟨qx, i, none⟩ = some (.int .u8 x) := by rw [(Sd.mem ST6.out).cell 0 rfl, u8s_get _ _ (by rw [HXL.out]; exact hlt), HXG.out i hlt, if_pos hik, hx]
      have cb : wr.cell? ⟨qb, i, none⟩ = some (.int .u8 x) := by rw [(Sd.mem ST6.out).cell 1 rfl, u8s_get _ _ (by rw [HBL.out]; exact hlt), hx]
      have HCX : Hid (∀ W, Mem wr [] W [] → W.cell? ⟨qx, i, none⟩ = some (.int .u8 x)) := fun W hW => (hW.old (p := ⟨qx, i, none⟩) ((Sd.mem ST6.out).get 0 rfl).lt (by simp)).trans cx
      have HCY : Hid (∀ W, Mem wr [] W [] → W.cell? ⟨qb, i, none⟩ = some (.int .u8 x)) := fun W hW => (hW.old (p := ⟨qb, i, none⟩) ((Sd.mem ST6.out).get 1 rfl).lt (by simp)).trans cb
      have AX2 : True := trivial
      clear hx cx cb
      go_wp2_with fail
      have hm := Mem.start wr
      refine wp_ends0 ?_
      refine anyH_start (T := fun W => Mem wr [] W []) (by kernel_rfl) hm ?_
      clear hm
      intro w9 hm
      refine anyH_takeG 0 (v := .int .i64 (i : Int)) rfl (by kernel_rfl) (by kernel_rfl) (by kernel_rfl) rfl (fun W _ => by go_simp) hm ?_
      go_simp
      refine anyH_takeG 1 (v := .int .i64 (64)) rfl (by kernel_rfl) (by kernel_rfl) (by kernel_rfl) rfl (fun W _ => by go_simp) hm ?_
      go_simp
      refine anyH_takeG 2 (v := .bool true) rfl (by kernel_rfl) (by kernel_rfl) (by kernel_rfl) rfl (fun W _ => by go_simp) hm ?_
      go_simp
      refine anyH_takeG 3 (v := .bool true) rfl (by kernel_rfl) (by kernel_rfl) (by kernel_rfl) rfl (fun W _ => by go_simp) hm ?_
      go_simp
      refine anyH_takeG 4 (v := .slice (some ⟨qx, 0, none⟩) 64 64) rfl (by kernel_rfl) (by kernel_rfl) (by kernel_rfl) rfl (fun W _ => by go_simp) hm ?_
      go_simp
      refine anyH_takeG 5 (v := .int .i64 (i : Int)) rfl (by kernel_rfl) (by kernel_rfl) (by kernel_rfl) rfl (fun W _ => by go_simp) hm ?_
      go_simp
      refine anyH_takeG 6 (v := .pointer (some ⟨qx, i, none⟩)) rfl (by kernel_rfl) (by kernel_rfl) (by kernel_rfl) rfl (fun W _ => by go_simp) hm ?_
      go_simp
      refine anyH_takeG 7 (v := .int .u8 x) rfl (by kernel_rfl) (by kernel_rfl) (by kernel_rfl) rfl (fun W hW => exec_ldxG (.int .u8 x) (HCX.out W hW) rfl ag_u8) hm ?_
      go_simp
      refine anyH_takeG 8 (v := .int .i64 (i : Int)) rfl (by kernel_rfl) (by kernel_rfl) (by kernel_rfl) rfl (fun W _ => by go_simp) hm ?_
      go_simp
      refine anyH_takeG 9 (v := .pointer (some ⟨qb, i, none⟩)) rfl (by kernel_rfl) (by kernel_rfl) (by kernel_rfl) rfl (fun W _ => by go_simp) hm ?_
      go_simp
      refine anyH_takeG 10 (v := .int .u8 x) rfl (by kernel_rfl) (by kernel_rfl) (by kernel_rfl) rfl (fun W hW => exec_ldxG (.int .u8 x) (HCY.out W hW) rfl ag_u8) hm ?_
      go_simp
      refine anyH_takeG 11 (v := .bool false) rfl (by kernel_rfl) (by kernel_rfl) (by kernel_rfl) rfl (fun W _ => by go_simp) hm ?_
      go_simp
      refine anyH_takeG 12 (v := .bool false) rfl (by kernel_rfl) (by kernel_rfl) (by kernel_rfl) rfl (fun W _ => by go_simp) hm ?_
      go_simp
      refine anyH_takeG 13 (v := .bool false) rfl (by kernel_rfl) (by kernel_rfl) (by kernel_rfl) rfl (fun W _ => by go_simp) hm ?_
      go_simp
      refine anyH_takeG 14 (v := .int .i64 (i : Int)) rfl (by kernel_rfl) (by kernel_rfl) (by kernel_rfl) rfl (fun W _ => by go_simp) hm ?_
      go_simp
      refine anyH_takeG 15 (v := .int .i64 (64)) rfl (by kernel_rfl) (by kernel_rfl) (by kernel_rfl) rfl (fun W _ => by go_simp) hm ?_
      go_simp
      refine anyH_takeG 16 (v := .bool false) rfl (by kernel_rfl) (by kernel_rfl) (by kernel_rfl) rfl (fun W _ => by go_simp) hm ?_
      go_simp
      refine anyH_takeG 17 (v := .bool false) rfl (by kernel_rfl) (by kernel_rfl) (by kernel_rfl) rfl (fun W _ => by go_simp) hm ?_
      go_simp
      refine anyH_skip 18 rfl (by kernel_rfl) (by kernel_rfl) (by kernel_rfl) rfl hm ?_
      go_simp
      refine anyH_skip 19 rfl (by kernel_rfl) (by kernel_rfl) (by kernel_rfl) rfl hm ?_
      go_simp
      refine anyH_skip 20 rfl (by kernel_rfl) (by kernel_rfl) (by kernel_rfl) rfl hm ?_
      go_simp
      refine anyH_skip 21 rfl (by kernel_rfl) (by kernel_rfl) (by kernel_rfl) rfl hm ?_
      go_simp
      refine anyH_skip 22 rfl (by kernel_rfl) (by kernel_rfl) (by kernel_rfl) rfl hm ?_
      go_simp
      refine anyH_skip 23 rfl (by kernel_rfl) (by kernel_rfl) (by kernel_rfl) rfl hm ?_
      go_simp
      refine anyH_skip 24 rfl (by kernel_rfl) (by kernel_rfl) (by kernel_rfl) rfl hm ?_
      go_simp
      refine anyH_skip 25 rfl (by kernel_rfl) (by kernel_rfl) (by kernel_rfl) rfl hm ?_
      go_simp
      refine anyH_takeG 26 (v := .bool false) rfl (by kernel_rfl) (by kernel_rfl) (by kernel_rfl) rfl (fun W _ => by go_simp) hm ?_
      go_simp
      refine anyH_takeG 27 (v := .bool false) rfl (by kernel_rfl) (by kernel_rfl) (by kernel_rfl) rfl (fun W _ => by go_simp) hm ?_
      go_simp
      refine wpAnyH_done (by kernel_rfl) ?_ _
      simp only [endsIn]
      go_wp2_with fail
      go_roundw
      case rel => exact ⟨i + 1, by omega, by go_num, Sd.below ST6.out hm.below⟩
      case measure => simp [intOf]; omega
    · have hi64 : i = 64 := by omega
      subst hi64
      go_wp2_with fail
      go_at_call 18
      refine (crash_st (Sd.alloc ST6.out (u8s [9]) 5) [9] _ (by unfold Bytes; decide) (Sd.sl (Sd.alloc ST6.out (u8s [9]) 5) 0 rfl 1 1 rfl (Nat.le_refl _))).mono ?_
      rintro e w7 ⟨rfl, st'⟩
      replace st' := st'.tail
      obtain ⟨d7, hd7⟩ : ∃ x, x = d5.crash [9] := ⟨_, rfl⟩
      have Hd7 : Hid (d7.Hold X none 4) := by rw [hd7]; exact Hd5.out.crashN _
      have Sd7 : Hid (Sd w w7 g mb kv d7 [(qx, u8s X, 62), (qb, u8s bs, 42), (qa, u8s az, 42)]) := Sd.congr st' hd7.symm
      clear st' hd7 ST6
      go_wp2_with fail
      go_at_call 24
      refine (read_ok Sd7.out 0 (by omega) (by rw [Hd7.out.n]; decide) Hd7.out.calm.off).mono ?_
      rintro e w8 ⟨qy, rfl, st'⟩
      have HN8 : Hid (d7.now 0 = X) := Hd7.out.now
      have Sd8 : Hid (Sd w w8 g mb kv d7 [(qy, u8s X, 62), (qx, u8s X, 62), (qb, u8s bs, 42), (qa, u8s az, 42)]) := by have h := st'; rw [show d7.now (Int.toNat 0) = X from HN8.out] at h; exact h
      clear st' Sd7 HN8
      go_wp2_with (first
        | ((with_reducible refine at_opG (some 112) (.convert 28 9 (.tmp 111)) (some (6, true)) ?_); go_must (refine wpl_execG (.string (strOf X)) rfl (exec_tostr un_bs un_u8 un_strT X rfl (old_all ((Sd.mem Sd8.out).get 1 rfl) HXL.out (Nat.le_refl _))) ?_))
        | ((with_reducible refine at_opG (some 114) (.convert 28 9 (.tmp 113)) (some (6, true)) ?_); go_must (refine wpl_execG (.string (strOf X)) rfl (exec_tostr un_bs un_u8 un_strT X rfl (old_all ((Sd.mem Sd8.out).get 0 rfl) HXL.out (Nat.le_refl _))) ?_))
        | ((with_reducible refine at_opG (some 115) (.binOp .eql 9 (.tmp 112) (.tmp 114) 9) (some (6, true)) ?_); go_must (refine wpl_execG (.bool true) rfl (exec_eqsB (strOf X) (strOf X) true rfl rfl (beq_self_str _)) ?_)))
      go_ret
      exact ⟨rfl, (Sd.mem Sd8.out).below⟩
set_option maxHeartbeats 2000000 in
set_option maxRecDepth 100000 in
theorem keeps_whole (az bs : List Int)  (hal : az.length = 64) (hbl : bs.length = 64) (hab : Bytes az) (hbb : Bytes bs) (w : World) :
    Calls Try.prog 4 #[.agg (u8s az).toArray, .agg (u8s bs).toArray, .bool false, .int .u8 255] w fun e w' => e = .returned (.bool true) ∧ Below w.heap.size w w' := by
  have hm := Mem.start w
  have HAL : Hid (az.length = 64) := hal
  have HBL : Hid (bs.length = 64) := hbl
  have HAB : Hid (Bytes az) := hab
  have HBB : Hid (Bytes bs) := hbb
  obtain ⟨X, hX⟩ : ∃ X, X = bs.take 64 ++ az.drop 64 := ⟨_, rfl⟩
  have HXL : Hid (X.length = 64) := by show _ = _; rw [hX, List.length_append, List.length_take, List.length_drop, HAL.out, HBL.out]; omega
  have HXX : Hid (∀ _ : Unit, X = bs.take 64 ++ az.drop 64) := fun _ => hX
  have HXG : Hid (∀ i : Nat, i < 64 → X.getD i 0 = if i < 64 then bs.getD i 0 else az.getD i 0) := by
    intro i hi
    have h1 := HBL.out
    have h2 := HAL.out
    rw [hX, List.getD_eq_getElem?_getD, List.getD_eq_getElem?_getD, List.getD_eq_getElem?_getD]
    by_cases hik : i < 64
    · rw [if_pos hik, List.getElem?_append_left (by simp; omega), List.getElem?_take, if_pos hik]
    · rw [if_neg hik, List.getElem?_append_right (by simp; omega), List.getElem?_drop]
      congr 2
      simp
      omega
  clear hX hal hbl hab hbb
  go_enter Try.func4, Try.ntmps4
  go_wp2_with (first
    | ((with_reducible refine at_op (some 4) (.box 42 (.tmp 0)) ?_); refine wpl_box (u8s az) rfl hm ?_; clear hm; intro wa qa hm)
    | ((with_reducible refine at_op (some 5) (.box 42 (.tmp 1)) ?_); refine wpl_box (u8s bs) rfl hm ?_; clear hm; intro wb qb hm)
    | (go_at_call 9; refine (known6_any _).mono ?_; rintro e wk ⟨rfl, hbk⟩; replace hm := hm.call hbk; clear hbk))
  go_at_call 10
  refine (new_any 2 _).mono ?_
  rintro e wn ⟨g, rfl, mb, kv, hd, hf, hb⟩
  have ST : Hid (Sd w wn g mb kv (Dk.new 2) [(qb, u8s bs, 42), (qa, u8s az, 42)]) := Sd.startR hm hb hd hf
  clear hd hf hb hm
  go_wp2_with (first
    | ((with_reducible refine at_op (some 20) (.slice 42 (.tmp 4) none none none) ?_); refine wpl_sla 64 un_b64 sz_u8 0 64 (by omega) (by omega) rfl (Or.inr ⟨rfl, rfl⟩) (Or.inr ⟨rfl, rfl⟩) ?_))
  go_at_call 12
  refine (write_ok ST.out 0 az _ (by omega) (by decide) rfl (by rw [HAL.out]; omega) HAB.out (num_new 2) (Sd.sl ST.out 1 rfl 64 64 HAL.out.symm (Nat.le_refl _))).mono ?_
  rintro e w1 ⟨rfl, st'⟩
  obtain ⟨d1, hd1⟩ : ∃ x, x = (Dk.new 2).step.put 0 (over ((Dk.new 2).now 0) az) := ⟨_, rfl⟩
  have Hd1 : Hid (d1.Hold zeroK (some az) 1) := by rw [hd1]; exact hold_new.write az HAL.out zeroK_length
  have Sd1 : Hid (Sd w w1 g mb kv d1 [(qb, u8s bs, 42), (qa, u8s az, 42)]) := Sd.congr st' hd1.symm
  clear st' hd1 ST
  go_wp2_with fail
  go_at_call 14
  refine (flush_ok Sd1.out Hd1.out.calm.step.off (Hd1.out.num (by omega))).mono ?_
  rintro e w2 ⟨rfl, st'⟩
  obtain ⟨d2, hd2⟩ : ∃ x, x = d1.step.flushed := ⟨_, rfl⟩
  have Hd2 : Hid (d2.Hold az none 2) := by rw [hd2]; exact Hd1.out.flush
  have Sd2 : Hid (Sd w w2 g mb kv d2 [(qb, u8s bs, 42), (qa, u8s az, 42)]) := Sd.congr st' hd2.symm
  clear st' hd2 Sd1 Hd1
  go_wp2_with (first
    | ((with_reducible refine at_opG (some 30) (.slice 42 (.tmp 5) none none none) (some (9, false)) ?_); go_must (refine wpl_execG (.slice (some ⟨qb, 0, none⟩) 64 64) rfl (exec_slaG 64 un_b64 sz_u8 0 64 (by omega) (by omega) rfl (Or.inr ⟨rfl, rfl⟩) (Or.inr ⟨rfl, rfl⟩)) ?_)))
  go_at_call 12
  refine (write_ok Sd2.out 0 bs _ (by omega) (by rw [Hd2.out.n]; decide) Hd2.out.calm.step.off (by rw [HBL.out]; omega) HBB.out (Hd2.out.num (by omega)) (Sd.sl Sd2.out 0 rfl 64 64 HBL.out.symm (Nat.le_refl _))).mono ?_
  rintro e w3 ⟨rfl, st'⟩
  obtain ⟨d3, hd3⟩ : ∃ x, x = d2.step.put 0 (over (d2.now 0) bs) := ⟨_, rfl⟩
  have Hd3 : Hid (d3.Hold az (some bs) 3) := by rw [hd3]; exact Hd2.out.write bs HBL.out HAL.out
  have Sd3 : Hid (Sd w w3 g mb kv d3 [(qb, u8s bs, 42), (qa, u8s az, 42)]) := Sd.congr st' hd3.symm
  clear st' hd3 Sd2 Hd2
  go_wp2_with fail
  go_at_call 18
  refine (crash_st (Sd.alloc Sd3.out (u8s [255, 255]) 5) [255, 255] _ (by intro y hy; simp at hy; omega) (Sd.sl (Sd.alloc Sd3.out (u8s [255, 255]) 5) 0 rfl 2 2 rfl (Nat.le_refl _))).mono ?_
  rintro e w5 ⟨rfl, st'⟩
  replace st' := st'.tail
  obtain ⟨d5, hd5⟩ : ∃ x, x = d3.crash [255, 255] := ⟨_, rfl⟩
  have Hd5 : Hid (d5.Hold X none 3) := by rw [hd5]; exact (show tornOf az bs ([255, 255].getD 0 0) = X by rw [HXX.out ()]; show bs.take (spared 255) ++ az.drop (spared 255) = _; rw [show spared 255 = 64 from rfl]) ▸ Hd3.out.crashS _
  have Sd5 : Hid (Sd w w5 g mb kv d5 [(qb, u8s bs, 42), (qa, u8s az, 42)]) := Sd.congr st' hd5.symm
  clear st' hd5 Sd3 Hd3
  go_wp2_with fail
  go_at_call 24
  refine (read_ok Sd5.out 0 (by omega) (by rw [Hd5.out.n]; decide) Hd5.out.calm.off).mono ?_
  rintro e w6 ⟨qx, rfl, st'⟩
  have HN6 : Hid (d5.now 0 = X) := Hd5.out.now
  have Sd6 : Hid (Sd w w6 g mb kv d5 [(qx, u8s X, 62), (qb, u8s bs, 42), (qa, u8s az, 42)]) := by rw [← HN6.out]; exact st'
  clear st' Sd5 HN6
  go_wp2_with fail
  go_loopw [13] (fun vi wr => ∃ i : Nat, i ≤ 64 ∧ vi = .int .i64 (i : Int) ∧ Sd w wr g mb kv d5 [(qx, u8s X, 62), (qb, u8s bs, 42), (qa, u8s az, 42)]) (fun vi _ => 64 - (intOf vi).toNat)
  case atStart => exact ⟨0, by omega, rfl, Sd6.out⟩
  case round =>
    obtain ⟨i, hi, rfl, st'⟩ := hrel
    have ST6 : Hid (Sd w wr g mb kv d5 [(qx, u8s X, 62), (qb, u8s bs, 42), (qa, u8s az, 42)]) := st'
    clear st' Sd6
    by_cases hlt : i < 64
    · have hlt2 : (i : Int) < 64 := by omega
      have hik : i < 64 := hlt
      obtain ⟨x, hx⟩ : ∃ x, x = bs.getD i 0 := ⟨_, rfl⟩
      have cx : wr.cell? ⟨qx, i, none⟩ = some (.int .u8 x) := by rw [(Sd.mem ST6.out).cell 0 rfl, u8s_get _ _ (by rw [HXL.out]; exact hlt), HXG.out i hlt, if_pos hik, hx]
      have cb : wr.cell? ⟨qb, i, none⟩ = some (.int .u8 x) := by rw [(Sd.mem ST6.out).cell 1 rfl, u8s_get _ _ (by rw [HBL.out]; exact hlt), hx]
      have HCX : Hid (∀ W, Mem wr [] W [] → W.cell? ⟨qx, i, none⟩ = some (.int .u8 x)) := fun W hW => (hW.old (p := ⟨qx, i, none⟩) ((Sd.mem ST6.out).get 0 rfl).lt (by simp)).trans cx
      have HCY : Hid (∀ W, Mem wr [] W [] → W.cell? ⟨qb, i, none⟩ = some (.int .u8 x)) := fun W hW => (hW.old (p := ⟨qb, i, none⟩) ((Sd.mem ST6.out).get 1 rfl).lt (by simp)).trans cb
      have AX2 : True := trivial
      clear hx cx cb
      go_wp2_with fail
      have hm := Mem.start wr
      refine wp_ends0 ?_
      refine anyH_start (T := fun W => Mem wr [] W []) (by kernel_rfl) hm ?_
      clear hm
      intro w9 hm
      refine anyH_takeG 0 (v := .int .i64 (i : Int)) rfl (by kernel_rfl) (by kernel_rfl) (by kernel_rfl) rfl (fun W _ => by go_simp) hm ?_
      go_simp
      refine anyH_takeG 1 (v := .int .i64 (64)) rfl (by kernel_rfl) (by kernel_rfl) (by kernel_rfl) rfl (fun W _ => by go_simp) hm ?_
      go_simp
      refine anyH_takeG 2 (v := .bool true) rfl (by kernel_rfl) (by kernel_rfl) (by kernel_rfl) rfl (fun W _ => by go_simp) hm ?_
      go_simp
      refine anyH_takeG 3 (v := .bool true) rfl (by kernel_rfl) (by kernel_rfl) (by kernel_rfl) rfl (fun W _ => by go_simp) hm ?_
      go_simp
      refine anyH_takeG 4 (v := .slice (some ⟨qx, 0, none⟩) 64 64) rfl (by kernel_rfl) (by kernel_rfl) (by kernel_rfl) rfl (fun W _ => by go_simp) hm ?_
      go_simp
      refine anyH_takeG 5 (v := .int .i64 (i : Int)) rfl (by kernel_rfl) (by kernel_rfl) (by kernel_rfl) rfl (fun W _ => by go_simp) hm ?_
      go_simp
      refine anyH_takeG 6 (v := .pointer (some ⟨qx, i, none⟩)) rfl (by kernel_rfl) (by kernel_rfl) (by kernel_rfl) rfl (fun W _ => by go_simp) hm ?_
      go_simp
      refine anyH_takeG 7 (v := .int .u8 x) rfl (by kernel_rfl) (by kernel_rfl) (by kernel_rfl) rfl (fun W hW => exec_ldxG (.int .u8 x) (HCX.out W hW) rfl ag_u8) hm ?_
      go_simp
      refine anyH_takeG 8 (v := .int .i64 (i : Int)) rfl (by kernel_rfl) (by kernel_rfl) (by kernel_rfl) rfl (fun W _ => by go_simp) hm ?_
      go_simp
      refine anyH_takeG 9 (v := .pointer (some ⟨qb, i, none⟩)) rfl (by kernel_rfl) (by kernel_rfl) (by kernel_rfl) rfl (fun W _ => by go_simp) hm ?_
      go_simp
      refine anyH_takeG 10 (v := .int .u8 x) rfl (by kernel_rfl) (by kernel_rfl) (by kernel_rfl) rfl (fun W hW => exec_ldxG (.int .u8 x) (HCY.out W hW) rfl ag_u8) hm ?_
      go_simp
      refine anyH_takeG 11 (v := .bool false) rfl (by kernel_rfl) (by kernel_rfl) (by kernel_rfl) rfl (fun W _ => by go_simp) hm ?_
      go_simp
      refine anyH_takeG 12 (v := .bool false) rfl (by kernel_rfl) (by kernel_rfl) (by kernel_rfl) rfl (fun W _ => by go_simp) hm ?_
      go_simp
      refine anyH_takeG 13 (v := .bool false) rfl (by kernel_rfl) (by kernel_rfl) (by kernel_rfl) rfl (fun W _ => by go_simp) hm ?_
      go_simp
      refine anyH_takeG 14 (v := .int .i64 (i : Int)) rfl (by kernel_rfl) (by kernel_rfl) (by kernel_rfl) rfl (fun W _ => by go_simp) hm ?_
      go_simp
      refine anyH_takeG 15 (v := .int .i64 (64)) rfl (by kernel_rfl) (by kernel_rfl) (by kernel_rfl) rfl (fun W _ => by go_simp) hm ?_
      go_simp
      refine anyH_takeG 16 (v := .bool false) rfl (by kernel_rfl) (by kernel_rfl) (by kernel_rfl) rfl (fun W _ => by go_simp) hm ?_
      go_simp
      refine anyH_takeG 17 (v := .bool false) rfl (by kernel_rfl) (by kernel_rfl) (by kernel_rfl) rfl (fun W _ => by go_simp) hm ?_
      go_simp
      refine anyH_skip 18 rfl (by kernel_rfl) (by kernel_rfl) (by kernel_rfl) rfl hm ?_
      go_simp
      refine anyH_skip 19 rfl (by kernel_rfl) (by kernel_rfl) (by kernel_rfl) rfl hm ?_
      go_simp
      refine anyH_skip 20 rfl (by kernel_rfl) (by kernel_rfl) (by kernel_rfl) rfl hm ?_
      go_simp
      refine anyH_skip 21 rfl (by kernel_rfl) (by kernel_rfl) (by kernel_rfl) rfl hm ?_
      go_simp
      refine anyH_skip 22 rfl (by kernel_rfl) (by kernel_rfl) (by kernel_rfl) rfl hm ?_
      go_simp
      refine anyH_skip 23 rfl (by kernel_rfl) (by kernel_rfl) (by kernel_rfl) rfl hm ?_
      go_simp
      refine anyH_skip 24 rfl (by kernel_rfl) (by kernel_rfl) (by kernel_rfl) rfl hm ?_
      go_simp
      refine anyH_skip 25 rfl (by kernel_rfl) (by kernel_rfl) (by kernel_rfl) rfl hm ?_
      go_simp
      refine anyH_takeG 26 (v := .bool false) rfl (by kernel_rfl) (by kernel_rfl) (by kernel_rfl) rfl (fun W _ => by go_simp) hm ?_
      go_simp
      refine anyH_takeG 27 (v := .bool false) rfl (by kernel_rfl) (by kernel_rfl) (by kernel_rfl) rfl (fun W _ => by go_simp) hm ?_
      go_simp
      refine wpAnyH_done (by kernel_rfl) ?_ _
      simp only [endsIn]
      go_wp2_with fail
      go_roundw
      case rel => exact ⟨i + 1, by omega, by go_num, Sd.below ST6.out hm.below⟩
      case measure => simp [intOf]; omega
    · have hi64 : i = 64 := by omega
      subst hi64
      go_wp2_with fail
      go_at_call 18
      refine (crash_st (Sd.alloc ST6.out (u8s [9]) 5) [9] _ (by unfold Bytes; decide) (Sd.sl (Sd.alloc ST6.out (u8s [9]) 5) 0 rfl 1 1 rfl (Nat.le_refl _))).mono ?_
      rintro e w7 ⟨rfl, st'⟩
      replace st' := st'.tail
      obtain ⟨d7, hd7⟩ : ∃ x, x = d5.crash [9] := ⟨_, rfl⟩
      have Hd7 : Hid (d7.Hold X none 3) := by rw [hd7]; exact Hd5.out.crashN _
      have Sd7 : Hid (Sd w w7 g mb kv d7 [(qx, u8s X, 62), (qb, u8s bs, 42), (qa, u8s az, 42)]) := Sd.congr st' hd7.symm
      clear st' hd7 ST6
      go_wp2_with fail
      go_at_call 24
      refine (read_ok Sd7.out 0 (by omega) (by rw [Hd7.out.n]; decide) Hd7.out.calm.off).mono ?_
      rintro e w8 ⟨qy, rfl, st'⟩
      have HN8 : Hid (d7.now 0 = X) := Hd7.out.now
      have Sd8 : Hid (Sd w w8 g mb kv d7 [(qy, u8s X, 62), (qx, u8s X, 62), (qb, u8s bs, 42), (qa, u8s az, 42)]) := by have h := st'; rw [show d7.now (Int.toNat 0) = X from HN8.out] at h; exact h
      clear st' Sd7 HN8
      go_wp2_with (first
        | ((with_reducible refine at_opG (some 112) (.convert 28 9 (.tmp 111)) (some (6, true)) ?_); go_must (refine wpl_execG (.string (strOf X)) rfl (exec_tostr un_bs un_u8 un_strT X rfl (old_all ((Sd.mem Sd8.out).get 1 rfl) HXL.out (Nat.le_refl _))) ?_))
        | ((with_reducible refine at_opG (some 114) (.convert 28 9 (.tmp 113)) (some (6, true)) ?_); go_must (refine wpl_execG (.string (strOf X)) rfl (exec_tostr un_bs un_u8 un_strT X rfl (old_all ((Sd.mem Sd8.out).get 0 rfl) HXL.out (Nat.le_refl _))) ?_))
        | ((with_reducible refine at_opG (some 115) (.binOp .eql 9 (.tmp 112) (.tmp 114) 9) (some (6, true)) ?_); go_must (refine wpl_execG (.bool true) rfl (exec_eqsB (strOf X) (strOf X) true rfl rfl (beq_self_str _)) ?_)))
      go_ret
      exact ⟨rfl, (Sd.mem Sd8.out).below⟩
set_option maxHeartbeats 2000000 in
set_option maxRecDepth 100000 in
theorem keeps_part (az bs : List Int) (c : Int) (hc : 0 ≤ c ∧ c ≤ 255) (h255 : c ≠ 255) (hal : az.length = 64) (hbl : bs.length = 64) (hab : Bytes az) (hbb : Bytes bs) (w : World) :
    Calls Try.prog 4 #[.agg (u8s az).toArray, .agg (u8s bs).toArray, .bool false, .int .u8 c] w fun e w' => e = .returned (.bool true) ∧ Below w.heap.size w w' := by
  have hm := Mem.start w
  have HAL : Hid (az.length = 64) := hal
  have HBL : Hid (bs.length = 64) := hbl
  have HAB : Hid (Bytes az) := hab
  have HBB : Hid (Bytes bs) := hbb
  obtain ⟨hc0, hc1⟩ := hc
  have hne : (c == 255) = false := by simpa using h255
  obtain ⟨K, hK⟩ : ∃ K : Nat, K = (c % 64).toNat := ⟨_, rfl⟩
  have HKE : Hid (∀ _ : Unit, c % 64 = (K : Int)) := fun _ => by omega
  have hK64 : K < 64 := by omega
  have HSPC : Hid (∀ _ : Unit, spared c = K) := fun _ => by unfold spared; rw [if_neg h255, hK]
  clear hK h255
  obtain ⟨X, hX⟩ : ∃ X, X = bs.take K ++ az.drop K := ⟨_, rfl⟩
  have HXL : Hid (X.length = 64) := by show _ = _; rw [hX, List.length_append, List.length_take, List.length_drop, HAL.out, HBL.out]; omega
  have HXX : Hid (∀ _ : Unit, X = bs.take K ++ az.drop K) := fun _ => hX
  have HXG : Hid (∀ i : Nat, i < 64 → X.getD i 0 = if i < K then bs.getD i 0 else az.getD i 0) := by
    intro i hi
    have h1 := HBL.out
    have h2 := HAL.out
    rw [hX, List.getD_eq_getElem?_getD, List.getD_eq_getElem?_getD, List.getD_eq_getElem?_getD]
    by_cases hik : i < K
    · rw [if_pos hik, List.getElem?_append_left (by simp; omega), List.getElem?_take, if_pos hik]
    · rw [if_neg hik, List.getElem?_append_right (by simp; omega), List.getElem?_drop]
      congr 2
      simp
      omega
  clear hX hal hbl hab hbb
  go_enter Try.func4, Try.ntmps4
  go_wp2_with (first
    | ((with_reducible refine at_op (some 4) (.box 42 (.tmp 0)) ?_); refine wpl_box (u8s az) rfl hm ?_; clear hm; intro wa qa hm)
    | ((with_reducible refine at_op (some 5) (.box 42 (.tmp 1)) ?_); refine wpl_box (u8s bs) rfl hm ?_; clear hm; intro wb qb hm)
    | (go_at_call 9; refine (known6_any _).mono ?_; rintro e wk ⟨rfl, hbk⟩; replace hm := hm.call hbk; clear hbk))
  go_at_call 10
  refine (new_any 2 _).mono ?_
  rintro e wn ⟨g, rfl, mb, kv, hd, hf, hb⟩
  have ST : Hid (Sd w wn g mb kv (Dk.new 2) [(qb, u8s bs, 42), (qa, u8s az, 42)]) := Sd.startR hm hb hd hf
  clear hd hf hb hm
  go_wp2_with (first
    | ((with_reducible refine at_op (some 20) (.slice 42 (.tmp 4) none none none) ?_); refine wpl_sla 64 un_b64 sz_u8 0 64 (by omega) (by omega) rfl (Or.inr ⟨rfl, rfl⟩) (Or.inr ⟨rfl, rfl⟩) ?_))
  go_at_call 12
  refine (write_ok ST.out 0 az _ (by omega) (by decide) rfl (by rw [HAL.out]; omega) HAB.out (num_new 2) (Sd.sl ST.out 1 rfl 64 64 HAL.out.symm (Nat.le_refl _))).mono ?_
  rintro e w1 ⟨rfl, st'⟩
  obtain ⟨d1, hd1⟩ : ∃ x, x = (Dk.new 2).step.put 0 (over ((Dk.new 2).now 0) az) := ⟨_, rfl⟩
  have Hd1 : Hid (d1.Hold zeroK (some az) 1) := by rw [hd1]; exact hold_new.write az HAL.out zeroK_length
  have Sd1 : Hid (Sd w w1 g mb kv d1 [(qb, u8s bs, 42), (qa, u8s az, 42)]) := Sd.congr st' hd1.symm
  clear st' hd1 ST
  go_wp2_with fail
  go_at_call 14
  refine (flush_ok Sd1.out Hd1.out.calm.step.off (Hd1.out.num (by omega))).mono ?_
  rintro e w2 ⟨rfl, st'⟩
  obtain ⟨d2, hd2⟩ : ∃ x, x = d1.step.flushed := ⟨_, rfl⟩
  have Hd2 : Hid (d2.Hold az none 2) := by rw [hd2]; exact Hd1.out.flush
  have Sd2 : Hid (Sd w w2 g mb kv d2 [(qb, u8s bs, 42), (qa, u8s az, 42)]) := Sd.congr st' hd2.symm
  clear st' hd2 Sd1 Hd1
  go_wp2_with (first
    | ((with_reducible refine at_opG (some 30) (.slice 42 (.tmp 5) none none none) (some (9, false)) ?_); go_must (refine wpl_execG (.slice (some ⟨qb, 0, none⟩) 64 64) rfl (exec_slaG 64 un_b64 sz_u8 0 64 (by omega) (by omega) rfl (Or.inr ⟨rfl, rfl⟩) (Or.inr ⟨rfl, rfl⟩)) ?_)))
  go_at_call 12
  refine (write_ok Sd2.out 0 bs _ (by omega) (by rw [Hd2.out.n]; decide) Hd2.out.calm.step.off (by rw [HBL.out]; omega) HBB.out (Hd2.out.num (by omega)) (Sd.sl Sd2.out 0 rfl 64 64 HBL.out.symm (Nat.le_refl _))).mono ?_
  rintro e w3 ⟨rfl, st'⟩
  obtain ⟨d3, hd3⟩ : ∃ x, x = d2.step.put 0 (over (d2.now 0) bs) := ⟨_, rfl⟩
  have Hd3 : Hid (d3.Hold az (some bs) 3) := by rw [hd3]; exact Hd2.out.write bs HBL.out HAL.out
  have Sd3 : Hid (Sd w w3 g mb kv d3 [(qb, u8s bs, 42), (qa, u8s az, 42)]) := Sd.congr st' hd3.symm
  clear st' hd3 Sd2 Hd2
  go_wp2_with fail
  go_at_call 18
  refine (crash_st (Sd.alloc Sd3.out (u8s [c, c]) 5) [c, c] _ (by intro y hy; simp at hy; omega) (Sd.sl (Sd.alloc Sd3.out (u8s [c, c]) 5) 0 rfl 2 2 rfl (Nat.le_refl _))).mono ?_
  rintro e w5 ⟨rfl, st'⟩
  replace st' := st'.tail
  obtain ⟨d5, hd5⟩ : ∃ x, x = d3.crash [c, c] := ⟨_, rfl⟩
  have Hd5 : Hid (d5.Hold X none 3) := by rw [hd5]; exact (show tornOf az bs ([c, c].getD 0 0) = X by rw [HXX.out ()]; show bs.take (spared c) ++ az.drop (spared c) = _; rw [show spared c = K from HSPC.out ()]) ▸ Hd3.out.crashS _
  have Sd5 : Hid (Sd w w5 g mb kv d5 [(qb, u8s bs, 42), (qa, u8s az, 42)]) := Sd.congr st' hd5.symm
  clear st' hd5 Sd3 Hd3
  go_wp2_with fail
  go_at_call 24
  refine (read_ok Sd5.out 0 (by omega) (by rw [Hd5.out.n]; decide) Hd5.out.calm.off).mono ?_
  rintro e w6 ⟨qx, rfl, st'⟩
  have HN6 : Hid (d5.now 0 = X) := Hd5.out.now
  have Sd6 : Hid (Sd w w6 g mb kv d5 [(qx, u8s X, 62), (qb, u8s bs, 42), (qa, u8s az, 42)]) := by rw [← HN6.out]; exact st'
  clear st' Sd5 HN6
  go_wp2_with fail
  go_loopw [13] (fun vi wr => ∃ i : Nat, i ≤ 64 ∧ vi = .int .i64 (i : Int) ∧ Sd w wr g mb kv d5 [(qx, u8s X, 62), (qb, u8s bs, 42), (qa, u8s az, 42)]) (fun vi _ => 64 - (intOf vi).toNat)
  case atStart => exact ⟨0, by omega, rfl, Sd6.out⟩
  case round =>
    obtain ⟨i, hi, rfl, st'⟩ := hrel
    have ST6 : Hid (Sd w wr g mb kv d5 [(qx, u8s X, 62), (qb, u8s bs, 42), (qa, u8s az, 42)]) := st'
    clear st' Sd6
    by_cases hlt : i < 64
    · have hlt2 : (i : Int) < 64 := by omega
      by_cases hik : i < K
      · skip
        obtain ⟨x, hx⟩ : ∃ x, x = bs.getD i 0 := ⟨_, rfl⟩
        have cx : wr.cell? ⟨qx, i, none⟩ = some (.int .u8 x) := by rw [(Sd.mem ST6.out).cell 0 rfl, u8s_get _ _ (by rw [HXL.out]; exact hlt), HXG.out i hlt, if_pos hik, hx]
        have cb : wr.cell? ⟨qb, i, none⟩ = some (.int .u8 x) := by rw [(Sd.mem ST6.out).cell 1 rfl, u8s_get _ _ (by rw [HBL.out]; exact hlt), hx]
        have HCX : Hid (∀ W, Mem wr [] W [] → W.cell? ⟨qx, i, none⟩ = some (.int .u8 x)) := fun W hW => (hW.old (p := ⟨qx, i, none⟩) ((Sd.mem ST6.out).get 0 rfl).lt (by simp)).trans cx
        have HCY : Hid (∀ W, Mem wr [] W [] → W.cell? ⟨qb, i, none⟩ = some (.int .u8 x)) := fun W hW => (hW.old (p := ⟨qb, i, none⟩) ((Sd.mem ST6.out).get 1 rfl).lt (by simp)).trans cb
        have hk1 : (i : Int) < c % 64 := by rw [HKE.out ()]; omega
        clear hx cx cb
        go_wp2_with fail
        have hm := Mem.start wr
        refine wp_ends0 ?_
        refine anyH_start (T := fun W => Mem wr [] W []) (by kernel_rfl) hm ?_
        clear hm
        intro w9 hm
        refine anyH_takeG 0 (v := .int .i64 (i : Int)) rfl (by kernel_rfl) (by kernel_rfl) (by kernel_rfl) rfl (fun W _ => by go_simp) hm ?_
        go_simp
        refine anyH_takeG 1 (v := .int .i64 (c % 64)) rfl (by kernel_rfl) (by kernel_rfl) (by kernel_rfl) rfl (fun W _ => by go_simp) hm ?_
        go_simp
        refine anyH_takeG 2 (v := .bool true) rfl (by kernel_rfl) (by kernel_rfl) (by kernel_rfl) rfl (fun W _ => by go_simp) hm ?_
        go_simp
        refine anyH_takeG 3 (v := .bool true) rfl (by kernel_rfl) (by kernel_rfl) (by kernel_rfl) rfl (fun W _ => by go_simp) hm ?_
        go_simp
        refine anyH_takeG 4 (v := .slice (some ⟨qx, 0, none⟩) 64 64) rfl (by kernel_rfl) (by kernel_rfl) (by kernel_rfl) rfl (fun W _ => by go_simp) hm ?_
        go_simp
        refine anyH_takeG 5 (v := .int .i64 (i : Int)) rfl (by kernel_rfl) (by kernel_rfl) (by kernel_rfl) rfl (fun W _ => by go_simp) hm ?_
        go_simp
        refine anyH_takeG 6 (v := .pointer (some ⟨qx, i, none⟩)) rfl (by kernel_rfl) (by kernel_rfl) (by kernel_rfl) rfl (fun W _ => by go_simp) hm ?_
        go_simp
        refine anyH_takeG 7 (v := .int .u8 x) rfl (by kernel_rfl) (by kernel_rfl) (by kernel_rfl) rfl (fun W hW => exec_ldxG (.int .u8 x) (HCX.out W hW) rfl ag_u8) hm ?_
        go_simp
        refine anyH_takeG 8 (v := .int .i64 (i : Int)) rfl (by kernel_rfl) (by kernel_rfl) (by kernel_rfl) rfl (fun W _ => by go_simp) hm ?_
        go_simp
        refine anyH_takeG 9 (v := .pointer (some ⟨qb, i, none⟩)) rfl (by kernel_rfl) (by kernel_rfl) (by kernel_rfl) rfl (fun W _ => by go_simp) hm ?_
        go_simp
        refine anyH_takeG 10 (v := .int .u8 x) rfl (by kernel_rfl) (by kernel_rfl) (by kernel_rfl) rfl (fun W hW => exec_ldxG (.int .u8 x) (HCY.out W hW) rfl ag_u8) hm ?_
        go_simp
        refine anyH_takeG 11 (v := .bool false) rfl (by kernel_rfl) (by kernel_rfl) (by kernel_rfl) rfl (fun W _ => by go_simp) hm ?_
        go_simp
        refine anyH_takeG 12 (v := .bool false) rfl (by kernel_rfl) (by kernel_rfl) (by kernel_rfl) rfl (fun W _ => by go_simp) hm ?_
        go_simp
        refine anyH_takeG 13 (v := .bool false) rfl (by kernel_rfl) (by kernel_rfl) (by kernel_rfl) rfl (fun W _ => by go_simp) hm ?_
        go_simp
        refine anyH_takeG 14 (v := .int .i64 (i : Int)) rfl (by kernel_rfl) (by kernel_rfl) (by kernel_rfl) rfl (fun W _ => by go_simp) hm ?_
        go_simp
        refine anyH_takeG 15 (v := .int .i64 (c % 64)) rfl (by kernel_rfl) (by kernel_rfl) (by kernel_rfl) rfl (fun W _ => by go_simp) hm ?_
        go_simp
        refine anyH_takeG 16 (v := .bool false) rfl (by kernel_rfl) (by kernel_rfl) (by kernel_rfl) rfl (fun W _ => by go_simp) hm ?_
        go_simp
        refine anyH_takeG 17 (v := .bool false) rfl (by kernel_rfl) (by kernel_rfl) (by kernel_rfl) rfl (fun W _ => by go_simp) hm ?_
        go_simp
        refine anyH_skip 18 rfl (by kernel_rfl) (by kernel_rfl) (by kernel_rfl) rfl hm ?_
        go_simp
        refine anyH_skip 19 rfl (by kernel_rfl) (by kernel_rfl) (by kernel_rfl) rfl hm ?_
        go_simp
        refine anyH_skip 20 rfl (by kernel_rfl) (by kernel_rfl) (by kernel_rfl) rfl hm ?_
        go_simp
        refine anyH_skip 21 rfl (by kernel_rfl) (by kernel_rfl) (by kernel_rfl) rfl hm ?_
        go_simp
        refine anyH_skip 22 rfl (by kernel_rfl) (by kernel_rfl) (by kernel_rfl) rfl hm ?_
        go_simp
        refine anyH_skip 23 rfl (by kernel_rfl) (by kernel_rfl) (by kernel_rfl) rfl hm ?_
        go_simp
        refine anyH_skip 24 rfl (by kernel_rfl) (by kernel_rfl) (by kernel_rfl) rfl hm ?_
        go_simp
        refine anyH_skip 25 rfl (by kernel_rfl) (by kernel_rfl) (by kernel_rfl) rfl hm ?_
        go_simp
        refine anyH_takeG 26 (v := .bool false) rfl (by kernel_rfl) (by kernel_rfl) (by kernel_rfl) rfl (fun W _ => by go_simp) hm ?_
        go_simp
        refine anyH_takeG 27 (v := .bool false) rfl (by kernel_rfl) (by kernel_rfl) (by kernel_rfl) rfl (fun W _ => by go_simp) hm ?_
        go_simp
        refine wpAnyH_done (by kernel_rfl) ?_ _
        simp only [endsIn]
        go_wp2_with fail
        go_roundw
        case rel => exact ⟨i + 1, by omega, by go_num, Sd.below ST6.out hm.below⟩
        case measure => simp [intOf]; omega
      · skip
        obtain ⟨x, hx⟩ : ∃ x, x = az.getD i 0 := ⟨_, rfl⟩
        have cx : wr.cell? ⟨qx, i, none⟩ = some (.int .u8 x) := by rw [(Sd.mem ST6.out).cell 0 rfl, u8s_get _ _ (by rw [HXL.out]; exact hlt), HXG.out i hlt, if_neg hik, hx]
        have cb : wr.cell? ⟨qa, i, none⟩ = some (.int .u8 x) := by rw [(Sd.mem ST6.out).cell 2 rfl, u8s_get _ _ (by rw [HAL.out]; exact hlt), hx]
        have HCX : Hid (∀ W, Mem wr [] W [] → W.cell? ⟨qx, i, none⟩ = some (.int .u8 x)) := fun W hW => (hW.old (p := ⟨qx, i, none⟩) ((Sd.mem ST6.out).get 0 rfl).lt (by simp)).trans cx
        have HCY : Hid (∀ W, Mem wr [] W [] → W.cell? ⟨qa, i, none⟩ = some (.int .u8 x)) := fun W hW => (hW.old (p := ⟨qa, i, none⟩) ((Sd.mem ST6.out).get 2 rfl).lt (by simp)).trans cb
        have hk1 : ¬ ((i : Int) < c % 64) := by rw [HKE.out ()]; omega
        have hk2 : (i : Int) ≥ c % 64 := by rw [HKE.out ()]; omega
        clear hx cx cb
        go_wp2_with fail
        have hm := Mem.start wr
        refine wp_ends0 ?_
        refine anyH_start (T := fun W => Mem wr [] W []) (by kernel_rfl) hm ?_
        clear hm
        intro w9 hm
        refine anyH_takeG 0 (v := .int .i64 (i : Int)) rfl (by kernel_rfl) (by kernel_rfl) (by kernel_rfl) rfl (fun W _ => by go_simp) hm ?_
        go_simp
        refine anyH_takeG 1 (v := .int .i64 (c % 64)) rfl (by kernel_rfl) (by kernel_rfl) (by kernel_rfl) rfl (fun W _ => by go_simp) hm ?_
        go_simp
        refine anyH_takeG 2 (v := .bool false) rfl (by kernel_rfl) (by kernel_rfl) (by kernel_rfl) rfl (fun W _ => by go_simp) hm ?_
        go_simp
        refine anyH_takeG 3 (v := .bool false) rfl (by kernel_rfl) (by kernel_rfl) (by kernel_rfl) rfl (fun W _ => by go_simp) hm ?_
        go_simp
        refine anyH_skip 4 rfl (by kernel_rfl) (by kernel_rfl) (by kernel_rfl) rfl hm ?_
        go_simp
        refine anyH_skip 5 rfl (by kernel_rfl) (by kernel_rfl) (by kernel_rfl) rfl hm ?_
        go_simp
        refine anyH_skip 6 rfl (by kernel_rfl) (by kernel_rfl) (by kernel_rfl) rfl hm ?_
        go_simp
        refine anyH_skip 7 rfl (by kernel_rfl) (by kernel_rfl) (by kernel_rfl) rfl hm ?_
        go_simp
        refine anyH_skip 8 rfl (by kernel_rfl) (by kernel_rfl) (by kernel_rfl) rfl hm ?_
        go_simp
        refine anyH_skip 9 rfl (by kernel_rfl) (by kernel_rfl) (by kernel_rfl) rfl hm ?_
        go_simp
        refine anyH_skip 10 rfl (by kernel_rfl) (by kernel_rfl) (by kernel_rfl) rfl hm ?_
        go_simp
        refine anyH_skip 11 rfl (by kernel_rfl) (by kernel_rfl) (by kernel_rfl) rfl hm ?_
        go_simp
        refine anyH_takeG 12 (v := .bool false) rfl (by kernel_rfl) (by kernel_rfl) (by kernel_rfl) rfl (fun W _ => by go_simp) hm ?_
        go_simp
        refine anyH_takeG 13 (v := .bool false) rfl (by kernel_rfl) (by kernel_rfl) (by kernel_rfl) rfl (fun W _ => by go_simp) hm ?_
        go_simp
        refine anyH_takeG 14 (v := .int .i64 (i : Int)) rfl (by kernel_rfl) (by kernel_rfl) (by kernel_rfl) rfl (fun W _ => by go_simp) hm ?_
        go_simp
        refine anyH_takeG 15 (v := .int .i64 (c % 64)) rfl (by kernel_rfl) (by kernel_rfl) (by kernel_rfl) rfl (fun W _ => by go_simp) hm ?_
        go_simp
        refine anyH_takeG 16 (v := .bool true) rfl (by kernel_rfl) (by kernel_rfl) (by kernel_rfl) rfl (fun W _ => by go_simp) hm ?_
        go_simp
        refine anyH_takeG 17 (v := .bool true) rfl (by kernel_rfl) (by kernel_rfl) (by kernel_rfl) rfl (fun W _ => by go_simp) hm ?_
        go_simp
        refine anyH_takeG 18 (v := .slice (some ⟨qx, 0, none⟩) 64 64) rfl (by kernel_rfl) (by kernel_rfl) (by kernel_rfl) rfl (fun W _ => by go_simp) hm ?_
        go_simp
        refine anyH_takeG 19 (v := .int .i64 (i : Int)) rfl (by kernel_rfl) (by kernel_rfl) (by kernel_rfl) rfl (fun W _ => by go_simp) hm ?_
        go_simp
        refine anyH_takeG 20 (v := .pointer (some ⟨qx, i, none⟩)) rfl (by kernel_rfl) (by kernel_rfl) (by kernel_rfl) rfl (fun W _ => by go_simp) hm ?_
        go_simp
        refine anyH_takeG 21 (v := .int .u8 x) rfl (by kernel_rfl) (by kernel_rfl) (by kernel_rfl) rfl (fun W hW => exec_ldxG (.int .u8 x) (HCX.out W hW) rfl ag_u8) hm ?_
        go_simp
        refine anyH_takeG 22 (v := .int .i64 (i : Int)) rfl (by kernel_rfl) (by kernel_rfl) (by kernel_rfl) rfl (fun W _ => by go_simp) hm ?_
        go_simp
        refine anyH_takeG 23 (v := .pointer (some ⟨qa, i, none⟩)) rfl (by kernel_rfl) (by kernel_rfl) (by kernel_rfl) rfl (fun W _ => by go_simp) hm ?_
        go_simp
        refine anyH_takeG 24 (v := .int .u8 x) rfl (by kernel_rfl) (by kernel_rfl) (by kernel_rfl) rfl (fun W hW => exec_ldxG (.int .u8 x) (HCY.out W hW) rfl ag_u8) hm ?_
        go_simp
        refine anyH_takeG 25 (v := .bool false) rfl (by kernel_rfl) (by kernel_rfl) (by kernel_rfl) rfl (fun W _ => by go_simp) hm ?_
        go_simp
        refine anyH_takeG 26 (v := .bool false) rfl (by kernel_rfl) (by kernel_rfl) (by kernel_rfl) rfl (fun W _ => by go_simp) hm ?_
        go_simp
        refine anyH_takeG 27 (v := .bool false) rfl (by kernel_rfl) (by kernel_rfl) (by kernel_rfl) rfl (fun W _ => by go_simp) hm ?_
        go_simp
        refine wpAnyH_done (by kernel_rfl) ?_ _
        simp only [endsIn]
        go_wp2_with fail
        go_roundw
        case rel => exact ⟨i + 1, by omega, by go_num, Sd.below ST6.out hm.below⟩
        case measure => simp [intOf]; omega
    · have hi64 : i = 64 := by omega
      subst hi64
      go_wp2_with fail
      go_at_call 18
      refine (crash_st (Sd.alloc ST6.out (u8s [9]) 5) [9] _ (by unfold Bytes; decide) (Sd.sl (Sd.alloc ST6.out (u8s [9]) 5) 0 rfl 1 1 rfl (Nat.le_refl _))).mono ?_
      rintro e w7 ⟨rfl, st'⟩
      replace st' := st'.tail
      obtain ⟨d7, hd7⟩ : ∃ x, x = d5.crash [9] := ⟨_, rfl⟩
      have Hd7 : Hid (d7.Hold X none 3) := by rw [hd7]; exact Hd5.out.crashN _
      have Sd7 : Hid (Sd w w7 g mb kv d7 [(qx, u8s X, 62), (qb, u8s bs, 42), (qa, u8s az, 42)]) := Sd.congr st' hd7.symm
      clear st' hd7 ST6
      go_wp2_with fail
      go_at_call 24
      refine (read_ok Sd7.out 0 (by omega) (by rw [Hd7.out.n]; decide) Hd7.out.calm.off).mono ?_
      rintro e w8 ⟨qy, rfl, st'⟩
      have HN8 : Hid (d7.now 0 = X) := Hd7.out.now
      have Sd8 : Hid (Sd w w8 g mb kv d7 [(qy, u8s X, 62), (qx, u8s X, 62), (qb, u8s bs, 42), (qa, u8s az, 42)]) := by have h := st'; rw [show d7.now (Int.toNat 0) = X from HN8.out] at h; exact h
      clear st' Sd7 HN8
      go_wp2_with (first
        | ((with_reducible refine at_opG (some 112) (.convert 28 9 (.tmp 111)) (some (6, true)) ?_); go_must (refine wpl_execG (.string (strOf X)) rfl (exec_tostr un_bs un_u8 un_strT X rfl (old_all ((Sd.mem Sd8.out).get 1 rfl) HXL.out (Nat.le_refl _))) ?_))
        | ((with_reducible refine at_opG (some 114) (.convert 28 9 (.tmp 113)) (some (6, true)) ?_); go_must (refine wpl_execG (.string (strOf X)) rfl (exec_tostr un_bs un_u8 un_strT X rfl (old_all ((Sd.mem Sd8.out).get 0 rfl) HXL.out (Nat.le_refl _))) ?_))
        | ((with_reducible refine at_opG (some 115) (.binOp .eql 9 (.tmp 112) (.tmp 114) 9) (some (6, true)) ?_); go_must (refine wpl_execG (.bool true) rfl (exec_eqsB (strOf X) (strOf X) true rfl rfl (beq_self_str _)) ?_)))
      go_ret
      exact ⟨rfl, (Sd.mem Sd8.out).below⟩
set_option maxRecDepth 100000 in
theorem sectorKeeps_walk (az bs : List Int) (f : Bool) (c : Int) (hc : 0 ≤ c ∧ c ≤ 255) (hal : az.length = 64) (hbl : bs.length = 64) (hab : Bytes az) (hbb : Bytes bs) (w : World) :
    Calls Try.prog 4 #[.agg (u8s az).toArray, .agg (u8s bs).toArray, .bool f, .int .u8 c] w fun e w' => e = .returned (.bool true) ∧ Below w.heap.size w w' := by
  cases f with
  | true =>
    by_cases h : c = 255
    · subst h
      exact keeps_flushW az bs hal hbl hab hbb w
    · exact keeps_flush az bs c hc h hal hbl hab hbb w
  | false =>
    by_cases h : c = 255
    · subst h
      exact keeps_whole az bs hal hbl hab hbb w
    · exact keeps_part az bs c hc h hal hbl hab hbb w
end Go.Proofs.Ytlddkmjhkhliiaa
