/- Facts on the types of package seal; bits.Put at eight bytes; NonceOf. -/
import Derived.Test.YtbfccepddfinoaaDoorSealPlain
import Derived.Test.YtbfccepddfinoaaDoorMacSt
import Derived.Test.YtbfccepddfinoaaDoorStKnown
import Derived.Test.YtbfccepddfinoaaDoorStLaws
import Derived.Test.YtbfccepddfinoaaDoorAnyG
namespace Go.Proofs.YtbfccepddfinoaaDoor
open Go Go.RowKit
set_option maxRecDepth 100000 in
theorem info_tag : (Tryd.prog.info? 42).map (fun i => (i.zero, i.size)) = some (some (.agg (u8s (List.replicate 16 0)).toArray), 16) := by kernel_rfl
set_option maxRecDepth 100000 in
theorem zero_tag : ∀ w, (zeroValue 42).run Tryd.prog w = .ok (.agg (u8s (List.replicate 16 0)).toArray) w := (zero_of_info info_tag).1
set_option maxRecDepth 100000 in
theorem sz_tag : (Tryd.prog.info? 42).map (·.size) = some 16 := (zero_of_info info_tag).2
set_option maxRecDepth 100000 in
theorem un_tag : Tryd.prog.underlying 42 = some (.array 16 5) := Tryd.underlying42
set_option maxRecDepth 100000 in
theorem info_b48 : (Tryd.prog.info? 27).map (fun i => (i.zero, i.size)) = some (some (.agg (u8s (List.replicate 48 0)).toArray), 48) := by kernel_rfl
set_option maxRecDepth 100000 in
theorem zero_b48 : ∀ w, (zeroValue 27).run Tryd.prog w = .ok (.agg (u8s (List.replicate 48 0)).toArray) w := (zero_of_info info_b48).1
set_option maxRecDepth 100000 in
theorem sz_b48 : (Tryd.prog.info? 27).map (·.size) = some 48 := (zero_of_info info_b48).2
set_option maxRecDepth 100000 in
theorem un_b48 : Tryd.prog.underlying 27 = some (.array 48 5) := Tryd.underlying27
set_option maxRecDepth 100000 in
theorem eg_tag : Tryd.prog.eqGuardType Tryd.prog.depth 42 = false := by kernel_rfl
set_option maxRecDepth 100000 in
theorem eg_b48 : Tryd.prog.eqGuardType Tryd.prog.depth 27 = false := by kernel_rfl
set_option maxRecDepth 100000 in
theorem eg_nce : Tryd.prog.eqGuardType Tryd.prog.depth 30 = false := by kernel_rfl
section
variable {P : Program} {ops : Array Oper} {rest : List Oper} {a : Act} {w w0 : World} {Q : Exit → Act → World → Prop} {dst : Option Tmp} {typ : TypeId} {pos : String} {aft : Array Edge} {gd : Option (Nat × Bool)} {S : List Nat} {rows : List (Nat × List Value × TypeId)}
set_option maxRecDepth 100000 in
theorem exec_s2a {ty : TypeId} {x : Operand} (n : Nat) {elem : TypeId} (hu : P.underlying ty = some (.array n elem)) {p : Option Addr} {len cap : Nat} (hn : n ≤ len) (hx : a.eval x = .slice p len cap) :
    (execOp a.eval { dst := dst, op := .sliceToArrayPointer ty x, type := typ, pos := pos, after := aft, guard := gd }).run P w = .ok (.value (.pointer p)) w := by
  have hr : (Instr.arrayAt ty (.slice p len cap)).run P w = .ok (.pointer p) w := by
    simp [Instr.arrayAt, run_underlying hu, show ¬ len < n by omega]
  unfold execOp
  simp only [hx, hr, Sem.run_bind, Sem.run_pure, Result.andThen_ok]
set_option maxRecDepth 100000 in
theorem wpl_s2a {ty : TypeId} {x : Operand} (n : Nat) {elem : TypeId} (hu : P.underlying ty = some (.array n elem)) {p : Option Addr} {len cap : Nat} (hn : n ≤ len) (hx : a.eval x = .slice p len cap)
    (h : wpList P ops Q rest (a.put dst (.pointer p)) w) : wpList P ops Q ({ dst := dst, op := .sliceToArrayPointer ty x, type := typ, pos := pos, after := aft, guard := none } :: rest) a w :=
  wpl_execG (.pointer p) rfl (exec_s2a n hu hn hx) h
set_option maxRecDepth 100000 in
/-- Bytes of a slice, loaded as an array. -/
theorem exec_ldS {ty : TypeId} {x : Operand} {g off : Nat} (cs : List Int) (hx : a.eval x = .pointer (some ⟨g, off, none⟩)) (hc : Seg w g off cs) (d : TypeDesc) (hu : P.underlying ty = some d) (hd : (match d with | .struct _ | .array _ _ => true | _ => false) = true) (n : Nat) (hs : (P.info? ty).map (·.size) = some n) (hn : cs.length = n) :
    (execOp a.eval { dst := dst, op := .load ty x, type := typ, pos := pos, after := aft, guard := gd }).run P w = .ok (.value (.agg (u8s cs).toArray)) w := by
  have hl := run_loadVar_at w g off n ty (u8s cs) d (fun j v hj => by have := hc.src j v hj; rw [add_at] at this; exact this) hu hd hs (by rw [u8s_length]; exact hn)
  unfold execOp
  simp only [hx, Instr.loadAt, Instr.sureAddr, Sem.run_bind, Sem.run_pure, Result.andThen_ok, hl]
set_option maxRecDepth 100000 in
theorem own_row {e : TypeId} {base g : Nat} {zs : List Int} (hr : Row w g (u8s zs) e) (hb : base ≤ g) (hl : zs.length ≤ 1000000) : OwnB e w base (.slice (some ⟨g, 0, none⟩) zs.length zs.length) zs := by
  refine ⟨by rw [u8s_length, Nat.mul_one], Or.inr ⟨g, zs.length, (u8s zs).toArray, rfl, hb, hr, Nat.le_refl _, by unfold maxLen; omega, by simp [u8s_length], ?_⟩⟩
  rw [Nat.mul_one]
  exact List.take_of_length_le (by rw [u8s_length]; exact Nat.le_refl _)
set_option maxRecDepth 100000 in
theorem own_empty {e : TypeId} {base g n : Nat} (hr : Row w g (List.replicate n (.int .u8 0)) e) (hb : base ≤ g) (hl : n ≤ 1000000) : OwnB e w base (.slice (some ⟨g, 0, none⟩) 0 n) [] :=
  ⟨by simp [u8s], Or.inr ⟨g, n, (List.replicate n (Value.int .u8 0)).toArray, rfl, hb, hr, Nat.zero_le _, by unfold maxLen; omega, by simp, by simp [u8s]⟩⟩
set_option maxRecDepth 100000 in
theorem wpl_makeE {ty : TypeId} {x y : Operand} (elem : TypeId) (hu : P.underlying ty = some (.slice elem)) (z : Value) (hi : (P.info? elem).map (fun i => (i.zero, i.size, i.bytes)) = some (some z, 1, 1)) (hz : z.cells = #[z]) (n : Nat) {j : Int} (hx : a.eval x = .int .i64 0) (hy : a.eval y = .int .i64 j) (hyj : j = (n : Int)) (hn : n ≤ 65536) (hm : Mem w0 S w rows)
    (h : ∀ w' g, Mem w0 S w' ((g, List.replicate n z, elem) :: rows) → wpList P ops Q rest (a.put dst (.slice (some ⟨g, 0, none⟩) 0 n)) w') :
    wpList P ops Q ({ dst := dst, op := .makeSlice ty x y, type := typ, pos := pos, after := aft, guard := none } :: rest) a w := by
  subst hyj
  refine wpList_plain rfl fun K hK => ?_
  have hh := hK _ _ (h _ _ (hm.alloc (List.replicate n z) elem))
  have hr : (Instr.makeSlice ty (.int .i64 0) (.int .i64 (n : Int))).run P w = .ok (.slice (some ⟨w.heap.size, 0, none⟩) 0 n) (w.alloc (.cells (List.replicate n z).toArray elem)) := by
    cases hq : P.info? elem with
    | none => simp [hq] at hi
    | some q =>
      simp only [hq, Option.map_some, Option.some.injEq, Prod.mk.injEq] at hi
      obtain ⟨h0, h1, h2⟩ := hi
      have := run_makeSlice (P := P) w ty elem q z hu hq h0 .i64 .i64 0 (n : Int) (by omega) (by omega) (by rw [h1]; simp; omega) (by rw [h2]; simp; omega) (by omega)
      rw [this, h1, hz]
      have e : madeCells #[z] ((n : Int).toNat * 1) = (List.replicate n z).toArray := by
        unfold madeCells
        apply Array.ext
        · simp
        · intro k h1 h2
          simp [Nat.mod_one]
      rw [e]
      simp
  unfold Oper.wp execOp
  simp only [hx, hy, hr, Sem.run_bind, Sem.run_pure, Result.andThen_ok]
  exact hh
end
set_option maxRecDepth 100000 in
theorem set_eight (zs : List Int) (a b c d e f g h : Int) : (((((((((u8s (zs ++ [0, 0, 0, 0, 0, 0, 0, 0])).set (zs.length + 7) (.int .u8 h)).set (zs.length + 6) (.int .u8 g)).set (zs.length + 5) (.int .u8 f)).set (zs.length + 4) (.int .u8 e)).set (zs.length + 3) (.int .u8 d)).set (zs.length + 2) (.int .u8 c)).set (zs.length + 1) (.int .u8 b)).set (zs.length + 0) (.int .u8 a)) = u8s (zs ++ [a, b, c, d, e, f, g, h]) := by
  rw [u8s_set, u8s_set, u8s_set, u8s_set, u8s_set, u8s_set, u8s_set, u8s_set]
  simp [u8s, List.set_append_right]
set_option maxHeartbeats 600000 in
set_option maxRecDepth 100000 in
theorem longer_at8 (zs : List Int) (v : Value) (hzl : zs.length ≤ 60000) (w : World) (hv : SlOld w v zs) :
    Calls Tryd.prog 33 #[v, .int .i64 8] w fun e w' => ∃ g, e = .returned (.slice (some ⟨g, 0, none⟩) (zs.length + 8) (zs.length + 8)) ∧ w.heap.size ≤ g ∧ Row w' g (u8s (zs ++ [0, 0, 0, 0, 0, 0, 0, 0])) 5 ∧ Below w.heap.size w w' := by
  obtain ⟨p, cap, rfl, hcap⟩ := hv.len
  have hm := Mem.start w
  have HV : Hid (SlOld w (.slice p zs.length cap) zs) := hv
  have HNE : Hid (splice (List.replicate (zs.length + 8) (.int .u8 0)) 0 (u8s (zs.take zs.length)) = u8s (zs ++ [0, 0, 0, 0, 0, 0, 0, 0])) := by
    show _ = _
    have e : List.replicate (zs.length + 8) (Value.int .u8 0) = u8s (List.replicate (zs.length + 8) 0) := by simp [u8s]
    rw [List.take_of_length_le (Nat.le_refl _), e, splice_zeros zs (zs.length + 8), show zs.length + 8 - zs.length = 8 by omega]
    rfl
  have HMI : Hid (zs.length = Nat.min zs.length (zs.length + 8)) := (Nat.min_eq_left (by omega)).symm
  clear hv
  go_enter Tryd.func33, Tryd.ntmps33
  go_wp2_with (first
    | ((with_reducible refine at_op (some 10) (.makeSlice 26 (.tmp 9) (.tmp 9)) ?_); go_must (refine wpl_make _ un_bs _ made_u8 rfl (zs.length + 8) rfl (by first | rfl | omega | go_num) rfl (by first | rfl | omega | go_num) (by omega) hm ?_); clear hm; intro w1 g hm)
    | ((with_reducible refine at_op (some 13) (.call { callee := .builtin .copy, args := #[.tmp 11, .tmp 12], argTypes := #[26, 26] }) ?_); go_must (refine wpl_cp 0 zs zs.length (u8s (zs ++ [0, 0, 0, 0, 0, 0, 0, 0])) hm rfl rfl rfl _ un_bs sz_u8 (SlOld.mem HV.out hm) HMI.out (by simp) HNE.out ?_); clear hm; intro w2 hm))
  go_ret
  have hf := hm.fresh _ (List.mem_cons_self ..)
  exact ⟨g, rfl, by simpa using hf, hm.get 0 rfl, hm.below⟩
set_option maxHeartbeats 2000000 in
set_option maxRecDepth 100000 in
theorem putNumber_at8 (g : Nat) (zs : List Int) (n : Int) (w : World) (hr : Row w g (u8s (zs ++ [0, 0, 0, 0, 0, 0, 0, 0])) 5) :
    Calls Tryd.prog 34 #[.slice (some ⟨g, zs.length, none⟩) 8 8, .int .u64 n] w fun e w' => e = .returned (.tuple #[]) ∧ Row w' g (u8s (zs ++ be8 n)) 5 ∧ Upd g w w' := by
  have hm := Mem.enter hr
  have HLN : Hid (((u8s (zs ++ [0, 0, 0, 0, 0, 0, 0, 0])).length = zs.length + 8)) := by show _ = _; simp [u8s_length]
  clear hr
  go_enter Tryd.func34, Tryd.ntmps34
  go_wp2_with fail
  refine wp_loop_rounds 9 ?_
  iterate 9 (rw [rounds_succ]; go_wp2_with (first
    | (((with_reducible refine at_op none (.store 5 (.tmp 16) (.tmp 15)) ?_); refine wpl_stc 0 _ _ hm rfl (rfl) rfl sz_u8 (by first | (rw [HLN.out]; omega) | (simp only [List.length_set]; rw [HLN.out]; omega)) rfl rfl ?_; clear hm; intro w9 hm))))
  go_end0
  have hrow := hm.get 0 rfl
  exact ⟨rfl, by have e := set_eight zs (n / 256 / 256 / 256 / 256 / 256 / 256 / 256 % 256) (n / 256 / 256 / 256 / 256 / 256 / 256 % 256) (n / 256 / 256 / 256 / 256 / 256 % 256) (n / 256 / 256 / 256 / 256 % 256) (n / 256 / 256 / 256 % 256) (n / 256 / 256 % 256) (n / 256 % 256) (n % 256); rw [show be8 n = [n / 256 / 256 / 256 / 256 / 256 / 256 / 256 % 256, n / 256 / 256 / 256 / 256 / 256 / 256 % 256, n / 256 / 256 / 256 / 256 / 256 % 256, n / 256 / 256 / 256 / 256 % 256, n / 256 / 256 / 256 % 256, n / 256 / 256 % 256, n / 256 % 256, n % 256] from rfl, ← e]; exact hrow, hm.toUpd⟩
set_option maxHeartbeats 600000 in
set_option maxRecDepth 100000 in
theorem put_at8 (zs : List Int) (v : Value) (n : Int) (hzl : zs.length ≤ 60000) (w : World) (hv : SlOld w v zs) :
    Calls Tryd.prog 22 #[v, .int .u64 n, .int .i64 8] w fun e w' => ∃ g, e = .returned (.slice (some ⟨g, 0, none⟩) (zs.length + 8) (zs.length + 8)) ∧ w.heap.size ≤ g ∧ Row w' g (u8s (zs ++ be8 n)) 5 ∧ Below w.heap.size w w' := by
  obtain ⟨p, cap, rfl, hcap⟩ := hv.len
  have hm := Mem.start w
  have HV : Hid (SlOld w (.slice p zs.length cap) zs) := hv
  clear hv
  go_enter Tryd.func22, Tryd.ntmps22
  go_wp2_with (first
    | (go_at_call 32; refine (held_eight _).mono ?_; rintro e w1 ⟨rfl, rfl⟩)
    | (go_at_call 33; refine (longer_at8 zs _ hzl _ HV.out).mono ?_; rintro e w2 ⟨g, rfl, hge, hr, hb⟩; have HGE : Hid _ := hge; have HR : Hid (Row w2 g (u8s (zs ++ [0, 0, 0, 0, 0, 0, 0, 0])) 5) := hr; have HBL : Hid _ := hb; clear hge hr hb)
    | ((with_reducible refine at_op (some 17) (.slice 26 (.tmp 14) (some (.tmp 16)) none none) ?_); go_must (refine wpl_slo un_bs sz_u8 zs.length zs.length 8 8 (by omega) (by omega) (by omega) (by omega) (by omega) rfl rfl rfl ?_))
    | (go_at_call 34; refine (putNumber_at8 g zs n _ HR.out).mono ?_; rintro e w3 ⟨rfl, hr2, hu⟩; have HR2 : Hid (Row w3 g (u8s (zs ++ be8 n)) 5) := hr2; have HU2 : Hid (Upd g w2 w3) := hu; clear hr2 hu))
  go_ret
  exact ⟨g, rfl, HGE.out, HR2.out, below_upd HBL.out HU2.out HGE.out HBL.out.size⟩
set_option maxHeartbeats 600000 in
set_option maxRecDepth 100000 in
theorem nonce_any (p n : Int) (hp : 0 ≤ p ∧ p < 4294967296) (w : World) :
    Calls Tryd.prog 10 #[.int .u32 p, .int .u64 n] w fun e w' => e = .returned (.agg (u8s (nonceOf p n)).toArray) ∧ Below w.heap.size w w' := by
  obtain ⟨hp0, hp1⟩ := hp
  have hm := Mem.start w
  have HWR : Hid (IntKind.u64.wrap p = p) := wrapu_int p hp0 hp1
  have HL4 : Hid ((be4 p).length = 4) := be4_length p
  have HLN : Hid ((u8s (nonceOf p n)).length = 12) := by show _ = _; rw [u8s_length, nonceOf_length]
  go_enter Tryd.func10, Tryd.ntmps10
  go_wp2_with (first
    | ((with_reducible refine at_op (some 4) (.alloc 30) ?_); refine wpl_alloc _ zero_nce hm ?_; clear hm; intro w1 g4 hm))
  refine (put_four [] _ p (by simp) _ ⟨none, 0, rfl, Nat.le_refl _, fun h => absurd h (by simp)⟩).mono ?_
  rintro e w2 ⟨g7, rfl, hge, hr, hb⟩
  replace hm := hm.callNew hb hr hge
  clear hb hr hge
  rw [show ([] : List Int).length + 4 = 4 from rfl]
  replace hm : Mem w [] w2 [(g7, u8s (be4 p), 5), (g4, u8s (List.replicate 12 0), 30)] := hm
  go_wp2_with fail
  refine (put_at8 (be4 p) _ n (by rw [be4_length]; omega) _ (old_all (hm.get 0 rfl) (be4_length p) (Nat.le_refl _))).mono ?_
  rintro e w3 ⟨g9, he, hge, hr, hb⟩
  rw [be4_length] at he
  subst he
  replace hm := hm.callNew hb hr hge
  clear hb hr hge
  replace hm : Mem w [] w3 [(g9, u8s (nonceOf p n), 5), (g7, u8s (be4 p), 5), (g4, u8s (List.replicate 12 0), 30)] := hm
  go_wp2_with (first
    | ((with_reducible refine at_op (some 10) (.sliceToArrayPointer 30 (.tmp 9)) ?_); go_must (refine wpl_s2a 12 un_nce (by omega) rfl ?_))
    | ((with_reducible refine at_op (some 11) (.load 30 (.tmp 10)) ?_); refine wpl_ldw 0 hm rfl rfl _ un_nce rfl 12 sz_nce (HLN.out) ?_)
    | ((with_reducible refine at_op none (.store 30 (.tmp 4) (.tmp 11)) ?_); refine wpl_stw 2 (u8s (nonceOf p n)) hm rfl rfl rfl 12 sz_nce (by simp [u8s_length]) (HLN.out) (u8s_one _) ?_; clear hm; intro w4 hm))
  exact ret_cell 2 hm rfl Tryd.results10 rfl _ un_nce rfl 12 sz_nce HLN.out rfl ⟨rfl, hm.below⟩
end Go.Proofs.YtbfccepddfinoaaDoor
