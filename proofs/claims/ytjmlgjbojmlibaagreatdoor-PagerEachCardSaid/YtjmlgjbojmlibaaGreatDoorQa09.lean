import Derived.Test.YtjmlgjbojmlibaaGreatDoorQa07
import Derived.Test.YtjmlgjbojmlibaaGreatDoorQa02
import Derived.Test.YtjmlgjbojmlibaaGreatDoorQa08
set_option maxRecDepth 100000
namespace Go.Proofs.YtjmlgjbojmlibaaGreatDoor
open Go Go.RowKit
section
variable {P : Program} {md : Region.Mode} {ops : Array Oper} {R : Act → World → Prop} {T : World → Prop} {fuel : Nat} {listed : Array Bool} {a : Act} {w : World}
theorem anyH_opW (i : Nat) {o : Oper} (hi : ops[i]? = some o) (hw : Region.wanted o (yielded ops a.tmps) = true)
    (h : ∀ K : Act → World → Prop, (∀ a' w', T w' → wpAnyH P md ops (endsIn R) T fuel (listed.setIfInBounds i true) a' w' → K a' w') → wpList P ops (endsIn K) [o] a w) :
    wpOp P ops (endsIn R) i (fun a' w' => T w' ∧ wpAnyH P md ops (endsIn R) T fuel (listed.setIfInBounds i true) a' w') a w := by
  have hh := h (fun a' w' => T w' ∧ wpAnyH P md ops (endsIn R) T fuel (listed.setIfInBounds i true) a' w') (fun _ _ h1 h2 => ⟨h1, h2⟩)
  unfold wpOp
  simp only [hi]
  unfold wpList at hh
  rw [if_pos hw] at hh
  rw [if_pos hw]
  exact hh
end
def cutHi (p : Option Addr) (cap : Nat) : Option Addr := if cap = 0 then p else p.map (·.add 0)
def cutLo (p : Option Addr) (cap l : Nat) : Option Addr := if cap = l then p else p.map (·.add l)
theorem old_hi {w : World} {p : Option Addr} {n cap : Nat} {cs : List Int} (h : SlOld w (.slice p n cap) cs) (m : Nat) (hm : m ≤ n) : SlOld w (.slice (cutHi p cap) m cap) (cs.take m) := by
  obtain ⟨hn, hc, hs⟩ := h.src0
  have hl : (cs.take m).length = m := by rw [List.length_take]; omega
  refine ⟨_, cap, by rw [hl], by rw [hl]; omega, fun h0 => ?_⟩
  rw [hl] at h0
  obtain ⟨b, off, rfl, hseg⟩ := hs (by omega)
  refine ⟨b, off, ?_, hseg.take m⟩
  rw [cutHi, if_neg (by omega)]
  simp [add_at]
theorem old_lo {w : World} {p : Option Addr} {n cap : Nat} {cs : List Int} (h : SlOld w (.slice p n cap) cs) (l : Nat) (hl : l ≤ n) : SlOld w (.slice (cutLo p cap l) (n - l) (cap - l)) (cs.drop l) := by
  obtain ⟨hn, hc, hs⟩ := h.src0
  have hd : (cs.drop l).length = n - l := by rw [List.length_drop]; omega
  refine ⟨_, cap - l, by rw [hd], by rw [hd]; omega, fun h0 => ?_⟩
  rw [hd] at h0
  obtain ⟨b, off, rfl, hseg⟩ := hs (by omega)
  refine ⟨b, off + l, ?_, hseg.drop l⟩
  rw [cutLo, if_neg (by omega)]
  simp [add_at]
section
variable {P : Program} {a : Act} {w : World} {dst : Option Tmp} {typ : TypeId} {pos : String} {aft : Array Edge} {gd : Option (Nat × Bool)}
theorem exec_sHi {ty : TypeId} {x hi : Operand} {elem : TypeId} (hu : P.underlying ty = some (.slice elem)) (hs : (P.info? elem).map (·.size) = some 1) {p : Option Addr} {len cap : Nat} (m : Nat) {ih : Int} (hm : m ≤ cap) (hx : a.eval x = .slice p len cap) (hhi : a.eval hi = .int .i64 ih) (hih : ih = (m : Int)) :
    (execOp a.eval { dst := dst, op := .slice ty x none (some hi) none, type := typ, pos := pos, after := aft, guard := gd }).run P w = .ok (.value (.slice (cutHi p cap) m cap)) w := by
  subst hih
  cases hq : P.info? elem with
  | none => simp [hq] at hs
  | some q =>
    have hs1 : q.size = 1 := by simpa [hq] using hs
    have hsz : (sizeOf elem).run P w = .ok 1 w := by simp [sizeOf, typeInfo, hq, hs1]
    have bnd : ∀ code, (Instr.sliceBound (.int .i64 (m : Int)) cap code).run P w = .ok m w := by
      intro code
      rw [run_sliceBound (P := P) w .i64 (m : Int) cap code (by omega) (by omega)]
      simp
    have hb : (Instr.sliceBounds true len cap none (some (.int .i64 (m : Int))) none).run P w = .ok (0, m, cap) w := by
      simp [Instr.sliceBounds, bnd]
    have hr : (Instr.sliceAt ty (.slice p len cap) none (some (.int .i64 (m : Int))) none).run P w = .ok (.slice (cutHi p cap) m cap) w := by
      simp [Instr.sliceAt, Instr.slice, run_underlying hu, hb, hsz, cutHi]
    unfold execOp
    simp only [hx, hhi, Option.map_some, Option.map_none, hr, Sem.run_bind, Sem.run_pure, Result.andThen_ok]
theorem exec_sLo {ty : TypeId} {x lo : Operand} {elem : TypeId} (hu : P.underlying ty = some (.slice elem)) (hs : (P.info? elem).map (·.size) = some 1) {p : Option Addr} {len cap : Nat} (l : Nat) {il : Int} (hl : l ≤ len) (hx : a.eval x = .slice p len cap) (hlo : a.eval lo = .int .i64 il) (hil : il = (l : Int)) :
    (execOp a.eval { dst := dst, op := .slice ty x (some lo) none none, type := typ, pos := pos, after := aft, guard := gd }).run P w = .ok (.value (.slice (cutLo p cap l) (len - l) (cap - l))) w := by
  subst hil
  cases hq : P.info? elem with
  | none => simp [hq] at hs
  | some q =>
    have hs1 : q.size = 1 := by simpa [hq] using hs
    have hsz : (sizeOf elem).run P w = .ok 1 w := by simp [sizeOf, typeInfo, hq, hs1]
    have hb : (Instr.sliceBounds true len cap (some (.int .i64 (l : Int))) none none).run P w = .ok (l, len, cap) w := by
      have := run_sliceBound (P := P) w .i64 (l : Int) len .sliceB (by omega) (by omega)
      simp [Instr.sliceBounds, this]
    have hr : (Instr.sliceAt ty (.slice p len cap) (some (.int .i64 (l : Int))) none none).run P w = .ok (.slice (cutLo p cap l) (len - l) (cap - l)) w := by
      simp [Instr.sliceAt, Instr.slice, run_underlying hu, hb, hsz, cutLo]
    unfold execOp
    simp only [hx, hlo, Option.map_some, Option.map_none, hr, Sem.run_bind, Sem.run_pure, Result.andThen_ok]
end
end Go.Proofs.YtjmlgjbojmlibaaGreatDoor
namespace Go.Proofs.YtjmlgjbojmlibaaGreatDoor
open Go Go.RowKit
theorem info_tag : (Tryz.prog.info? 168).map (fun i => (i.zero, i.size)) = some (some (.agg (u8s (List.replicate 16 0)).toArray), 16) := by kernel_rfl
theorem zero_tag : ∀ w, (zeroValue 168).run Tryz.prog w = .ok (.agg (u8s (List.replicate 16 0)).toArray) w := (zero_of_info info_tag).1
theorem sz_tag : (Tryz.prog.info? 168).map (·.size) = some 16 := (zero_of_info info_tag).2
theorem un_tag : Tryz.prog.underlying 168 = some (.array 16 5) := Tryz.underlying168
theorem eg_tag : Tryz.prog.eqGuardType Tryz.prog.depth 168 = false := by kernel_rfl
section
variable {P : Program} {ops : Array Oper} {rest : List Oper} {a : Act} {w w0 : World} {Q : Exit → Act → World → Prop} {dst : Option Tmp} {typ : TypeId} {pos : String} {aft : Array Edge} {gd : Option (Nat × Bool)} {S : List Nat} {rows : List (Nat × List Value × TypeId)}
theorem exec_s2a {ty : TypeId} {x : Operand} (n : Nat) {elem : TypeId} (hu : P.underlying ty = some (.array n elem)) {p : Option Addr} {len cap : Nat} (hn : n ≤ len) (hx : a.eval x = .slice p len cap) :
    (execOp a.eval { dst := dst, op := .sliceToArrayPointer ty x, type := typ, pos := pos, after := aft, guard := gd }).run P w = .ok (.value (.pointer p)) w := by
  have hr : (Instr.arrayAt ty (.slice p len cap)).run P w = .ok (.pointer p) w := by
    simp [Instr.arrayAt, run_underlying hu, show ¬ len < n by omega]
  unfold execOp
  simp only [hx, hr, Sem.run_bind, Sem.run_pure, Result.andThen_ok]
theorem wpl_s2a {ty : TypeId} {x : Operand} (n : Nat) {elem : TypeId} (hu : P.underlying ty = some (.array n elem)) {p : Option Addr} {len cap : Nat} (hn : n ≤ len) (hx : a.eval x = .slice p len cap)
    (h : wpList P ops Q rest (a.put dst (.pointer p)) w) : wpList P ops Q ({ dst := dst, op := .sliceToArrayPointer ty x, type := typ, pos := pos, after := aft, guard := none } :: rest) a w :=
  wpl_execG (.pointer p) rfl (exec_s2a n hu hn hx) h
/-- Bytes of a slice, loaded as an array. -/
theorem exec_ldS {ty : TypeId} {x : Operand} {g off : Nat} (cs : List Int) (hx : a.eval x = .pointer (some ⟨g, off, none⟩)) (hc : Seg w g off cs) (d : TypeDesc) (hu : P.underlying ty = some d) (hd : (match d with | .struct _ | .array _ _ => true | _ => false) = true) (n : Nat) (hs : (P.info? ty).map (·.size) = some n) (hn : cs.length = n) :
    (execOp a.eval { dst := dst, op := .load ty x, type := typ, pos := pos, after := aft, guard := gd }).run P w = .ok (.value (.agg (u8s cs).toArray)) w := by
  have hl := run_loadVar_at w g off n ty (u8s cs) d (fun j v hj => by have := hc.src j v hj; rw [add_at] at this; exact this) hu hd hs (by rw [u8s_length]; exact hn)
  unfold execOp
  simp only [hx, Instr.loadAt, Instr.sureAddr, Sem.run_bind, Sem.run_pure, Result.andThen_ok, hl]
theorem own_row {e : TypeId} {base g : Nat} {zs : List Int} (hr : Row w g (u8s zs) e) (hb : base ≤ g) (hl : zs.length ≤ 1000000) : OwnB e w base (.slice (some ⟨g, 0, none⟩) zs.length zs.length) zs := by
  refine ⟨by rw [u8s_length, Nat.mul_one], Or.inr ⟨g, zs.length, (u8s zs).toArray, rfl, hb, hr, Nat.le_refl _, by unfold maxLen; omega, by simp [u8s_length], ?_⟩⟩
  rw [Nat.mul_one]
  exact List.take_of_length_le (by rw [u8s_length]; exact Nat.le_refl _)
theorem own_empty {e : TypeId} {base g n : Nat} (hr : Row w g (List.replicate n (.int .u8 0)) e) (hb : base ≤ g) (hl : n ≤ 1000000) : OwnB e w base (.slice (some ⟨g, 0, none⟩) 0 n) [] :=
  ⟨by simp [u8s], Or.inr ⟨g, n, (List.replicate n (Value.int .u8 0)).toArray, rfl, hb, hr, Nat.zero_le _, by unfold maxLen; omega, by simp, by simp [u8s]⟩⟩
theorem wpl_makeE {ty : TypeId} {x y : Operand} (elem : TypeId) (hu : P.underlying ty = some (.slice elem)) (z : Value) (hi : (P.info? elem).map (fun i => (i.zero, i.size, i.bytes)) = some (some z, 1, 1)) (hz : z.cells = #[z]) (n : Nat) {j : Int} (hx : a.eval x = .int .i64 0) (hy : a.eval y = .int .i64 j) (hyj : j = (n : Int)) (hn : n ≤ 65536) (hm : Mem w0 S w rows)
    (h : ∀ w' g, Mem w0 S w' ((g, List.replicate n z, elem) :: rows) → wpList P ops Q rest (a.put dst (.slice (some ⟨g, 0, none⟩) 0 n)) w') :
    wpList P ops Q ({ dst := dst, op := .makeSlice ty x y, type := typ, pos := pos, after := aft, guard := none } :: rest) a w := by
  subst hyj
  refine wpList_plain rfl fun K hK => ?_
  have hh := hK _ _ (h _ _ (hm.alloc (List.replicate n z) elem))
  have hr : (Instr.makeSlice ty (.int .i64 0) (.int .i64 (n : Int))).run P w = .ok (.slice (some ⟨w.heap.size, 0, none⟩) 0 n) (w.alloc (.cells (List.replicate n z).toArray elem)) := by
    cases hq : P.info? elem with
    | none => simp [hq] at hi
    | some q =>
      simp only [hq, Option.map_some, Option.some.injEq, Prod.mk.injEq] at hi
      obtain ⟨h0, h1, h2⟩ := hi
      have := run_makeSlice (P := P) w ty elem q z hu hq h0 .i64 .i64 0 (n : Int) (by omega) (by omega) (by rw [h1]; simp; omega) (by rw [h2]; simp; omega) (by omega)
      rw [this, h1, hz]
      have e : madeCells #[z] ((n : Int).toNat * 1) = (List.replicate n z).toArray := by
        unfold madeCells
        apply Array.ext
        · simp
        · intro k h1 h2
          simp [Nat.mod_one]
      rw [e]
      simp
  unfold Oper.wp execOp
  simp only [hx, hy, hr, Sem.run_bind, Sem.run_pure, Result.andThen_ok]
  exact hh
end
theorem set_eight (zs : List Int) (a b c d e f g h : Int) : (((((((((u8s (zs ++ [0, 0, 0, 0, 0, 0, 0, 0])).set (zs.length + 7) (.int .u8 h)).set (zs.length + 6) (.int .u8 g)).set (zs.length + 5) (.int .u8 f)).set (zs.length + 4) (.int .u8 e)).set (zs.length + 3) (.int .u8 d)).set (zs.length + 2) (.int .u8 c)).set (zs.length + 1) (.int .u8 b)).set (zs.length + 0) (.int .u8 a)) = u8s (zs ++ [a, b, c, d, e, f, g, h]) := by
  rw [u8s_set, u8s_set, u8s_set, u8s_set, u8s_set, u8s_set, u8s_set, u8s_set]
  simp [u8s, List.set_append_right]
set_option maxHeartbeats 600000 in
theorem longer_at8 (zs : List Int) (v : Value) (hzl : zs.length ≤ 60000) (w : World) (hv : SlOld w v zs) :
    Calls Tryz.prog 120 #[v, .int .i64 8] w fun e w' => ∃ g, e = .returned (.slice (some ⟨g, 0, none⟩) (zs.length + 8) (zs.length + 8)) ∧ w.heap.size ≤ g ∧ Row w' g (u8s (zs ++ [0, 0, 0, 0, 0, 0, 0, 0])) 5 ∧ Below w.heap.size w w' := by
  obtain ⟨p, cap, rfl, hcap⟩ := hv.len
  have hm := Mem.start w
  have HV : Hid (SlOld w (.slice p zs.length cap) zs) := hv
  have HNE : Hid (splice (List.replicate (zs.length + 8) (.int .u8 0)) 0 (u8s (zs.take zs.length)) = u8s (zs ++ [0, 0, 0, 0, 0, 0, 0, 0])) := by
    show _ = _
    have e : List.replicate (zs.length + 8) (Value.int .u8 0) = u8s (List.replicate (zs.length + 8) 0) := by simp [u8s]
    rw [List.take_of_length_le (Nat.le_refl _), e, splice_zeros zs (zs.length + 8), show zs.length + 8 - zs.length = 8 by omega]
    rfl
  have HMI : Hid (zs.length = Nat.min zs.length (zs.length + 8)) := (Nat.min_eq_left (by omega)).symm
  clear hv
  go_enter Tryz.func120, Tryz.ntmps120
  go_wp2_with (first
    | ((with_reducible refine at_op (some 10) (.makeSlice 29 (.tmp 9) (.tmp 9)) ?_); go_must (refine wpl_make _ un_bs _ made_u8 rfl (zs.length + 8) rfl (by first | rfl | omega | go_num) rfl (by first | rfl | omega | go_num) (by omega) hm ?_); clear hm; intro w1 g hm)
    | ((with_reducible refine at_op (some 13) (.call { callee := .builtin .copy, args := #[.tmp 11, .tmp 12], argTypes := #[29, 29] }) ?_); go_must (refine wpl_cp 0 zs zs.length (u8s (zs ++ [0, 0, 0, 0, 0, 0, 0, 0])) hm rfl rfl rfl _ un_bs sz_u8 (SlOld.mem HV.out hm) HMI.out (by simp) HNE.out ?_); clear hm; intro w2 hm))
  go_ret
  have hf := hm.fresh _ (List.mem_cons_self ..)
  exact ⟨g, rfl, by simpa using hf, hm.get 0 rfl, hm.below⟩
set_option maxHeartbeats 2000000 in
theorem putNumber_at8 (g : Nat) (zs : List Int) (n : Int) (w : World) (hr : Row w g (u8s (zs ++ [0, 0, 0, 0, 0, 0, 0, 0])) 5) :
    Calls Tryz.prog 121 #[.slice (some ⟨g, zs.length, none⟩) 8 8, .int .u64 n] w fun e w' => e = .returned (.tuple #[]) ∧ Row w' g (u8s (zs ++ be8 n)) 5 ∧ Upd g w w' := by
  have hm := Mem.enter hr
  have HLN : Hid (((u8s (zs ++ [0, 0, 0, 0, 0, 0, 0, 0])).length = zs.length + 8)) := by show _ = _; simp [u8s_length]
  clear hr
  go_enter Tryz.func121, Tryz.ntmps121
  go_wp2_with fail
  refine wp_loop_rounds 9 ?_
  iterate 9 (rw [rounds_succ]; go_wp2_with (first
    | (((with_reducible refine at_op none (.store 5 (.tmp 16) (.tmp 15)) ?_); refine wpl_stc 0 _ _ hm rfl (rfl) rfl sz_u8 (by first | (rw [HLN.out]; omega) | (simp only [List.length_set]; rw [HLN.out]; omega)) rfl rfl ?_; clear hm; intro w9 hm))))
  go_end0
  have hrow := hm.get 0 rfl
  exact ⟨rfl, by have e := set_eight zs (n / 256 / 256 / 256 / 256 / 256 / 256 / 256 % 256) (n / 256 / 256 / 256 / 256 / 256 / 256 % 256) (n / 256 / 256 / 256 / 256 / 256 % 256) (n / 256 / 256 / 256 / 256 % 256) (n / 256 / 256 / 256 % 256) (n / 256 / 256 % 256) (n / 256 % 256) (n % 256); rw [show be8 n = [n / 256 / 256 / 256 / 256 / 256 / 256 / 256 % 256, n / 256 / 256 / 256 / 256 / 256 / 256 % 256, n / 256 / 256 / 256 / 256 / 256 % 256, n / 256 / 256 / 256 / 256 % 256, n / 256 / 256 / 256 % 256, n / 256 / 256 % 256, n / 256 % 256, n % 256] from rfl, ← e]; exact hrow, hm.toUpd⟩
set_option maxHeartbeats 600000 in
theorem put_at8 (zs : List Int) (v : Value) (n : Int) (hzl : zs.length ≤ 60000) (w : World) (hv : SlOld w v zs) :
    Calls Tryz.prog 94 #[v, .int .u64 n, .int .i64 8] w fun e w' => ∃ g, e = .returned (.slice (some ⟨g, 0, none⟩) (zs.length + 8) (zs.length + 8)) ∧ w.heap.size ≤ g ∧ Row w' g (u8s (zs ++ be8 n)) 5 ∧ Below w.heap.size w w' := by
  obtain ⟨p, cap, rfl, hcap⟩ := hv.len
  have hm := Mem.start w
  have HV : Hid (SlOld w (.slice p zs.length cap) zs) := hv
  clear hv
  go_enter Tryz.func94, Tryz.ntmps94
  go_wp2_with (first
    | (go_at_call 119; refine (held_eight _).mono ?_; rintro e w1 ⟨rfl, rfl⟩)
    | (go_at_call 120; refine (longer_at8 zs _ hzl _ HV.out).mono ?_; rintro e w2 ⟨g, rfl, hge, hr, hb⟩; have HGE : Hid _ := hge; have HR : Hid (Row w2 g (u8s (zs ++ [0, 0, 0, 0, 0, 0, 0, 0])) 5) := hr; have HBL : Hid _ := hb; clear hge hr hb)
    | ((with_reducible refine at_op (some 17) (.slice 29 (.tmp 14) (some (.tmp 16)) none none) ?_); go_must (refine wpl_slo un_bs sz_u8 zs.length zs.length 8 8 (by omega) (by omega) (by omega) (by omega) (by omega) rfl rfl rfl ?_))
    | (go_at_call 121; refine (putNumber_at8 g zs n _ HR.out).mono ?_; rintro e w3 ⟨rfl, hr2, hu⟩; have HR2 : Hid (Row w3 g (u8s (zs ++ be8 n)) 5) := hr2; have HU2 : Hid (Upd g w2 w3) := hu; clear hr2 hu))
  go_ret
  exact ⟨g, rfl, HGE.out, HR2.out, below_upd HBL.out HU2.out HGE.out HBL.out.size⟩
set_option maxHeartbeats 600000 in
theorem nonce_any (p n : Int) (hp : 0 ≤ p ∧ p < 4294967296) (w : World) :
    Calls Tryz.prog 96 #[.int .u32 p, .int .u64 n] w fun e w' => e = .returned (.agg (u8s (nonceOf p n)).toArray) ∧ Below w.heap.size w w' := by
  obtain ⟨hp0, hp1⟩ := hp
  have hm := Mem.start w
  have HWR : Hid (IntKind.u64.wrap p = p) := wrapu_int p hp0 hp1
  have HL4 : Hid ((be4 p).length = 4) := be4_length p
  have HLN : Hid ((u8s (nonceOf p n)).length = 12) := by show _ = _; rw [u8s_length, nonceOf_length]
  go_enter Tryz.func96, Tryz.ntmps96
  go_wp2_with (first
    | ((with_reducible refine at_op (some 4) (.alloc 138) ?_); refine wpl_alloc _ zero_nce hm ?_; clear hm; intro w1 g4 hm))
  refine (put_four [] _ p (by simp) _ ⟨none, 0, rfl, Nat.le_refl _, fun h => absurd h (by simp)⟩).mono ?_
  rintro e w2 ⟨g7, rfl, hge, hr, hb⟩
  replace hm := hm.callNew hb hr hge
  clear hb hr hge
  rw [show ([] : List Int).length + 4 = 4 from rfl]
  replace hm : Mem w [] w2 [(g7, u8s (be4 p), 5), (g4, u8s (List.replicate 12 0), 138)] := hm
  go_wp2_with fail
  refine (put_at8 (be4 p) _ n (by rw [be4_length]; omega) _ (old_all (hm.get 0 rfl) (be4_length p) (Nat.le_refl _))).mono ?_
  rintro e w3 ⟨g9, he, hge, hr, hb⟩
  rw [be4_length] at he
  subst he
  replace hm := hm.callNew hb hr hge
  clear hb hr hge
  replace hm : Mem w [] w3 [(g9, u8s (nonceOf p n), 5), (g7, u8s (be4 p), 5), (g4, u8s (List.replicate 12 0), 138)] := hm
  go_wp2_with (first
    | ((with_reducible refine at_op (some 10) (.sliceToArrayPointer 138 (.tmp 9)) ?_); go_must (refine wpl_s2a 12 un_nce (by omega) rfl ?_))
    | ((with_reducible refine at_op (some 11) (.load 138 (.tmp 10)) ?_); refine wpl_ldw 0 hm rfl rfl _ un_nce rfl 12 sz_nce (HLN.out) ?_)
    | ((with_reducible refine at_op none (.store 138 (.tmp 4) (.tmp 11)) ?_); refine wpl_stw 2 (u8s (nonceOf p n)) hm rfl rfl rfl 12 sz_nce (by simp [u8s_length]) (HLN.out) (u8s_one _) ?_; clear hm; intro w4 hm))
  exact ret_cell 2 hm rfl Tryz.results96 rfl _ un_nce rfl 12 sz_nce HLN.out rfl ⟨rfl, hm.below⟩
end Go.Proofs.YtjmlgjbojmlibaaGreatDoor
namespace Go.Proofs.YtjmlgjbojmlibaaGreatDoor
open Go Go.RowKit
theorem run_bsl4s {P : Program} (w : World) {t elem : TypeId} (z v0 v1 v2 v3 : Value) (hu : P.underlying t = some (.slice elem)) (hi : (P.info? elem).map (fun i => (i.zero, i.size)) = some (some z, 1)) (hz : z.cells = #[z]) (h0 : v0.cells = #[v0]) (h1 : v1.cells = #[v1]) (h2 : v2.cells = #[v2]) (h3 : v3.cells = #[v3]) :
    (Instr.buildSlice t 4 #[(0, v0), (1, v1), (2, v2), (3, v3)]).run P w = .ok (.slice (some ⟨w.heap.size, 0, none⟩) 4 4) (w.alloc (.cells [v0, v1, v2, v3].toArray elem)) := by
  obtain ⟨hz1, hs1⟩ := zero_of_info hi
  cases hq : P.info? elem with
  | none => simp [hq] at hi
  | some q =>
    have hs : q.size = 1 := by simpa [hq] using hs1
    have e : Array.map (fun x => ([z][x % 1]?).getD default) (Array.range 4) = #[z, z, z, z] := by
      apply Array.ext
      · simp
      · intro i h1 h2
        have h3 : i = 0 ∨ i = 1 ∨ i = 2 ∨ i = 3 := by
          have : i < 4 := by simpa using h2
          omega
        rcases h3 with rfl | rfl | rfl | rfl <;> simp
    simp [Instr.buildSlice, run_underlying hu, sizeOf, typeInfo, hq, hs, hz1, hz, Instr.fill, h0, h1, h2, h3, newRow, newObj]
    rw [e]
    rfl
section
variable {P : Program} {ops : Array Oper} {rest : List Oper} {a : Act} {w w0 w' : World} {Q : Exit → Act → World → Prop} {dst : Option Tmp} {typ : TypeId} {pos : String} {aft : Array Edge} {gd : Option (Nat × Bool)} {S : List Nat} {rows : List (Nat × List Value × TypeId)}
theorem ret_ct {fn : Func} {R : Ending → World → Prop} {p u : Tmp} {ty : TypeId} (i : Nat) {g : Nat} {l : List Value} {t : TypeId} (v : Value) (hm : Mem w0 S w rows) (hi : rows[i]? = some (g, l, t))
    (hres : fn.results = #[.cell p ty, .tmp u]) (hp : a.tmps.getD p undef = .pointer (some ⟨g, 0, none⟩)) (hv : a.tmps.getD u undef = v) (d : TypeDesc) (hu : P.underlying ty = some d) (hd : (match d with | .struct _ | .array _ _ => true | _ => false) = true)
    (n : Nat) (hs : (P.info? ty).map (·.size) = some n) (hn : l.length = n) (hd0 : a.defers = []) (hR : R (.returned (.tuple #[.agg l.toArray, v])) w) : bodyPost P fn R .ret a w := by
  refine bodyPost_ret ?_ hd0 hR
  rw [results_cell_tmp hres, hp, hv]
  have hl := run_loadVar_row (P := P) w g t ty l.toArray (0, 0) d (hm.get i hi) hu hd (by rw [hs]; simp [hn])
  simp [asAddr, hl]
theorem ret_tc {fn : Func} {R : Ending → World → Prop} {p u : Tmp} {ty : TypeId} (i : Nat) {g : Nat} {l : List Value} {t : TypeId} (v : Value) (hm : Mem w0 S w rows) (hi : rows[i]? = some (g, l, t))
    (hres : fn.results = #[.tmp u, .cell p ty]) (hp : a.tmps.getD p undef = .pointer (some ⟨g, 0, none⟩)) (hv : a.tmps.getD u undef = v) (d : TypeDesc) (hu : P.underlying ty = some d) (hd : (match d with | .struct _ | .array _ _ => true | _ => false) = true)
    (n : Nat) (hs : (P.info? ty).map (·.size) = some n) (hn : l.length = n) (hd0 : a.defers = []) (hR : R (.returned (.tuple #[v, .agg l.toArray])) w) : bodyPost P fn R .ret a w := by
  refine bodyPost_ret ?_ hd0 hR
  have hl := run_loadVar_row (P := P) w g t ty l.toArray (0, 0) d (hm.get i hi) hu hd (by rw [hs]; simp [hn])
  have hp' : a.tmps[p]?.getD undef = .pointer (some ⟨g, 0, none⟩) := by simpa using hp
  have hv' : a.tmps[u]?.getD undef = v := by simpa using hv
  simp [results, hres, hp', hv', asAddr, hl]
theorem wpl_allocB {ty : TypeId} (z : List Value) (hz : ∀ w, (zeroValue ty).run P w = .ok (.agg z.toArray) w) (hm : Mem w0 S w rows)
    (h : ∀ w' g, Below w.heap.size w w' → Mem w0 S w' ((g, z, ty) :: rows) → wpList P ops Q rest (a.put dst (.pointer (some ⟨g, 0, none⟩))) w') :
    wpList P ops Q ({ dst := dst, op := .alloc ty, type := typ, pos := pos, after := aft, guard := none } :: rest) a w := by
  refine wpList_plain rfl fun K hK => ?_
  have hh := hK _ _ (h _ _ ((Below.refl _ _).alloc (Nat.le_refl _) _) (hm.alloc z ty))
  unfold Oper.wp execOp
  simp [go_sem, hz, newVar, newObj, Value.cells]
  exact hh
/-- A row of the call's own is turned, and no longer spoken of. -/
theorem Mem.lose {g : Nat} {l : List Value} {t : TypeId} (hm : Mem w0 S w ((g, l, t) :: rows)) (hu : Upd g w w') : Mem w0 S w' rows := by
  refine ⟨hu.os.trans hm.os, hu.tape.trans hm.tape, hu.output.trans hm.output, Nat.le_trans hm.size hu.size, fun k hk hn => ?_, fun r hr => ?_, (hm.tail).nodup, (hm.tail).fresh⟩
  · have hf := hm.fresh _ (List.mem_cons_self ..)
    refine (hu.block k (Nat.lt_of_lt_of_le hk hm.size) (fun e => ?_)).trans (hm.block k hk hn)
    subst e
    rcases hf with hf | hf
    · exact hn hf
    · exact absurd hk (Nat.not_lt.2 hf)
  · refine hu.row ((hm.tail).row r hr) (fun e => ?_)
    have hd := hm.nodup
    simp only [List.map_cons, List.nodup_cons] at hd
    exact hd.1 (e ▸ List.mem_map_of_mem hr)
theorem upd_freeze (g k : Nat) (w : World) : Upd g w (w.freeze ⟨g, k, none⟩ 1) := by
  unfold World.freeze
  rw [if_neg (by decide)]
  refine ⟨rfl, rfl, rfl, ?_, fun i hi hn => ?_⟩
  · simp
  · simp only [Array.getElem?_modify]
    rw [if_neg (fun h => hn h.symm)]
theorem seg_freeze {g k : Nat} {cs : List Int} {t : TypeId} (hr : Row w g (u8s cs) t) : Seg (w.freeze ⟨g, k, none⟩ 1) g 0 cs := by
  have hh : (w.freeze ⟨g, k, none⟩ 1).heap[g]? = some (.cells (u8s cs).toArray t (k, k + 1)) := by
    unfold World.freeze
    rw [if_neg (by decide)]
    simp only [Array.getElem?_modify]
    rw [if_pos trivial, hr]
    rfl
  intro j hj
  rw [cell_of_row _ _ _ _ _ _ hh, Nat.zero_add]
  simpa using u8s_get cs j hj
/-- A constant string's bytes: the row that holds them gets its mark. -/
theorem wpl_cvl {t e : TypeId} {x : Operand} (cs : List Int) (hw : Region.wanted { dst := dst, op := .convert t t x, type := typ, pos := pos, after := aft, guard := gd } (yielded ops a.tmps) = true) (ht : P.underlying t = some (.slice e)) (he : P.underlying e = some (.int .u8)) {g n : Nat} (hx : a.eval x = .slice (some ⟨g, 0, none⟩) n n) (hn : n = cs.length) (hm : Mem w0 S w ((g, u8s cs, e) :: rows))
    (h : ∀ w', Mem w0 S w' rows → SlOld w' (.slice (some ⟨g, 0, none⟩) n n) cs → wpList P ops Q rest (a.put dst (.slice (some ⟨g, 0, none⟩) n n)) w') :
    wpList P ops Q ({ dst := dst, op := .convert t t x, type := typ, pos := pos, after := aft, guard := gd } :: rest) a w := by
  subst hn
  have hr := hm.get 0 rfl
  have hsh : w.shape? g = some (e, cs.length) := by
    unfold World.shape?
    rw [hr]
    simp [u8s_length]
  have hrun : (convert t t (.slice (some ⟨g, 0, none⟩) cs.length cs.length)).run P w = .ok (.slice (some ⟨g, 0, none⟩) cs.length cs.length) (w.freeze ⟨g, cs.length, none⟩ 1) := by
    simp [convert, run_underlying ht, run_underlying he, markStringish, hsh]
  refine wpList_step fun K hK => ?_
  rw [if_pos hw]
  have hh := hK _ _ (h _ (hm.lose (upd_freeze g cs.length w)) ⟨_, _, rfl, Nat.le_refl _, fun _ => ⟨g, 0, rfl, seg_freeze hr⟩⟩)
  unfold Oper.wp execOp
  simp only [hx, hrun, Sem.run_bind, Sem.run_pure, Result.andThen_ok]
  exact hh
theorem run_neqa (w : World) (t e : TypeId) (n : Nat) (k : IntKind) (ht : P.underlying t = some (.array n e)) (he : P.underlying e = some (.int k)) (hs : (P.info? e).map (·.size) = some 1) (xs ys : List Int) (hx : xs.length = n) (hy : ys.length = n) :
    (binOp .neq t (.agg (xs.map (Value.int k)).toArray) (.agg (ys.map (Value.int k)).toArray)).run P w = .ok (.bool (!decide (xs = ys))) w := by
  have h := run_eqa (P := P) w 9998 t e n k ht he hs xs ys hx hy
  have h2 : (Op.equal t (.agg (xs.map (Value.int k)).toArray) (.agg (ys.map (Value.int k)).toArray)).run P w = .ok (decide (xs = ys)) w := h
  simp only [binOp, Sem.run_bind, h2, Result.andThen_ok, Sem.run_pure]
theorem exec_nea {t : TypeId} {x y : Operand} {rt : TypeId} (e : TypeId) (n : Nat) (k : IntKind) (xs ys : List Int) (v : Bool) (hv : (!decide (xs = ys)) = v) (hx : a.eval x = .agg (xs.map (Value.int k)).toArray) (hy : a.eval y = .agg (ys.map (Value.int k)).toArray) (ht : P.underlying t = some (.array n e)) (he : P.underlying e = some (.int k)) (hs : (P.info? e).map (·.size) = some 1) (hm : P.eqGuardType P.depth t = false) (h1 : xs.length = n) (h2 : ys.length = n) :
    (execOp a.eval { dst := dst, op := .binOp .neq t x y rt, type := typ, pos := pos, after := aft, guard := gd }).run P w = .ok (.value (.bool v)) w := by
  subst hv
  unfold execOp
  simp only [hx, hy, Sem.run_bind, run_eqGuard_agg w .neq t x y _ _ hm, Sem.run_pure, Result.andThen_ok, run_neqa w t e n k ht he hs xs ys h1 h2]
theorem exec_eqK {t : TypeId} {x y : Operand} {rt : TypeId} (e : TypeId) (n : Nat) (k : IntKind) (xs ys : List Int) (v : Bool) (hv : decide (xs = ys) = v) (hx : a.eval x = .agg (xs.map (Value.int k)).toArray) (hy : a.eval y = .agg (ys.map (Value.int k)).toArray) (ht : P.underlying t = some (.array n e)) (he : P.underlying e = some (.int k)) (hs : (P.info? e).map (·.size) = some 1) (hm : P.eqGuardType P.depth t = false) (h1 : xs.length = n) (h2 : ys.length = n) :
    (execOp a.eval { dst := dst, op := .binOp .eql t x y rt, type := typ, pos := pos, after := aft, guard := gd }).run P w = .ok (.value (.bool v)) w := by
  subst hv
  exact exec_eqa e n k xs ys hx hy ht he hs hm h1 h2
theorem Mem.two' {a b c : Nat × List Value × TypeId} (hm : Mem w0 S w (a :: b :: c :: rows)) : Mem w0 S w (a :: c :: rows) := hm.sub (List.Sublist.cons_cons _ (List.sublist_cons_self _ _))
end
end Go.Proofs.YtjmlgjbojmlibaaGreatDoor
