/- The contracts of bits.Put at four bytes, and of Derive. -/
import Derived.Test.YtonbfbcbmdnelaaDoorMacExpandF
import Derived.Lib.ConvBytes
namespace Go.Proofs.YtonbfbcbmdnelaaDoor
open Go Go.RowKit

theorem un_strT : Tryd.prog.underlying 9 = some .string := Tryd.underlying9
theorem wpl_slo {P : Program} {ops : Array Oper} {rest : List Oper} {a : Act} {w : World} {dst : Option Tmp} {typ : TypeId} {pos : String} {aft : Array Edge} {Q : Exit → Act → World → Prop} {ty : TypeId} {x lo : Operand} {elem : TypeId} (hu : P.underlying ty = some (.slice elem)) (hs : (P.info? elem).map (·.size) = some 1) {g o len cap : Nat} (l o' m c : Nat) (ho : o + l = o') (hm : len - l = m) (hc : cap - l = c) {il : Int} (hl : l ≤ len) (hlc : l < cap) (hx : a.eval x = .slice (some ⟨g, o, none⟩) len cap)
    (hlo : a.eval lo = .int .i64 il) (hil : il = (l : Int)) (h : wpList P ops Q rest (a.put dst (.slice (some ⟨g, o', none⟩) m c)) w) :
    wpList P ops Q ({ dst := dst, op := .slice ty x (some lo) none none, type := typ, pos := pos, after := aft, guard := none } :: rest) a w := by
  subst hil ho hm hc
  refine wpList_plain rfl fun K hK => ?_
  have hh := hK _ _ h
  unfold Oper.wp execOp
  simp only [hx, hlo, Option.map_some, Option.map_none, run_slo (P := P) w hu hs l hl hlc, Sem.run_bind, Sem.run_pure, Result.andThen_ok]
  exact hh
theorem held_four (w : World) :
    Calls Tryd.prog 29 #[.int .i64 4] w fun e w' => e = .returned (.int .i64 4) ∧ w' = w := by
  go_enter Tryd.func29, Tryd.ntmps29
  go_wp2
  go_ret
  exact ⟨rfl, rfl⟩
set_option maxHeartbeats 600000 in
theorem longer_four (zs : List Int) (v : Value) (hzl : zs.length ≤ 60000) (w : World) (hv : SlOld w v zs) :
    Calls Tryd.prog 30 #[v, .int .i64 4] w fun e w' => ∃ g, e = .returned (.slice (some ⟨g, 0, none⟩) (zs.length + 4) (zs.length + 4)) ∧ w.heap.size ≤ g ∧ Row w' g (u8s (zs ++ [0, 0, 0, 0])) 5 ∧ Below w.heap.size w w' := by
  obtain ⟨p, cap, rfl, hcap⟩ := hv.len
  have hm := Mem.start w
  have HV : Hid (SlOld w (.slice p zs.length cap) zs) := hv
  have HNE : Hid (splice (List.replicate (zs.length + 4) (.int .u8 0)) 0 (u8s (zs.take zs.length)) = u8s (zs ++ [0, 0, 0, 0])) := by
    show _ = _
    have e : List.replicate (zs.length + 4) (Value.int .u8 0) = u8s (List.replicate (zs.length + 4) 0) := by simp [u8s]
    rw [List.take_of_length_le (Nat.le_refl _), e, splice_zeros zs (zs.length + 4), show zs.length + 4 - zs.length = 4 by omega]
    rfl
  have HMI : Hid (zs.length = Nat.min zs.length (zs.length + 4)) := (Nat.min_eq_left (by omega)).symm
  clear hv
  go_enter Tryd.func30, Tryd.ntmps30
  go_wp2_with (first
    | ((with_reducible refine at_op (some 10) (.makeSlice 22 (.tmp 9) (.tmp 9)) ?_); go_must (refine wpl_make _ un_bs _ made_u8 rfl (zs.length + 4) rfl (by first | rfl | omega | go_num) rfl (by first | rfl | omega | go_num) (by omega) hm ?_); clear hm; intro w1 g hm)
    | ((with_reducible refine at_op (some 13) (.call { callee := .builtin .copy, args := #[.tmp 11, .tmp 12], argTypes := #[22, 22] }) ?_); go_must (refine wpl_cp 0 zs zs.length (u8s (zs ++ [0, 0, 0, 0])) hm rfl rfl rfl _ un_bs sz_u8 (SlOld.mem HV.out hm) HMI.out (by simp) HNE.out ?_); clear hm; intro w2 hm))
  go_ret
  have hf := hm.fresh _ (List.mem_cons_self ..)
  exact ⟨g, rfl, by simpa using hf, hm.get 0 rfl, hm.below⟩
theorem set_four (zs : List Int) (a b c d : Int) : ((((u8s (zs ++ [0, 0, 0, 0])).set (zs.length + 3) (.int .u8 d)).set (zs.length + 2) (.int .u8 c)).set (zs.length + 1) (.int .u8 b)).set (zs.length + 0) (.int .u8 a) = u8s (zs ++ [a, b, c, d]) := by
  rw [u8s_set, u8s_set, u8s_set, u8s_set]
  simp [u8s, List.set_append_right]
set_option maxHeartbeats 1000000 in
theorem putNumber_four (g : Nat) (zs : List Int) (n : Int) (w : World) (hr : Row w g (u8s (zs ++ [0, 0, 0, 0])) 5) :
    Calls Tryd.prog 31 #[.slice (some ⟨g, zs.length, none⟩) 4 4, .int .u64 n] w fun e w' => e = .returned (.tuple #[]) ∧ Row w' g (u8s (zs ++ be4 n)) 5 ∧ Upd g w w' := by
  have hm := Mem.enter hr
  have HLN : Hid (((u8s (zs ++ [0, 0, 0, 0])).length = zs.length + 4)) := by show _ = _; simp [u8s_length]
  clear hr
  go_enter Tryd.func31, Tryd.ntmps31
  go_wp2_with fail
  refine wp_loop_rounds 5 ?_
  iterate 5 (rw [rounds_succ]; go_wp2_with (first
    | (((with_reducible refine at_op none (.store 5 (.tmp 16) (.tmp 15)) ?_); refine wpl_stc 0 _ _ hm rfl (rfl) rfl sz_u8 (by first | (rw [HLN.out]; omega) | (simp only [List.length_set]; rw [HLN.out]; omega)) rfl rfl ?_; clear hm; intro w9 hm))))
  go_end0
  have hrow := hm.get 0 rfl
  exact ⟨rfl, by have e := set_four zs (n / 256 / 256 / 256 % 256) (n / 256 / 256 % 256) (n / 256 % 256) (n % 256); rw [show be4 n = [n / 256 / 256 / 256 % 256, n / 256 / 256 % 256, n / 256 % 256, n % 256] from rfl, ← e]; exact hrow, hm.toUpd⟩
set_option maxHeartbeats 600000 in
theorem put_four (zs : List Int) (v : Value) (n : Int) (hzl : zs.length ≤ 60000) (w : World) (hv : SlOld w v zs) :
    Calls Tryd.prog 21 #[v, .int .u64 n, .int .i64 4] w fun e w' => ∃ g, e = .returned (.slice (some ⟨g, 0, none⟩) (zs.length + 4) (zs.length + 4)) ∧ w.heap.size ≤ g ∧ Row w' g (u8s (zs ++ be4 n)) 5 ∧ Below w.heap.size w w' := by
  obtain ⟨p, cap, rfl, hcap⟩ := hv.len
  have hm := Mem.start w
  have HV : Hid (SlOld w (.slice p zs.length cap) zs) := hv
  clear hv
  go_enter Tryd.func21, Tryd.ntmps21
  go_wp2_with (first
    | (go_at_call 29; refine (held_four _).mono ?_; rintro e w1 ⟨rfl, rfl⟩)
    | (go_at_call 30; refine (longer_four zs _ hzl _ HV.out).mono ?_; rintro e w2 ⟨g, rfl, hge, hr, hb⟩; have HGE : Hid _ := hge; have HR : Hid (Row w2 g (u8s (zs ++ [0, 0, 0, 0])) 5) := hr; have HBL : Hid _ := hb; clear hge hr hb)
    | ((with_reducible refine at_op (some 17) (.slice 22 (.tmp 14) (some (.tmp 16)) none none) ?_); go_must (refine wpl_slo un_bs sz_u8 zs.length zs.length 4 4 (by omega) (by omega) (by omega) (by omega) (by omega) rfl rfl rfl ?_))
    | (go_at_call 31; refine (putNumber_four g zs n _ HR.out).mono ?_; rintro e w3 ⟨rfl, hr2, hu⟩; have HR2 : Hid (Row w3 g (u8s (zs ++ be4 n)) 5) := hr2; have HU2 : Hid (Upd g w2 w3) := hu; clear hr2 hu))
  go_ret
  exact ⟨g, rfl, HGE.out, HR2.out, below_upd HBL.out HU2.out HGE.out HBL.out.size⟩
/-- The bytes of a string. -/
def strB (s : ByteArray) : List Int := s.data.toList.map fun b => (b.toNat : Int)
theorem strB_length (s : ByteArray) : (strB s).length = s.size := by
  simp only [strB, List.length_map, Array.length_toList]
  rfl
theorem strB_bytes (s : ByteArray) : Bytes (strB s) := by
  intro x hx
  obtain ⟨b, _, rfl⟩ := List.mem_map.1 hx
  have := b.toNat_lt
  omega
theorem str_old (w : World) (e : TypeId) (s : ByteArray) : SlOld (Lib.bytesWorld w e s) (.slice (some ⟨w.heap.size, 0, none⟩) s.size (grownCap w s.size 0 e)) (strB s) := by
  refine ⟨_, _, by rw [strB_length], by rw [strB_length]; exact grownCap_ge _ _ _ _, fun _ => ⟨w.heap.size, 0, rfl, fun j hj => ?_⟩⟩
  rw [strB_length] at hj
  have hj2 : j < s.data.size := hj
  rw [Nat.zero_add, Lib.bytesWorld_cell w e s j hj]
  simp [strB, Array.getElem?_eq_getElem hj2]
theorem str_below (w : World) (e : TypeId) (s : ByteArray) : Below w.heap.size w (Lib.bytesWorld w e s) :=
  ⟨rfl, rfl, rfl, by rw [Lib.bytesWorld_size]; omega, fun k hk => Lib.bytesWorld_at_old w e s k hk⟩
theorem wrapu_int (n : Int) (h0 : 0 ≤ n) (h1 : n < 4294967296) : IntKind.u64.wrap n = n := by
  simp [IntKind.wrap, IntKind.bits, IntKind.signed]
  omega
theorem wpl_strb {P : Program} {ops : Array Oper} {rest : List Oper} {a : Act} {w w0 : World} {dst : Option Tmp} {typ : TypeId} {pos : String} {aft : Array Edge} {S : List Nat} {rows : List (Nat × List Value × TypeId)} {Q : Exit → Act → World → Prop} {st bt e : TypeId} {x : Operand} (hs : P.underlying st = some .string) (hd : P.underlying bt = some (.slice e)) (he : P.underlying e = some (.int .u8)) (s : ByteArray) (hx : a.eval x = .string s) (hm : Mem w0 S w rows)
    (h : ∀ w' g c, Below w.heap.size w w' → Mem w0 S w' rows → SlOld w' (.slice (some ⟨g, 0, none⟩) s.size c) (strB s) → wpList P ops Q rest (a.put dst (.slice (some ⟨g, 0, none⟩) s.size c)) w') :
    wpList P ops Q ({ dst := dst, op := .convert st bt x, type := typ, pos := pos, after := aft, guard := none } :: rest) a w := by
  refine wpList_plain rfl fun K hK => ?_
  have hh := hK _ _ (h _ _ _ (str_below w e s) (hm.call (str_below w e s)) (str_old w e s))
  unfold Oper.wp execOp
  simp only [hx, Lib.run_convert_string_bytes (P := P) w st bt e s hs hd he, Sem.run_bind, Sem.run_pure, Result.andThen_ok]
  exact hh
set_option maxHeartbeats 800000 in
set_option maxRecDepth 100000 in
theorem derive_any (ks : List Int) (s : ByteArray) (n : Int) (hkl : ks.length = 32) (hkb : Bytes ks) (hsl : s.size ≤ 50000) (hn : 0 ≤ n ∧ n < 4294967296) (w : World) (ht : Tab w) :
    Calls Tryd.prog 12 #[.agg (u8s ks).toArray, .string s, .int .u32 n] w fun e w' => e = .returned (.agg (u8s (deriveOf ks (strB s) n)).toArray) ∧ Below w.heap.size w w' := by
  obtain ⟨hn0, hn1⟩ := hn
  have hm := Mem.start w
  have HT : Hid _ := ht
  have HKL : Hid _ := hkl
  have HKB : Hid _ := hkb
  have HSL : Hid ((strB s).length ≤ 50000) := by show _ ≤ _; rw [strB_length]; exact hsl
  have HIB : Hid (Bytes (strB s ++ be4 n)) := (strB_bytes s).append (be4_bytes n)
  have HU : Hid ((u8s ks).length = 32) := by show _ = _; rw [u8s_length]; exact hkl
  have HDL : Hid ((u8s (deriveOf ks (strB s) n)).length = 32) := by show _ = _; rw [u8s_length, deriveOf_length]
  have HSZ : Hid (s.size + 4 = (strB s ++ be4 n).length) := by show _ = _; rw [List.length_append, strB_length, be4_length]
  have HNE : Hid (splice (u8s (List.replicate 32 0)) 0 (u8s ((deriveOf ks (strB s) n).take 32)) = u8s (deriveOf ks (strB s) n)) := by
    show _ = _
    rw [List.take_of_length_le (by rw [deriveOf_length]; exact Nat.le_refl _)]
    exact splice_all _ _ (by rw [u8s_length, u8s_length, deriveOf_length]; simp)
  clear ht hkl hkb hsl
  go_enter Tryd.func12, Tryd.ntmps12
  go_wp2_with (first
    | ((with_reducible refine at_op (some 3) (.box 24 (.tmp 0)) ?_); refine wpl_box (u8s ks) rfl hm ?_; clear hm; intro w1 g3 hm)
    | ((with_reducible refine at_op (some 6) (.alloc 24) ?_); refine wpl_alloc _ zero_key hm ?_; clear hm; intro w2 g6 hm)
    | ((with_reducible refine at_op (some 7) (.alloc 24) ?_); refine wpl_alloc _ zero_key hm ?_; clear hm; intro w3 g7 hm))

  refine wp_ends0 ?_
  refine anyH_start (T := fun W => Mem w [] W [(g3, u8s ks, 24)]) (by kernel_rfl) hm ?_
  clear hm
  intro w4 hm
  refine anyH_take 0 (v := .slice (some ⟨g7, 0, none⟩) 32 32) rfl (by kernel_rfl) (by kernel_rfl) (by kernel_rfl) rfl (fun W _ => by go_simp) hm.tail.tail ?_
  go_simp
  refine anyH_take 1 (v := .agg (u8s ks).toArray) rfl (by kernel_rfl) (by kernel_rfl) (by kernel_rfl) rfl (fun W hW => exec_lds 0 _ (Mem.get hW 0 rfl) rfl _ un_key rfl 32 sz_key (by rw [HU.out]; omega) (by rw [List.drop_zero, List.take_of_length_le (Nat.le_of_eq HU.out)])) hm.tail.tail ?_
  go_simp
  refine anyH_take 2 (v := .string s) rfl (by kernel_rfl) (by kernel_rfl) (by kernel_rfl) rfl (fun W _ => by go_simp) hm.tail.tail ?_
  go_simp
  refine anyH_take 4 (v := .int .u32 n) rfl (by kernel_rfl) (by kernel_rfl) (by kernel_rfl) rfl (fun W _ => by go_simp) hm.tail.tail ?_
  go_simp
  refine anyH_take 5 (v := .int .u64 n) rfl (by kernel_rfl) (by kernel_rfl) (by kernel_rfl) rfl (fun W _ => by go_simp; exact wrapu_int n hn0 hn1) hm.tail.tail ?_
  go_simp
  refine wpAnyH_all (rs := [3]) (by kernel_rfl) (by simp) ?_
  intro i hi
  simp only [List.mem_cons, List.not_mem_nil, or_false] at hi
  subst hi
  refine anyH_op 3 rfl rfl ?_
  intro K hK
  refine wpl_strb un_strT un_bs un_u8 s rfl hm ?_
  clear hm
  intro w5 g11 c11 hb5 hm hold
  have HOL : Hid (SlOld w5 (.slice (some ⟨g11, 0, none⟩) s.size c11) (strB s)) := hold
  clear hb5 hold
  refine wpList_nil ?_
  refine hK _ _ hm.tail.tail ?_
  clear hK K
  refine wpAnyH_all (rs := [6]) (by kernel_rfl) (by simp) ?_
  intro i hi
  simp only [List.mem_cons, List.not_mem_nil, or_false] at hi
  subst hi
  refine anyH_op 6 rfl rfl ?_
  intro K hK
  go_wp2_with (go_at_call 21; refine (put_four (strB s) _ n (Nat.le_trans HSL.out (by omega)) _ HOL.out).mono ?_; rintro e w6 ⟨g14, rfl, hge, hr, hb⟩; replace hm := hm.callNew hb hr hge; clear hb hr hge)
  refine hK _ _ hm.tail.tail.tail ?_
  clear hK K
  refine wpAnyH_all (rs := [7]) (by kernel_rfl) (by simp) ?_
  intro i hi
  simp only [List.mem_cons, List.not_mem_nil, or_false] at hi
  subst hi
  refine anyH_op 7 rfl rfl ?_
  intro K hK
  go_wp2_with (go_at_call 10; refine (expand_any ks (strB s ++ be4 n) _ 32 HKL.out HKB.out HIB.out (by rw [← HSZ.out]; have := HSL.out; rw [strB_length] at this; omega) (by omega) _ (Tab.mem HT.out hm (by simp)) (old_all (hm.get 0 rfl) (by rw [List.length_append, be4_length]) (Nat.le_refl _))).mono ?_; rintro e w7 ⟨g15, rfl, hge, hr, hb⟩; rw [deriveOf_eq] at hr; replace hm := hm.callNew hb hr hge; clear hb hr hge)
  refine hK _ _ hm.tail.tail.tail.tail ?_
  clear hK K
  refine wpAnyH_all (rs := [8]) (by kernel_rfl) (by simp) ?_
  intro i hi
  simp only [List.mem_cons, List.not_mem_nil, or_false] at hi
  subst hi
  refine anyH_op 8 rfl rfl ?_
  intro K hK
  refine wpl_cp 2 (deriveOf ks (strB s) n) 32 (u8s (deriveOf ks (strB s) n)) hm rfl rfl rfl _ un_bs sz_u8 (old_all (hm.get 0 rfl) (deriveOf_length _ _ _) (Nat.le_refl _)) rfl (by simp [u8s_length]) HNE.out ?_
  clear hm
  intro w8 hm
  refine wpList_nil ?_
  refine hK _ _ hm.tail.tail.tail.tail ?_
  clear hK K
  refine wpAnyH_done (by kernel_rfl) ?_ _
  simp only [endsIn]
  go_wp2_with (first
    | ((with_reducible refine at_op (some 17) (.load 24 (.tmp 7)) ?_); refine wpl_ldw 2 hm rfl rfl _ un_key rfl 32 sz_key (HDL.out) ?_)
    | ((with_reducible refine at_op none (.store 24 (.tmp 6) (.tmp 17)) ?_); refine wpl_stw 3 (u8s (deriveOf ks (strB s) n)) hm rfl rfl rfl 32 sz_key (by simp [u8s_length]) (HDL.out) (u8s_one _) ?_; clear hm; intro w9 hm))

  exact ret_cell 3 hm rfl Tryd.results12 rfl _ un_key rfl 32 sz_key HDL.out rfl ⟨rfl, hm.below⟩
end Go.Proofs.YtonbfbcbmdnelaaDoor
