/- Package bits: Text, GetText. -/
import Derived.Test.YtnahflppggoplaaNdBits
namespace Go.Proofs.Ytnahflppggoplaa
open Go Go.RowKit
section
variable {P : Program} {a : Act} {w : World} {dst : Option Tmp} {typ : TypeId} {pos : String} {aft : Array Edge} {gd : Option (Nat × Bool)}
set_option maxRecDepth 100000 in
theorem exec_sLH {ty : TypeId} {x lo hi : Operand} {elem : TypeId} (hu : P.underlying ty = some (.slice elem)) (hs : (P.info? elem).map (·.size) = some 1) {p : Option Addr} {len cap : Nat} (l m : Nat) {il ih : Int} (hlm : l + m ≤ cap) (hx : a.eval x = .slice p len cap) (hlo : a.eval lo = .int .i64 il) (hil : il = (l : Int)) (hhi : a.eval hi = .int .i64 ih) (hih : ih = ((l + m : Nat) : Int)) :
    (execOp a.eval { dst := dst, op := .slice ty x (some lo) (some hi) none, type := typ, pos := pos, after := aft, guard := gd }).run P w = .ok (.value (.slice (cutLo p cap l) m (cap - l))) w := by
  subst hil
  cases hq : P.info? elem with
  | none => simp [hq] at hs
  | some q =>
    have hs1 : q.size = 1 := by simpa [hq] using hs
    have hsz : (sizeOf elem).run P w = .ok 1 w := by simp [sizeOf, typeInfo, hq, hs1]
    have b1 : ∀ code, (Instr.sliceBound (.int .i64 ih) cap code).run P w = .ok (l + m) w := by
      intro code
      rw [run_sliceBound (P := P) w .i64 ih cap code (by omega) (by omega), hih, Int.toNat_natCast]
    have b2 : ∀ code, (Instr.sliceBound (.int .i64 (l : Int)) (l + m) code).run P w = .ok l w := by
      intro code
      rw [run_sliceBound (P := P) w .i64 (l : Int) (l + m) code (by omega) (by omega)]
      simp
    have hb : (Instr.sliceBounds true len cap (some (.int .i64 (l : Int))) (some (.int .i64 ih)) none).run P w = .ok (l, l + m, cap) w := by
      simp [Instr.sliceBounds, b1, b2]
    have hr : (Instr.sliceAt ty (.slice p len cap) (some (.int .i64 (l : Int))) (some (.int .i64 ih)) none).run P w = .ok (.slice (cutLo p cap l) m (cap - l)) w := by
      simp [Instr.sliceAt, Instr.slice, run_underlying hu, hb, hsz, cutLo]
    unfold execOp
    simp only [hx, hlo, hhi, Option.map_some, Option.map_none, hr, Sem.run_bind, Sem.run_pure, Result.andThen_ok]
end
set_option maxRecDepth 100000 in
theorem old_lh {w : World} {p : Option Addr} {n cap : Nat} {cs : List Int} (h : SlOld w (.slice p n cap) cs) (l m : Nat) (hl : l + m ≤ n) : SlOld w (.slice (cutLo p cap l) m (cap - l)) ((cs.drop l).take m) := by
  have h1 := old_lo h l (by omega)
  obtain ⟨hn, hc, hs⟩ := h.src0
  have hd : ((cs.drop l).take m).length = m := by rw [List.length_take, List.length_drop]; omega
  refine ⟨_, cap - l, by rw [hd], by rw [hd]; omega, fun h0 => ?_⟩
  rw [hd] at h0
  obtain ⟨_, _, hs1⟩ := h1.src0
  obtain ⟨b, off, hp, hseg⟩ := hs1 (by rw [List.length_drop]; omega)
  exact ⟨b, off, hp, hseg.take m⟩
set_option maxHeartbeats 1000000 in
set_option maxRecDepth 100000 in
theorem text_pos (s : ByteArray) (n : Nat) (hn : s.size = n) (hl : n ≤ 300) (h0 : 0 < n) (w : World) :
    Calls Try.prog 27 #[.slice none 0 0, .string s] w fun e w' => ∃ g, e = .returned (.slice (some ⟨g, 0, none⟩) (2 + n) (2 + n)) ∧ w.heap.size ≤ g ∧ Row w' g (u8s (be2 n ++ strB s)) 5 ∧ Below w.heap.size w w' := by
  have hm := Mem.start w
  have HSL : Hid ((strB s).length = n) := by show _ = _; rw [strB_length, hn]
  have HW : IntKind.u64.wrap (n : Int) = (n : Int) := wrapU_of n (by omega)
  have HR0 : Hid (List.replicate (2 + n) (0 : Int) = [0, 0] ++ List.replicate n 0) := by
    show _ = _
    rw [show [(0 : Int), 0] = List.replicate 2 0 from rfl, List.replicate_append_replicate]
  have HSP : Hid (splice (u8s ([] ++ (be2 n ++ List.replicate n 0))) 2 (u8s (strB s)) = u8s (be2 n ++ strB s)) := by
    show _ = _
    unfold splice u8s
    rw [← List.map_take, ← List.map_drop, ← List.map_append, ← List.map_append]
    congr 1
    rw [List.nil_append, List.take_append_of_le_length (by simp [be2_length]), List.take_of_length_le (by simp [be2_length]), List.length_map, HSL.out, List.drop_of_length_le (by simp [be2_length]), List.append_nil]
  go_enter Try.func27, Try.ntmps27
  go_wp2_with (first
    | ((with_reducible refine at_op (some 11) (.slice 9 (.tmp 7) none (some (.tmp 10)) none) ?_); go_must (refine wpl_execG (.string s) rfl (exec_strAll s n hn rfl rfl) ?_))
    | (go_at_call 32; refine (longer_gen [] _ (2 + n) (by simp) (by omega) _ ⟨none, 0, rfl, Nat.le_refl _, fun h => absurd h (by simp)⟩).mono ?_; rintro e w2 ⟨g, he, hge, hr, hb⟩; rw [show ([] : List Int).length + (2 + n) = 2 + n from Nat.zero_add _] at he; subst he; rw [List.nil_append, HR0.out] at hr; replace hm := hm.callNew hb hr hge; clear hb hr hge)
    | (go_at_call 40; refine (putNumber_two g [] (List.replicate n 0) n _ _ (hm.get 0 rfl)).mono ?_; rintro e w3 ⟨rfl, hr2, hu⟩; replace hm := hm.upd 0 rfl hu hr2; clear hr2 hu)
    | ((with_reducible refine at_op (some 28) (.slice 22 (.tmp 27) (some (.const (.int .i64 2))) none none) ?_); go_must (refine wpl_slo un_bs sz_u8 2 2 n n (by omega) (by omega) (by omega) (by omega) (by omega) rfl rfl (by first | rfl | omega) ?_))
    | ((with_reducible refine at_op (some 30) (.call { callee := .builtin .copy, args := #[.tmp 28, .tmp 29], argTypes := #[22, 9] }) ?_); go_must (refine wpl_cpStr 0 2 n n s (u8s (be2 n ++ strB s)) hm rfl rfl rfl _ un_bs sz_u8 (by omega) (by simp [u8s_length, be2_length]; omega) HSP.out ?_); clear hm; intro w4 hm))
  go_ret
  have hf := hm.fresh _ (List.mem_cons_self ..)
  exact ⟨g, rfl, by simpa using hf, hm.get 0 rfl, hm.below⟩
set_option maxHeartbeats 1000000 in
set_option maxRecDepth 100000 in
theorem text_nil (s : ByteArray) (hn : s.size = 0) (w : World) :
    Calls Try.prog 27 #[.slice none 0 0, .string s] w fun e w' => ∃ g, e = .returned (.slice (some ⟨g, 0, none⟩) 2 2) ∧ w.heap.size ≤ g ∧ Row w' g (u8s (be2 0 ++ strB s)) 5 ∧ Below w.heap.size w w' := by
  have hm := Mem.start w
  have HB : Hid (strB s = []) := by show _ = _; exact List.eq_nil_of_length_eq_zero (by rw [strB_length, hn])
  have HSP : Hid (splice (u8s ([] ++ (be2 0 ++ []))) 0 (u8s (strB s)) = u8s (be2 0 ++ strB s)) := by
    show _ = _
    rw [HB.out]; rfl
  go_enter Try.func27, Try.ntmps27
  go_wp2_with (first
    | ((with_reducible refine at_op (some 11) (.slice 9 (.tmp 7) none (some (.tmp 10)) none) ?_); go_must (refine wpl_execG (.string s) rfl (exec_strAll s 0 hn rfl (by go_simp)) ?_))
    | (go_at_call 32; refine (longer_gen [] _ 2 (by simp) (by omega) _ ⟨none, 0, rfl, Nat.le_refl _, fun h => absurd h (by simp)⟩).mono ?_; rintro e w2 ⟨g, he, hge, hr, hb⟩; rw [show ([] : List Int).length + 2 = 2 from rfl] at he; subst he; rw [List.nil_append, show List.replicate 2 (0 : Int) = [0, 0] ++ [] from rfl] at hr; replace hm := hm.callNew hb hr hge; clear hb hr hge)
    | (go_at_call 40; refine (putNumber_two g [] [] 0 _ _ (hm.get 0 rfl)).mono ?_; rintro e w3 ⟨rfl, hr2, hu⟩; replace hm := hm.upd 0 rfl hu hr2; clear hr2 hu)
    | ((with_reducible refine at_op (some 28) (.slice 22 (.tmp 27) (some (.const (.int .i64 2))) none none) ?_); go_must (refine wpl_execG (.slice (some ⟨g, 0, none⟩) 0 0) rfl (exec_sLo (p := some ⟨g, 0, none⟩) (len := 2) (cap := 2) un_bs sz_u8 2 (by omega) rfl rfl rfl) ?_))
    | ((with_reducible refine at_op (some 30) (.call { callee := .builtin .copy, args := #[.tmp 28, .tmp 29], argTypes := #[22, 9] }) ?_); go_must (refine wpl_cpStr 0 0 0 0 s (u8s (be2 0 ++ strB s)) hm rfl rfl rfl _ un_bs sz_u8 (by omega) (by simp [u8s_length, be2_length]; omega) HSP.out ?_); clear hm; intro w4 hm))
  go_ret
  have hf := hm.fresh _ (List.mem_cons_self ..)
  exact ⟨g, rfl, by simpa using hf, hm.get 0 rfl, hm.below⟩
set_option maxRecDepth 100000 in
theorem text_any (s : ByteArray) (hl : s.size ≤ 300) (w : World) :
    Calls Try.prog 27 #[.slice none 0 0, .string s] w fun e w' => ∃ g, e = .returned (.slice (some ⟨g, 0, none⟩) (2 + s.size) (2 + s.size)) ∧ w.heap.size ≤ g ∧ Row w' g (u8s (textB s)) 5 ∧ Below w.heap.size w w' := by
  by_cases h0 : 0 < s.size
  · exact text_pos s s.size rfl hl h0 w
  · have h1 : s.size = 0 := by omega
    have h := text_nil s h1 w
    unfold textB
    rw [h1]
    exact h
end Go.Proofs.Ytnahflppggoplaa
