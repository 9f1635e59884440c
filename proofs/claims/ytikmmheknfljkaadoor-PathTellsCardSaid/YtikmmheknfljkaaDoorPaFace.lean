/- The face of package path. -/
import Derived.Test.YtikmmheknfljkaaDoorPaUp
namespace Go.Proofs.YtikmmheknfljkaaDoor
open Go Go.RowKit Go.Maps
set_option maxHeartbeats 2000000 in
set_option maxRecDepth 100000 in
theorem is_any (s : ByteArray) (w : World) (hs : s.size ≤ 1000) (hM : MaxL w) :
    Calls Tryd.prog 15 #[.string s] w fun e w' => e = .returned (.bool (isP (bs s))) ∧ Below w.heap.size w w' := by
  have hm := Mem.start w
  have HM : Hid (MaxL w) := hM
  clear hM
  go_enter Tryd.func15, Tryd.ntmps15
  go_wp2_with (first
    | (go_at_call 27; refine (placeOf_any s _ hs (HM.out.below hm.below)).mono ?_; rintro e w' ⟨he, hb⟩; subst he; replace hm := hm.call hb; clear hb)
    | ((with_reducible refine at_op (some 3) (.alloc 42) ?_); refine wpl_alloc _ zero_pl hm ?_; clear hm; intro w2 g3 hm)
    | ((with_reducible refine at_op none (.store 42 (.tmp 3) (.tmp 8)) ?_); refine wpl_stw 0 (plv (segsB s)) hm rfl rfl rfl 3 sz_pl rfl rfl (by intro v hv; simp [plv] at hv; rcases hv with rfl | rfl | rfl <;> rfl) ?_; clear hm; intro w3 hm))
  go_ret
  exact ⟨rfl, hm.below⟩
set_option maxHeartbeats 2000000 in
set_option maxRecDepth 100000 in
theorem split_any (s : ByteArray) (w : World) (hs : s.size ≤ 1000) (hM : MaxL w) :
    Calls Tryd.prog 18 #[.string s] w fun e w' => ∃ v, e = .returned v ∧ w'.ownsRow w.heap.size 9 1 v (segsB s).length (strs (segsB s)) ∧ Below w.heap.size w w' := by
  have hm := Mem.start w
  have HM : Hid (MaxL w) := hM
  clear hM
  have HK : Hid (∀ _ : Unit, PlOk (segsB s)) := fun _ => segsB_ok s
  go_enter Tryd.func18, Tryd.ntmps18
  go_wp2_with (first
    | (go_at_call 27; refine (placeOf_any s _ hs (HM.out.below hm.below)).mono ?_; rintro e w' ⟨he, hb⟩; subst he; replace hm := hm.call hb; clear hb)
    | ((with_reducible refine at_op (some 3) (.alloc 42) ?_); refine wpl_alloc _ zero_pl hm ?_; clear hm; intro w2 g3 hm)
    | ((with_reducible refine at_op none (.store 42 (.tmp 3) (.tmp 8)) ?_); refine wpl_stw 0 (plv (segsB s)) hm rfl rfl rfl 3 sz_pl rfl rfl (by intro v hv; simp [plv] at hv; rcases hv with rfl | rfl | rfl <;> rfl) ?_; clear hm; intro w3 hm)
    | ((with_reducible refine at_op (some 10) (.load 42 (.tmp 3)) ?_); refine wpl_ldw 0 hm rfl rfl _ un_pl rfl 3 sz_pl (by rfl) ?_)
    | (go_at_call 37; refine (segments_any (HK.out ()) _).mono ?_; rintro e w' ⟨v, he, ho, hb⟩; subst he; have HO : Hid (w'.ownsRow w.heap.size 9 1 v (segsB s).length (strs (segsB s))) := own_base hm.size ho; clear ho; replace hm := hm.call hb; clear hb))
  go_ret
  exact ⟨_, rfl, HO.out, hm.below⟩
set_option maxHeartbeats 2000000 in
set_option maxRecDepth 100000 in
theorem joinP_any (xs : List ByteArray) (v : Value) (w : World) (hv : SlS w v xs) :
    Calls Tryd.prog 20 #[v] w fun e w' => e = .returned (.string (mkS (jn 47 ((plOf xs).map bs)))) ∧ Below w.heap.size w w' := by
  have hm := Mem.start w
  have HV : Hid (SlS w v xs) := hv
  clear hv
  go_enter Tryd.func20, Tryd.ntmps20
  go_wp2_with (first
    | (go_at_call 32; refine (placeAt_any xs v _ (SlV.below HV.out hm.below)).mono ?_; rintro e w' ⟨he, hb⟩; subst he; replace hm := hm.call hb; clear hb)
    | ((with_reducible refine at_op (some 3) (.alloc 42) ?_); refine wpl_alloc _ zero_pl hm ?_; clear hm; intro w2 g3 hm)
    | ((with_reducible refine at_op none (.store 42 (.tmp 3) (.tmp 8)) ?_); refine wpl_stw 0 (plv (plOf xs)) hm rfl rfl rfl 3 sz_pl rfl rfl (by intro v hv; simp [plv] at hv; rcases hv with rfl | rfl | rfl <;> rfl) ?_; clear hm; intro w3 hm)
    | ((with_reducible refine at_op (some 10) (.load 42 (.tmp 3)) ?_); refine wpl_ldw 0 hm rfl rfl _ un_pl rfl 3 sz_pl (by rfl) ?_)
    | (go_at_call 30; refine (text_any (plOf_ok xs) _).mono ?_; rintro e w' ⟨he, hb⟩; subst he; replace hm := hm.call hb; clear hb))
  go_ret
  exact ⟨rfl, hm.below⟩
set_option maxHeartbeats 2000000 in
set_option maxRecDepth 100000 in
theorem depthP_any (s : ByteArray) (w : World) (hs : s.size ≤ 1000) (hM : MaxL w) :
    Calls Tryd.prog 24 #[.string s] w fun e w' => e = .returned (.int .i64 ((segsB s).length : Int)) ∧ Below w.heap.size w w' := by
  have hm := Mem.start w
  have HM : Hid (MaxL w) := hM
  clear hM
  go_enter Tryd.func24, Tryd.ntmps24
  go_wp2_with (first
    | (go_at_call 27; refine (placeOf_any s _ hs (HM.out.below hm.below)).mono ?_; rintro e w' ⟨he, hb⟩; subst he; replace hm := hm.call hb; clear hb)
    | ((with_reducible refine at_op (some 3) (.alloc 42) ?_); refine wpl_alloc _ zero_pl hm ?_; clear hm; intro w2 g3 hm)
    | ((with_reducible refine at_op none (.store 42 (.tmp 3) (.tmp 8)) ?_); refine wpl_stw 0 (plv (segsB s)) hm rfl rfl rfl 3 sz_pl rfl rfl (by intro v hv; simp [plv] at hv; rcases hv with rfl | rfl | rfl <;> rfl) ?_; clear hm; intro w3 hm)
    | ((with_reducible refine at_op (some 10) (.load 42 (.tmp 3)) ?_); refine wpl_ldw 0 hm rfl rfl _ un_pl rfl 3 sz_pl (by rfl) ?_)
    | (go_at_call 39; refine (depth_any (segsB_ok s) _).mono ?_; rintro e w' ⟨he, hb⟩; subst he; replace hm := hm.call hb; clear hb))
  go_ret
  exact ⟨rfl, hm.below⟩
section
variable {P : Program} {a : Act} {w : World} {dst : Option Tmp} {typ : TypeId} {pos : String} {aft : Array Edge} {gd : Option (Nat × Bool)}
set_option maxRecDepth 100000 in
theorem mkS_append (x y : List UInt8) : mkS x ++ mkS y = mkS (x ++ y) := by
  apply ByteArray.ext
  simp [mkS]
set_option maxRecDepth 100000 in
theorem exec_addB {t : TypeId} {x y : Operand} {rt : TypeId} (s s' r : ByteArray) (hr : r = s ++ s') (hx : a.eval x = .string s) (hy : a.eval y = .string s') (hl : s.size + s'.size ≤ 1000000000) :
    (execOp a.eval { dst := dst, op := .binOp .add t x y rt, type := typ, pos := pos, after := aft, guard := gd }).run P w = .ok (.value (.string r)) w := by
  subst hr
  unfold execOp
  simp only [hx, hy]
  simp [eqGuard, binOp, Op.stringOp]
  omega
end
def cdk (ks : List ByteArray) (k : Nat) : List UInt8 := codeOf ((ks.take k).map bs)
set_option maxRecDepth 100000 in
theorem code_next {ks : List ByteArray} {k : Nat} (hk : k < ks.length) : cdk ks (k + 1) = cdk ks k ++ (bs (ks.getD k noStr) ++ [0]) := by
  unfold cdk
  have e : ks[k]? = some (ks.getD k noStr) := by simp [hk]
  rw [List.take_add_one, e, List.map_append, codeOf_append]
  simp [codeOf]
set_option maxRecDepth 100000 in
theorem code_bound {ks : List ByteArray} (h : PlOk ks) (k : Nat) : (cdk ks k).length ≤ 40 := by
  unfold cdk
  have h2 := take_ok h k
  have := codeOf_len (ks := (ks.take k).map bs) (fun x hx => by obtain ⟨y, hy, rfl⟩ := List.mem_map.1 hx; rw [bs_length]; exact (h2.size hy).2)
  have := h2.len
  simp at *
  omega
set_option maxHeartbeats 2000000 in
set_option maxRecDepth 100000 in
theorem code_any (s : ByteArray) (w : World) (hs : s.size ≤ 1000) (hM : MaxL w) :
    Calls Tryd.prog 25 #[.string s] w fun e w' => e = .returned (.string (mkS (codeOf (segsOf (bs s))))) ∧ Below w.heap.size w w' := by
  have hm := Mem.start w
  have HM : Hid (MaxL w) := hM
  clear hM
  obtain ⟨ks, hks⟩ : ∃ ks, ks = segsB s := ⟨_, rfl⟩
  have HK : Hid (∀ _ : Unit, PlOk ks) := fun _ => by rw [hks]; exact segsB_ok s
  have HR : Hid (∀ _ : Unit, codeOf (segsOf (bs s)) = codeOf (ks.map bs)) := fun _ => by rw [hks, segsB_bs]
  obtain ⟨n, hn⟩ : ∃ n, n = ks.length := ⟨_, rfl⟩
  have HN : Hid (∀ _ : Unit, ks.length = n) := fun _ => hn.symm
  have hn3 : n ≤ 3 := by rw [hn]; exact (HK.out ()).len
  have HPL : Hid (∀ W, MaxL W → Calls Tryd.prog 27 #[.string s] W fun e w' => e = .returned (.tuple #[.agg (plv ks).toArray, .bool (isP (bs s))]) ∧ Below W.heap.size W w') := fun W hW => by rw [hks]; exact placeOf_any s W hs hW
  clear hks hn hs
  go_enter Tryd.func25, Tryd.ntmps25
  go_wp2_with (first
    | (go_at_call 27; refine (HPL.out _ (HM.out.below hm.below)).mono ?_; rintro e w' ⟨he, hb⟩; subst he; replace hm := hm.call hb; clear hb)
    | ((with_reducible refine at_op (some 3) (.alloc 42) ?_); refine wpl_alloc _ zero_pl hm ?_; clear hm; intro w2 g3 hm)
    | ((with_reducible refine at_op none (.store 42 (.tmp 3) (.tmp 11)) ?_); refine wpl_stw 0 (plv ks) hm rfl rfl rfl 3 sz_pl rfl rfl (by intro v hv; simp [plv] at hv; rcases hv with rfl | rfl | rfl <;> rfl) ?_; clear hm; intro w3 hm)
    | ((with_reducible refine at_op (some 13) (.load 42 (.tmp 3)) ?_); refine wpl_ldw 0 hm rfl rfl _ un_pl rfl 3 sz_pl (by rfl) ?_)
    | (go_at_call 37; refine (segments_any (HK.out ()) _).mono ?_; rintro e w9 ⟨v, he, ho, hb⟩; subst he; have HO0 : Hid (SlS w9 v ks) := own_sl ho; obtain ⟨p, cap, hv, hcap⟩ := SlV.len (own_sl ho); subst hv; have HO : Hid (SlS w9 (.slice p n cap) ks) := by { have h9 := HO0.out; rw [HN.out ()] at h9; exact h9 }; rw [HN.out ()]; clear ho HO0 hcap; replace hm := hm.call hb; clear hb))
  go_loopw [16, 5] (fun vi vc wr => ∃ k : Nat, k ≤ n ∧ vi = .int .i64 (k : Int) ∧ vc = .string (mkS (cdk ks k)) ∧ Hid (Below w9.heap.size w9 wr)) (fun vi _ _ => n - (intOf vi).toNat)
  case atStart => exact ⟨0, by omega, rfl, rfl, Below.refl _ _⟩
  case round =>
    obtain ⟨k, hk, rfl, rfl, HB⟩ := hrel
    by_cases hlt : k < n
    · have hki : (k : Int) < (n : Int) := by omega
      obtain ⟨b, off, hp⟩ := SlS.at HO.out (HN.out ()) (by omega)
      subst hp
      obtain ⟨x, hx⟩ : ∃ x, x = ks.getD k noStr := ⟨_, rfl⟩
      have HC : Hid (wr.cell? ⟨b, off + k, none⟩ = some (.string x)) := by
        rw [hx]
        exact SlS.cells (HN.out ()) (SlV.below HO.out HB.out) k hlt
      obtain ⟨c1, hc1⟩ : ∃ c, c = mkS (cdk ks k) := ⟨_, rfl⟩
      obtain ⟨c2, hc2⟩ : ∃ c, c = x ++ mkS [0] := ⟨_, rfl⟩
      obtain ⟨c3, hc3⟩ : ∃ c, c = c1 ++ c2 := ⟨_, rfl⟩
      have hxz : x.size ≤ 10 := by
        rw [hx, List.getD_eq_getElem?_getD, List.getElem?_eq_getElem (by rw [HN.out ()]; exact hlt)]
        exact ((HK.out ()).size (List.getElem_mem _)).2
      have HZ1 : Hid (∀ _ : Unit, x.size + (mkS [0]).size ≤ 1000000000) := fun _ => by rw [mkS_size]; simp; omega
      have HZ2 : Hid (∀ _ : Unit, c1.size + c2.size ≤ 1000000000) := fun _ => by
        have := code_bound (HK.out ()) k
        rw [hc1, hc2, mkS_size, ByteArray.size_append, mkS_size]; simp; omega
      have HC2 : Hid (∀ _ : Unit, c2 = x ++ mkS [0]) := fun _ => hc2
      have HC3 : Hid (∀ _ : Unit, c3 = c1 ++ c2) := fun _ => hc3
      have HE : Hid (∀ _ : Unit, c3 = mkS (cdk ks (k + 1))) := fun _ => by
        rw [hc3, hc2, hc1, code_next (by rw [HN.out ()]; exact hlt), ← hx, ← mkS_append, ← mkS_append, mkS_bs]
      rw [← hc1]
      clear hc1 hc2 hc3 hx hxz
      go_wp2_with (first
        | ((with_reducible refine at_op (some 19) (.load 9 (.tmp 18)) ?_); go_must (refine wpl_execG (.string x) rfl (exec_ldx (.string x) (HC.out) rfl ag_str) ?_))
        | ((with_reducible refine at_op (some 22) (.binOp .add 9 (.tmp 21) (.const (.string { data := #[0] })) 9) ?_); go_must (refine wpl_execG (.string c2) rfl (exec_addB x (mkS [0]) c2 (HC2.out ()) rfl rfl (HZ1.out ())) ?_))
        | ((with_reducible refine at_op (some 23) (.binOp .add 9 (.tmp 20) (.tmp 22) 9) ?_); go_must (refine wpl_execG (.string c3) rfl (exec_addB c1 c2 c3 (HC3.out ()) rfl rfl (HZ2.out ())) ?_)))
      go_roundw
      case rel => exact ⟨k + 1, by omega, by go_num, by rw [HE.out ()], HB.out⟩
      case measure => simp [intOf]; omega
    · have hki : ¬ (k : Int) < (n : Int) := by omega
      have HE : Hid (∀ _ : Unit, cdk ks k = codeOf (ks.map bs)) := fun _ => by rw [cdk, List.take_of_length_le (by rw [HN.out ()]; omega)]
      go_wp2_with fail
      go_ret
      refine ⟨?_, (hm.call HB.out).below⟩
      rw [HR.out (), HE.out ()]
      rfl
end Go.Proofs.YtikmmheknfljkaaDoor
