/- Package term: two classes joined, where nothing leads on from either. -/
import Derived.Test.YtbiinchmbclmcaaDoorTmLast
namespace Go.Proofs.YtbiinchmbclmcaaDoor
open Go Go.RowKit
section
variable {ops : Array Oper} {rest : List Oper} {a : Act} {w : World} {Q : Exit → Act → World → Prop} {dst : Option Tmp} {typ : TypeId} {pos : String} {aft : Array Edge} {gd : Option (Nat × Bool)}
set_option maxRecDepth 100000 in
theorem exec_eqK {x y : Operand} {rt : TypeId} {k q : Ky} (hx : a.eval x = .agg (kyc k).toArray) (hy : a.eval y = .agg (kyc q).toArray) (h : (Op.equal 49 (kyv k) (kyv q)).run Tryd.prog w = .ok false w) :
    (execOp a.eval { dst := dst, op := .binOp .eql 49 x y rt, type := typ, pos := pos, after := aft, guard := gd }).run Tryd.prog w = .ok (.value (.bool false)) w := by
  have hg : Tryd.prog.eqGuardType Tryd.prog.depth 49 = false := by kernel_rfl
  have h2 : (Op.equalIn 10000 49 (.agg (kyc k).toArray) (.agg (kyc q).toArray)).run Tryd.prog w = .ok false w := h
  unfold execOp
  simp only [hx, hy, Sem.run_bind, run_eqGuard_agg w .eql 49 _ _ _ _ hg, Result.andThen_ok, run_eql_struct, h2, Sem.run_pure]
set_option maxRecDepth 100000 in
theorem wpl_kyPut {x k y : Operand} {m : Nat} {ks : List Ky} {key : Ky} {val : Value} (st : KeysAt w m ks) (hp : PlainKeys w ks) (hf : Filled w key.1) (hn : ∀ q ∈ ks, key.1 ≠ q.1) (hx : a.eval x = .map (some m)) (hk : a.eval k = .agg (kyc key).toArray) (hy : a.eval y = val)
    (h : ∀ w', KeysAt w' m (ks ++ [key]) → Upd m w w' → wpList Tryd.prog ops Q rest (a.put dst undef) w') :
    wpList Tryd.prog ops Q ({ dst := dst, op := .mapUpdate 43 x k y, type := typ, pos := pos, after := aft, guard := none } :: rest) a w := by
  obtain ⟨c, t, fr, hf1, hf2⟩ := hf
  obtain ⟨w', hr, h1, h2⟩ := st.put hp hf1 hf2 hn val
  have hr' : (Instr.mapUpdate 43 (.map (some m)) (.agg (kyc key).toArray) val).run Tryd.prog w = .ok () w' := hr
  refine wpList_plain rfl fun K' hK' => ?_
  have hh := hK' _ _ (h w' h1 h2)
  unfold Oper.wp
  simp [execOp, hx, hk, hy, hr', Result.andThen]
  exact hh
end
set_option maxHeartbeats 4000000 in
set_option maxRecDepth 100000 in
theorem join_yes (m : Nat) (ks : List Ky) (k v : Ky) (w : World) (hk : KeysAt w m ks) (hp : PlainKeys w ks) (hpk : PlainKeys w [k]) (hf : Filled w k.1) (hv : Filled w v.1) (hn : ∀ q ∈ ks, k.1 ≠ q.1) (hn2 : ∀ q ∈ ks, v.1 ≠ q.1) (hkv : k.1 ≠ v.1) :
    Calls Tryd.prog 18 #[.map (some m), kyv k, kyv v] w fun e w' => e = .returned (.bool true) ∧ KeysAt w' m (ks ++ [k]) ∧ Upd m w w' := by
  have hm := Mem.start w
  have HL1 : Hid (∀ W, Below w.heap.size w W → Calls Tryd.prog 27 #[.map (some m), .agg (kyc k).toArray] W fun e w' => e = .returned (.agg (kyc k).toArray) ∧ Below W.heap.size W w') := fun W hW => last_no m ks k W (hk.below hW) (hp.below hW) (hf.below hW) hn
  have HL2 : Hid (∀ W, Below w.heap.size w W → Calls Tryd.prog 27 #[.map (some m), .agg (kyc v).toArray] W fun e w' => e = .returned (.agg (kyc v).toArray) ∧ Below W.heap.size W w') := fun W hW => last_no m ks v W (hk.below hW) (hp.below hW) (hv.below hW) hn2
  have HEQ : Hid (∀ W, Below w.heap.size w W → (Op.equal 49 (kyv k) (kyv v)).run Tryd.prog W = .ok false W) := fun W hW => by
    obtain ⟨c, t, h1⟩ := hpk.below hW k (List.mem_cons_self ..)
    obtain ⟨c2, t2, fr, h2, h3⟩ := hv.below hW
    exact equal_of (sameAddr_no2 (a := ⟨k.1, k.2.1, none⟩) (q := ⟨v.1, v.2.1, none⟩) hkv h1 h2 h3)
  have HK : Hid (KeysAt w m ks ∧ PlainKeys w ks ∧ Filled w k.1 ∧ ∀ q ∈ ks, k.1 ≠ q.1) := ⟨hk, hp, hf, hn⟩
  clear hk hp hpk hf hv hn hn2 hkv
  show Calls Tryd.prog 18 #[.map (some m), .agg (kyc k).toArray, .agg (kyc v).toArray] w _
  go_enter Tryd.func18, Tryd.ntmps18
  go_wp2_with (first
    | ((with_reducible refine at_op (some 4) (.box 49 (.tmp 1)) ?_); go_must (refine wpl_box (kyc k) rfl hm ?_); clear hm; intro w1 g1 hm)
    | ((with_reducible refine at_op (some 5) (.box 49 (.tmp 2)) ?_); go_must (refine wpl_box (kyc v) rfl hm ?_); clear hm; intro w2 g2 hm))
  refine wp_ends0 ?_
  refine anyH_startB (T := fun W => Mem w [] W [(g2, kyc v, 49), (g1, kyc k, 49)]) (by kernel_rfl) hm ?_
  intro wc hbw hmw
  replace hm : Mem w [] wc [(g2, kyc v, 49), (g1, kyc k, 49)] := hmw
  clear hbw hmw
  refine anyH_take 0 (v := .map (some m)) rfl (by kernel_rfl) (by kernel_rfl) (by kernel_rfl) rfl (fun W _ => by go_simp) hm ?_
  go_simp
  refine anyH_take 1 (v := .agg (kyc k).toArray) rfl (by kernel_rfl) (by kernel_rfl) (by kernel_rfl) rfl (fun W hW => exec_ldsG 0 (kyc k) (Mem.get hW 1 rfl) rfl _ Tryd.underlying49 rfl 2 sz_list (Nat.le_refl _) rfl) hm ?_
  go_simp
  refine anyH_take 3 (v := .map (some m)) rfl (by kernel_rfl) (by kernel_rfl) (by kernel_rfl) rfl (fun W _ => by go_simp) hm ?_
  go_simp
  refine anyH_take 4 (v := .agg (kyc v).toArray) rfl (by kernel_rfl) (by kernel_rfl) (by kernel_rfl) rfl (fun W hW => exec_ldsG 0 (kyc v) (Mem.get hW 0 rfl) rfl _ Tryd.underlying49 rfl 2 sz_list (Nat.le_refl _) rfl) hm ?_
  go_simp
  refine wpAnyH_all (rs := [2]) (by kernel_rfl) (by simp) ?_
  intro i hi
  simp only [List.mem_cons, List.not_mem_nil, or_false] at hi
  subst hi
  refine anyH_opW 2 rfl rfl ?_
  intro K hK
  go_wp2_with (go_at_call 27; refine (HL1.out _ hm.below).mono ?_; rintro e w' ⟨he, hb⟩; subst he; replace hm := hm.call hb; clear hb)
  refine hK _ _ hm ?_
  clear hK K
  go_simp
  refine wpAnyH_all (rs := [5]) (by kernel_rfl) (by simp) ?_
  intro i hi
  simp only [List.mem_cons, List.not_mem_nil, or_false] at hi
  subst hi
  refine anyH_opW 5 rfl rfl ?_
  intro K hK
  go_wp2_with (go_at_call 27; refine (HL2.out _ hm.below).mono ?_; rintro e w' ⟨he, hb⟩; subst he; replace hm := hm.call hb; clear hb)
  refine hK _ _ hm ?_
  clear hK K
  go_simp
  refine wpAnyH_all (rs := [6]) (by kernel_rfl) (by simp) ?_
  intro i hi
  simp only [List.mem_cons, List.not_mem_nil, or_false] at hi
  subst hi
  refine anyH_opW 6 rfl rfl ?_
  intro K hK
  refine wpl_stw 1 (kyc k) hm rfl rfl rfl 2 sz_list rfl rfl (oneKyc _) ?_
  clear hm
  intro w5 hm
  refine wpList_nil ?_
  refine hK _ _ hm ?_
  clear hK K
  go_simp
  refine wpAnyH_all (rs := [7]) (by kernel_rfl) (by simp) ?_
  intro i hi
  simp only [List.mem_cons, List.not_mem_nil, or_false] at hi
  subst hi
  refine anyH_opW 7 rfl rfl ?_
  intro K hK
  refine wpl_stw 0 (kyc v) hm rfl rfl rfl 2 sz_list rfl rfl (oneKyc _) ?_
  clear hm
  intro w6 hm
  refine wpList_nil ?_
  refine hK _ _ hm ?_
  clear hK K
  go_simp
  refine wpAnyH_done (by kernel_rfl) ?_ _
  simp only [endsIn]
  go_wp2_with (first
    | ((with_reducible refine at_op (some 13) (.load 49 (.tmp 4)) ?_); go_must (refine wpl_ldw 1 hm rfl rfl _ Tryd.underlying49 rfl 2 sz_list rfl ?_))
    | ((with_reducible refine at_op (some 14) (.load 49 (.tmp 5)) ?_); go_must (refine wpl_ldw 0 hm rfl rfl _ Tryd.underlying49 rfl 2 sz_list rfl ?_))
    | ((with_reducible refine at_op (some 15) (.binOp .eql 49 (.tmp 13) (.tmp 14) 49) ?_); go_must (refine wpl_execG (.bool false) rfl (exec_eqK rfl rfl (HEQ.out _ hm.below)) ?_))
    | ((with_reducible refine at_op (some 17) (.load 49 (.tmp 4)) ?_); go_must (refine wpl_ldw 1 hm rfl rfl _ Tryd.underlying49 rfl 2 sz_list rfl ?_))
    | ((with_reducible refine at_op (some 18) (.load 49 (.tmp 5)) ?_); go_must (refine wpl_ldw 0 hm rfl rfl _ Tryd.underlying49 rfl 2 sz_list rfl ?_))
    | ((with_reducible refine at_op none (.mapUpdate 43 (.tmp 16) (.tmp 17) (.tmp 18)) ?_); go_must (refine wpl_kyPut (HK.out.1.below hm.below) (HK.out.2.1.below hm.below) (HK.out.2.2.1.below hm.below) HK.out.2.2.2 rfl rfl rfl ?_); intro w9 hk9 hu9; have HK9 : Hid (KeysAt w9 m (ks ++ [k]) ∧ Upd m w w9) := ⟨hk9, (Upd.of_below hm.below).trans hu9⟩; clear hk9 hu9 hm))
  go_ret
  exact ⟨rfl, HK9.out.1, HK9.out.2⟩
end Go.Proofs.YtbiinchmbclmcaaDoor
