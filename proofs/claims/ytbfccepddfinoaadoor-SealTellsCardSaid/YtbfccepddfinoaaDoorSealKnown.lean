/- The look at known seals comes out true. -/
import Derived.Test.YtbfccepddfinoaaDoorSealWrap
namespace Go.Proofs.YtbfccepddfinoaaDoor
open Go Go.RowKit

set_option maxRecDepth 100000 in
theorem seg_head {w : World} {g : Nat} {l : List Int} {r : List Value} {t : TypeId} (h : Row w g (u8s l ++ r) t) : Seg w g 0 l := by
  intro j hj
  rw [Nat.zero_add, h.cell j, List.getElem?_append_left (by rw [u8s_length]; exact hj), u8s_get l j hj]
set_option maxRecDepth 100000 in
theorem exec_built {P : Program} {a : Act} {w : World} {dst : Option Tmp} {typ : TypeId} {pos : String} {aft : Array Edge} {gd : Option (Nat × Bool)} {t : TypeId} {xs : Array (Nat × Operand)} (l : List Value) (vs : List (Nat × Value)) (hv : (xs.map fun q => (q.1, a.eval q.2)).toList = vs) (hb : P.built t vs = some l.toArray) :
    (execOp a.eval { dst := dst, op := .build t xs, type := typ, pos := pos, after := aft, guard := gd }).run P w = .ok (.value (.agg l.toArray)) w := by
  have e : (xs.map fun (i, x) => (i, a.eval x)).toList = vs := hv
  unfold execOp
  simp only [Sem.run_bind, run_build w t _ l.toArray (by rw [e]; exact hb), Result.andThen_ok, Sem.run_pure]
def kTwo : List Int := [0, 0, 0, 0, 0, 6] ++ List.replicate 26 0
set_option maxRecDepth 100000 in
theorem kTwo_bytes : Bytes kTwo := by unfold Bytes kTwo; decide
set_option maxRecDepth 100000 in
theorem built_one : Tryd.prog.built 23 [(1, .int .u8 2)] = some (u8s kOne).toArray := by kernel_rfl
set_option maxRecDepth 100000 in
theorem built_two : Tryd.prog.built 23 [(5, .int .u8 6)] = some (u8s kTwo).toArray := by kernel_rfl
set_option maxRecDepth 100000 in
theorem built_n12 : Tryd.prog.built 30 [(3, .int .u8 1), (11, .int .u8 2)] = some (u8s (nonceOf 1 2)).toArray := by kernel_rfl
set_option maxRecDepth 100000 in
theorem eq_nonces (l l' : List Int) (h : l.length = 12) (h' : l'.length = 12) : ∀ W, (Op.equalIn 10000 30 (.agg (u8s l).toArray) (.agg (u8s l').toArray)).run Tryd.prog W = .ok (decide (l = l')) W := by
  intro W
  exact run_eqa (P := Tryd.prog) W 9998 30 5 12 .u8 un_nce un_u8 sz_u8 l l' h h'
set_option maxHeartbeats 2000000 in
set_option maxRecDepth 100000 in
theorem known5_any (w : World) (ht : Tab w) (hq : QTab w) :
    Calls Tryd.prog 9 #[] w fun e w' => e = .returned (.bool true) ∧ Below w.heap.size w w' := by
  have hm := Mem.start w
  have HT : Hid _ := ht
  have HQ : Hid _ := hq
  obtain ⟨ns, hns⟩ : ∃ ns, ns = nonceOf 1 2 := ⟨_, rfl⟩
  have HNN : Hid (∀ _ : Unit, nonceOf 1 2 = ns) := fun _ => hns.symm
  have HNL : Hid (ns.length = 12) := by show _ = _; rw [hns, nonceOf_length]
  have HNB : Hid (Bytes ns) := by rw [hns]; exact nonceOf_bytes _ _
  have HNU : Hid ((u8s ns).length = 12) := by show _ = _; rw [u8s_length]; exact HNL.out
  have HBN : Hid (Tryd.prog.built 30 [(3, .int .u8 1), (11, .int .u8 2)] = some (u8s ns).toArray) := by rw [hns]; exact built_n12
  obtain ⟨X, hX⟩ : ∃ X, X = sealOf kOne ns [97] secret := ⟨_, rfl⟩
  have HXX : Hid (∀ _ : Unit, sealOf kOne ns [97] secret = X) := fun _ => hX.symm
  have HXL : Hid (X.length = 6 + 16) := by show _ = _; rw [hX, sealOf_length]; rfl
  have HXB : Hid (Bytes X) := by rw [hX]; exact sealOf_bytes _ _ _ secret_bytes
  have hxt : X.take 6 = encOf kOne ns secret := by rw [hX]; exact sealOf_take kOne ns [97] secret
  have hxd : X.drop 6 = tagOf kOne ns [97] (encOf kOne ns secret) := by rw [hX]; exact sealOf_drop kOne ns [97] secret
  have HF1 : Hid (X.drop 6 = tagOf kOne ns [97] (X.take 6)) := by show _ = _; rw [hxt, hxd]
  have HF2 : Hid (X.drop 6 ≠ tagOf kOne ns [98] (X.take 6)) := by show _ ≠ _; rw [hxt, hxd, hns]; exact tags_apart
  have HPL : Hid (∀ _ : Unit, encOf kOne ns (X.take 6) = secret) := fun _ => by rw [hxt]; exact encOf_twice _ _ secret_bytes
  obtain ⟨Y, hY⟩ : ∃ Y, Y = sealOf kOne (nonceOf 3 4) labWrap kTwo := ⟨_, rfl⟩
  have HYY : Hid (∀ _ : Unit, sealOf kOne (nonceOf 3 4) labWrap kTwo = Y) := fun _ => hY.symm
  have HYL : Hid (Y.length = 48) := by show _ = _; rw [hY, sealOf_length]; rfl
  have HYB : Hid (Bytes Y) := by rw [hY]; exact sealOf_bytes _ _ _ kTwo_bytes
  have hyt : Y.take 32 = encOf kOne (nonceOf 3 4) kTwo := by rw [hY]; exact sealOf_take kOne (nonceOf 3 4) labWrap kTwo
  have hyd : Y.drop 32 = tagOf kOne (nonceOf 3 4) labWrap (encOf kOne (nonceOf 3 4) kTwo) := by rw [hY]; exact sealOf_drop kOne (nonceOf 3 4) labWrap kTwo
  have HF3 : Hid (Y.drop 32 = tagOf kOne (nonceOf 3 4) labWrap (Y.take 32)) := by show _ = _; rw [hyt, hyd]
  have HZ : Hid (kTwo = encOf kOne (nonceOf 3 4) (Y.take 32)) := by show _ = _; rw [hyt]; exact (encOf_twice _ _ kTwo_bytes).symm
  have HKU : Hid ((u8s kOne).length = 32) := rfl
  have HST : Hid (strOf secret = { data := #[115, 101, 99, 114, 101, 116] }) := rfl
  have heqn : ∀ W, (Op.equalIn 10000 30 (.agg (u8s ns).toArray) (.agg (u8s ns).toArray)).run Tryd.prog W = .ok true W := by
    intro W
    rw [eq_nonces ns ns HNL.out HNL.out W]
    simp
  have heqk : ∀ W, (Op.equalIn 10000 23 (.agg (u8s kTwo).toArray) (.agg (u8s kTwo).toArray)).run Tryd.prog W = .ok true W := by
    intro W
    rw [eq_keys kTwo kTwo rfl rfl W]
    simp
  have HEN : Hid _ := heqn
  have HEK : Hid _ := heqk
  clear ht hq hns hX hxt hxd hY hyt hyd heqn heqk
  go_enter Tryd.func9, Tryd.ntmps9
  go_wp2_with (first
    | ((with_reducible refine at_op (some 12) (.build 23 #[(1, .const (.int .u8 2))]) ?_); go_must (refine wpl_build (u8s kOne) _ rfl built_one ?_))
    | ((with_reducible refine at_op (some 1) (.alloc 23) ?_); refine wpl_alloc _ zero_key hm ?_; clear hm; intro w1 g1 hm)
    | ((with_reducible refine at_op none (.store 23 (.tmp 1) (.tmp 12)) ?_); refine wpl_stw 0 (u8s kOne) hm rfl rfl rfl 32 sz_key (by simp [u8s_length]) (rfl) (u8s_one _) ?_; clear hm; intro w2 hm)
    | (go_at_call 10; refine (nonce_any 1 2 (by omega) _).mono ?_; rintro e w3 ⟨he, hb⟩; rw [HNN.out ()] at he; subst he; replace hm := hm.call hb; clear hb)
    | ((with_reducible refine at_op (some 2) (.alloc 30) ?_); refine wpl_alloc _ zero_nce hm ?_; clear hm; intro w4 g2 hm)
    | ((with_reducible refine at_op none (.store 30 (.tmp 2) (.tmp 13)) ?_); refine wpl_stw 0 (u8s ns) hm rfl rfl rfl 12 sz_nce (by simp [u8s_length]) (HNU.out) (u8s_one _) ?_; clear hm; intro w5 hm)
    | ((with_reducible refine at_op (some 14) (.load 23 (.tmp 1)) ?_); refine wpl_ldw 1 hm rfl rfl _ un_key rfl 32 sz_key (rfl) ?_)
    | ((with_reducible refine at_op (some 15) (.load 30 (.tmp 2)) ?_); refine wpl_ldw 0 hm rfl rfl _ un_nce rfl 12 sz_nce (HNU.out) ?_)
    | ((with_reducible refine at_op (some 17) (.convert 26 26 (.tmp 16)) ?_); go_must (refine wpl_cvc [97] rfl un_bs un_u8 rfl rfl hm ?_); clear hm; intro w6 ga hbx hm hs; have HA : Hid (SlOld w6 (.slice (some ⟨ga, 0, none⟩) 1 1) [97]) := hs; clear hbx hs)
    | ((with_reducible refine at_op (some 19) (.convert 26 26 (.tmp 18)) ?_); go_must (refine wpl_cvc secret rfl un_bs un_u8 rfl rfl hm ?_); clear hm; intro w7 gs hbx hm hs; have HS : Hid (SlOld w7 (.slice (some ⟨gs, 0, none⟩) 6 6) secret) := hs; have HA2 : Hid (SlOld w7 (.slice (some ⟨ga, 0, none⟩) 1 1) [97]) := SlOld.below HA.out hbx; clear HA; clear hbx hs)
    | (go_at_call 18; refine (seal_any kOne ns [97] secret _ _ kOne_length HNL.out kOne_bytes HNB.out bytes_a secret_bytes (by decide) (by decide) _ (Tab.mem HT.out hm (by simp)) (QTab.mem HQ.out hm (by simp)) HA2.out HS.out).mono ?_; rintro e w8 ⟨gb, cap, l, he, hcap, hge, hr, hb⟩; rw [show secret.length + 16 = 22 from rfl] at he hcap; subst he; rw [HXX.out ()] at hr; replace hm := hm.callNew hb hr hge; clear hb hr hge HA2 HS)
    | ((with_reducible refine at_op (some 22) (.load 23 (.tmp 1)) ?_); refine wpl_ldw 2 hm rfl rfl _ un_key rfl 32 sz_key (rfl) ?_)
    | ((with_reducible refine at_op (some 23) (.load 30 (.tmp 2)) ?_); refine wpl_ldw 1 hm rfl rfl _ un_nce rfl 12 sz_nce (HNU.out) ?_)
    | ((with_reducible refine at_op (some 25) (.convert 26 26 (.tmp 24)) ?_); go_must (refine wpl_cvc [97] rfl un_bs un_u8 rfl rfl hm ?_); clear hm; intro w9 gc hbx hm hs; have HA : Hid (SlOld w9 (.slice (some ⟨gc, 0, none⟩) 1 1) [97]) := hs; clear hbx hs))
  refine (open_good kOne ns [97] X _ gb 0 cap 6 HXL.out hcap HF1.out kOne_length HNL.out kOne_bytes HNB.out bytes_a HXB.out (by decide) (by rw [HXL.out]; omega) _ (Tab.mem HT.out hm (by simp)) (QTab.mem HQ.out hm (by simp)) HA.out (seg_head (hm.get 0 rfl))).mono ?_
  rintro e w10 ⟨gp, he, hge, hr, hb⟩
  subst he
  rw [HPL.out ()] at hr
  replace hm := hm.callNew hb hr hge
  clear hb hr hge HA
  go_wp2_with (first
    | ((with_reducible refine at_op (some 31) (.load 23 (.tmp 1)) ?_); refine wpl_ldw 3 hm rfl rfl _ un_key rfl 32 sz_key (rfl) ?_)
    | ((with_reducible refine at_op (some 32) (.load 30 (.tmp 2)) ?_); refine wpl_ldw 2 hm rfl rfl _ un_nce rfl 12 sz_nce (HNU.out) ?_)
    | ((with_reducible refine at_op (some 34) (.convert 26 26 (.tmp 33)) ?_); go_must (refine wpl_cvc [98] rfl un_bs un_u8 rfl rfl hm ?_); clear hm; intro w11 gd hbx hm hs; have HA : Hid (SlOld w11 (.slice (some ⟨gd, 0, none⟩) 1 1) [98]) := hs; clear hbx hs))
  refine (open_bad kOne ns [98] X _ gb 0 cap 6 HXL.out hcap HF2.out kOne_length HNL.out kOne_bytes HNB.out bytes_b HXB.out (by decide) (by rw [HXL.out]; omega) _ (Tab.mem HT.out hm (by simp)) (QTab.mem HQ.out hm (by simp)) HA.out (seg_head (hm.get 1 rfl))).mono ?_
  rintro e w12 ⟨he, hb⟩
  subst he
  replace hm := hm.call hb
  clear hb HA
  go_wp2_with (first
    | ((with_reducible refine at_op (some 40) (.load 23 (.tmp 1)) ?_); refine wpl_ldw 3 hm rfl rfl _ un_key rfl 32 sz_key (rfl) ?_)
    | ((with_reducible refine at_op (some 41) (.load 30 (.tmp 2)) ?_); refine wpl_ldw 2 hm rfl rfl _ un_nce rfl 12 sz_nce (HNU.out) ?_))
  refine (open_short kOne ns [] _ _ (by decide) _ (old_empty _)).mono ?_
  rintro e w13 ⟨he, hb⟩
  subst he
  replace hm := hm.call hb
  clear hb
  go_wp2_with fail
  refine wp_ends0 ?_
  refine anyH_start (T := fun W => Mem w [] W [(gp, u8s secret, 5), (gb, u8s X ++ l, 5), (g2, u8s ns, 30), (g1, u8s kOne, 23)]) (by kernel_rfl) hm ?_
  clear hm
  intro w14 hm
  refine anyH_takeG 0 (v := .agg (u8s kOne).toArray) rfl (by kernel_rfl) (by kernel_rfl) (by kernel_rfl) rfl (fun W hW => exec_ldsG 0 _ (Mem.get hW 3 rfl) rfl _ un_key rfl 32 sz_key (by rw [HKU.out]; omega) (by rw [List.drop_zero, List.take_of_length_le (Nat.le_of_eq HKU.out)])) hm ?_
  go_simp
  refine anyH_takeG 1 (v := .agg (u8s kOne).toArray) rfl (by kernel_rfl) (by kernel_rfl) (by kernel_rfl) rfl (fun W hW => exec_ldsG 0 _ (Mem.get hW 3 rfl) rfl _ un_key rfl 32 sz_key (by rw [HKU.out]; omega) (by rw [List.drop_zero, List.take_of_length_le (Nat.le_of_eq HKU.out)])) hm ?_
  go_simp
  refine anyH_takeG 2 (v := .agg (u8s kTwo).toArray) rfl (by kernel_rfl) (by kernel_rfl) (by kernel_rfl) rfl (fun W _ => exec_built (u8s kTwo) [(5, .int .u8 6)] (by first | rfl | simp [Act.eval]) built_two) hm ?_
  go_simp
  refine wpAnyH_all (rs := [3, 8]) (by kernel_rfl) (by simp) ?_
  intro i hi
  simp only [List.mem_cons, List.not_mem_nil, or_false] at hi
  rcases hi with rfl | rfl
  · refine anyH_op 3 rfl rfl ?_
    intro K hK
    go_wp2_with (go_at_call 20; refine (wrap_any kOne kTwo 3 4 rfl rfl kOne_bytes kTwo_bytes (by omega) _ (Tab.mem HT.out hm (by simp)) (QTab.mem HQ.out hm (by simp))).mono ?_; rintro e wr ⟨he, hb⟩; rw [HYY.out ()] at he; subst he; replace hm := hm.call hb; clear hb)
    refine hK _ _ hm ?_
    clear hK K
    refine wpAnyH_all (rs := [4, 8]) (by kernel_rfl) (by simp) ?_
    intro i hi
    simp only [List.mem_cons, List.not_mem_nil, or_false] at hi
    rcases hi with rfl | rfl
    · refine anyH_op 4 rfl rfl ?_
      intro K hK
      go_wp2_with (go_at_call 13; refine (unwrap_good kOne Y kTwo 3 4 rfl HYL.out kOne_bytes HYB.out (by omega) HF3.out HZ.out _ (Tab.mem HT.out hm (by simp)) (QTab.mem HQ.out hm (by simp))).mono ?_; rintro e wu ⟨he, hb⟩; subst he; replace hm := hm.call hb; clear hb)
      refine hK _ _ hm ?_
      clear hK K
      refine anyH_takeG 5 (v := .tuple #[.agg (u8s kTwo).toArray, .int .i64 0]) rfl (by kernel_rfl) (by kernel_rfl) (by kernel_rfl) rfl (fun W _ => by go_simp) hm ?_
      go_simp
      refine anyH_takeG 6 (v := .agg (u8s kTwo).toArray) rfl (by kernel_rfl) (by kernel_rfl) (by kernel_rfl) rfl (fun W _ => by go_simp) hm ?_
      go_simp
      refine anyH_takeG 7 (v := .int .i64 0) rfl (by kernel_rfl) (by kernel_rfl) (by kernel_rfl) rfl (fun W _ => by go_simp) hm ?_
      go_simp
      refine wpAnyH_all (rs := [8]) (by kernel_rfl) (by simp) ?_
      intro i hi
      simp only [List.mem_cons, List.not_mem_nil, or_false] at hi
      subst hi
      refine anyH_op 8 rfl rfl ?_
      intro K hK
      refine wpl_alloc _ zero_key hm ?_
      clear hm
      intro wa g10 hm
      refine wpList_nil ?_
      refine hK _ _ hm.tail ?_
      clear hK K
      refine wpAnyH_all (rs := [9]) (by kernel_rfl) (by simp) ?_
      intro i hi
      simp only [List.mem_cons, List.not_mem_nil, or_false] at hi
      subst hi
      refine anyH_op 9 rfl rfl ?_
      intro K hK
      refine wpl_stw 0 (u8s kTwo) hm rfl rfl rfl 32 sz_key (by simp [u8s_length]) rfl (u8s_one _) ?_
      clear hm
      intro wz hm
      refine wpList_nil ?_
      refine hK _ _ hm.tail ?_
      clear hK K
      refine anyH_takeG 10 (v := .int .i64 0) rfl (by kernel_rfl) (by kernel_rfl) (by kernel_rfl) rfl (fun W _ => by go_simp) hm.tail ?_
      go_simp
      refine wpAnyH_done (by kernel_rfl) ?_ _
      simp only [endsIn]
      have heqn := HEN.out
      have heqk := HEK.out
      go_wp2_with (first
        | ((with_reducible refine at_op (some 53) (.load 30 (.tmp 2)) ?_); refine wpl_ldw 3 hm rfl rfl _ un_nce rfl 12 sz_nce (HNU.out) ?_)
        | ((with_reducible refine at_op (some 54) (.build 30 #[(3, .const (.int .u8 1)), (11, .const (.int .u8 2))]) ?_); go_must (refine wpl_build (u8s ns) _ rfl HBN.out ?_))
        | ((with_reducible refine at_opG (some 67) (.convert 26 9 (.tmp 66)) (some (12, true)) ?_); go_must (refine wpl_execG (.string { data := #[115, 101, 99, 114, 101, 116] }) rfl (by rw [← HST.out]; exact exec_tostr un_bs un_u8 un_strT secret rfl (old_all (hm.get 1 rfl) rfl (Nat.le_refl _))) ?_))
        | ((with_reducible refine at_opG (some 83) (.load 23 (.tmp 10)) (some (29, true)) ?_); go_must (refine wpl_execG (.agg (u8s kTwo).toArray) rfl (exec_ldsG 0 _ (hm.get 0 rfl) rfl _ un_key rfl 32 sz_key (by decide) rfl) ?_))
        | ((with_reducible refine at_opG (some 84) (.build 23 #[(5, .const (.int .u8 6))]) (some (29, true)) ?_); go_must (refine wpl_execG (.agg (u8s kTwo).toArray) rfl (exec_built (u8s kTwo) [(5, .int .u8 6)] (by first | rfl | simp [Act.eval]) built_two) ?_)))
      go_ret
      exact ⟨rfl, hm.below⟩
    · refine anyH_op 8 rfl rfl ?_
      intro K hK
      refine wpl_alloc _ zero_key hm ?_
      clear hm
      intro wa g10 hm
      refine wpList_nil ?_
      refine hK _ _ hm.tail ?_
      clear hK K
      refine wpAnyH_all (rs := [4]) (by kernel_rfl) (by simp) ?_
      intro i hi
      simp only [List.mem_cons, List.not_mem_nil, or_false] at hi
      subst hi
      refine anyH_op 4 rfl rfl ?_
      intro K hK
      go_wp2_with (go_at_call 13; refine (unwrap_good kOne Y kTwo 3 4 rfl HYL.out kOne_bytes HYB.out (by omega) HF3.out HZ.out _ (Tab.mem HT.out hm (by simp)) (QTab.mem HQ.out hm (by simp))).mono ?_; rintro e wu ⟨he, hb⟩; subst he; replace hm := hm.call hb; clear hb)
      refine hK _ _ hm.tail ?_
      clear hK K
      refine anyH_takeG 5 (v := .tuple #[.agg (u8s kTwo).toArray, .int .i64 0]) rfl (by kernel_rfl) (by kernel_rfl) (by kernel_rfl) rfl (fun W _ => by go_simp) hm.tail ?_
      go_simp
      refine anyH_takeG 6 (v := .agg (u8s kTwo).toArray) rfl (by kernel_rfl) (by kernel_rfl) (by kernel_rfl) rfl (fun W _ => by go_simp) hm.tail ?_
      go_simp
      refine anyH_takeG 7 (v := .int .i64 0) rfl (by kernel_rfl) (by kernel_rfl) (by kernel_rfl) rfl (fun W _ => by go_simp) hm.tail ?_
      go_simp
      refine wpAnyH_all (rs := [9]) (by kernel_rfl) (by simp) ?_
      intro i hi
      simp only [List.mem_cons, List.not_mem_nil, or_false] at hi
      subst hi
      refine anyH_op 9 rfl rfl ?_
      intro K hK
      refine wpl_stw 0 (u8s kTwo) hm rfl rfl rfl 32 sz_key (by simp [u8s_length]) rfl (u8s_one _) ?_
      clear hm
      intro wz hm
      refine wpList_nil ?_
      refine hK _ _ hm.tail ?_
      clear hK K
      refine anyH_takeG 10 (v := .int .i64 0) rfl (by kernel_rfl) (by kernel_rfl) (by kernel_rfl) rfl (fun W _ => by go_simp) hm.tail ?_
      go_simp
      refine wpAnyH_done (by kernel_rfl) ?_ _
      simp only [endsIn]
      have heqn := HEN.out
      have heqk := HEK.out
      go_wp2_with (first
        | ((with_reducible refine at_op (some 53) (.load 30 (.tmp 2)) ?_); refine wpl_ldw 3 hm rfl rfl _ un_nce rfl 12 sz_nce (HNU.out) ?_)
        | ((with_reducible refine at_op (some 54) (.build 30 #[(3, .const (.int .u8 1)), (11, .const (.int .u8 2))]) ?_); go_must (refine wpl_build (u8s ns) _ rfl HBN.out ?_))
        | ((with_reducible refine at_opG (some 67) (.convert 26 9 (.tmp 66)) (some (12, true)) ?_); go_must (refine wpl_execG (.string { data := #[115, 101, 99, 114, 101, 116] }) rfl (by rw [← HST.out]; exact exec_tostr un_bs un_u8 un_strT secret rfl (old_all (hm.get 1 rfl) rfl (Nat.le_refl _))) ?_))
        | ((with_reducible refine at_opG (some 83) (.load 23 (.tmp 10)) (some (29, true)) ?_); go_must (refine wpl_execG (.agg (u8s kTwo).toArray) rfl (exec_ldsG 0 _ (hm.get 0 rfl) rfl _ un_key rfl 32 sz_key (by decide) rfl) ?_))
        | ((with_reducible refine at_opG (some 84) (.build 23 #[(5, .const (.int .u8 6))]) (some (29, true)) ?_); go_must (refine wpl_execG (.agg (u8s kTwo).toArray) rfl (exec_built (u8s kTwo) [(5, .int .u8 6)] (by first | rfl | simp [Act.eval]) built_two) ?_)))
      go_ret
      exact ⟨rfl, hm.below⟩
  · refine anyH_op 8 rfl rfl ?_
    intro K hK
    refine wpl_alloc _ zero_key hm ?_
    clear hm
    intro wa g10 hm
    refine wpList_nil ?_
    refine hK _ _ hm.tail ?_
    clear hK K
    refine wpAnyH_all (rs := [3]) (by kernel_rfl) (by simp) ?_
    intro i hi
    simp only [List.mem_cons, List.not_mem_nil, or_false] at hi
    subst hi
    refine anyH_op 3 rfl rfl ?_
    intro K hK
    go_wp2_with (go_at_call 20; refine (wrap_any kOne kTwo 3 4 rfl rfl kOne_bytes kTwo_bytes (by omega) _ (Tab.mem HT.out hm (by simp)) (QTab.mem HQ.out hm (by simp))).mono ?_; rintro e wr ⟨he, hb⟩; rw [HYY.out ()] at he; subst he; replace hm := hm.call hb; clear hb)
    refine hK _ _ hm.tail ?_
    clear hK K
    refine wpAnyH_all (rs := [4]) (by kernel_rfl) (by simp) ?_
    intro i hi
    simp only [List.mem_cons, List.not_mem_nil, or_false] at hi
    subst hi
    refine anyH_op 4 rfl rfl ?_
    intro K hK
    go_wp2_with (go_at_call 13; refine (unwrap_good kOne Y kTwo 3 4 rfl HYL.out kOne_bytes HYB.out (by omega) HF3.out HZ.out _ (Tab.mem HT.out hm (by simp)) (QTab.mem HQ.out hm (by simp))).mono ?_; rintro e wu ⟨he, hb⟩; subst he; replace hm := hm.call hb; clear hb)
    refine hK _ _ hm.tail ?_
    clear hK K
    refine anyH_takeG 5 (v := .tuple #[.agg (u8s kTwo).toArray, .int .i64 0]) rfl (by kernel_rfl) (by kernel_rfl) (by kernel_rfl) rfl (fun W _ => by go_simp) hm.tail ?_
    go_simp
    refine anyH_takeG 6 (v := .agg (u8s kTwo).toArray) rfl (by kernel_rfl) (by kernel_rfl) (by kernel_rfl) rfl (fun W _ => by go_simp) hm.tail ?_
    go_simp
    refine anyH_takeG 7 (v := .int .i64 0) rfl (by kernel_rfl) (by kernel_rfl) (by kernel_rfl) rfl (fun W _ => by go_simp) hm.tail ?_
    go_simp
    refine wpAnyH_all (rs := [9]) (by kernel_rfl) (by simp) ?_
    intro i hi
    simp only [List.mem_cons, List.not_mem_nil, or_false] at hi
    subst hi
    refine anyH_op 9 rfl rfl ?_
    intro K hK
    refine wpl_stw 0 (u8s kTwo) hm rfl rfl rfl 32 sz_key (by simp [u8s_length]) rfl (u8s_one _) ?_
    clear hm
    intro wz hm
    refine wpList_nil ?_
    refine hK _ _ hm.tail ?_
    clear hK K
    refine anyH_takeG 10 (v := .int .i64 0) rfl (by kernel_rfl) (by kernel_rfl) (by kernel_rfl) rfl (fun W _ => by go_simp) hm.tail ?_
    go_simp
    refine wpAnyH_done (by kernel_rfl) ?_ _
    simp only [endsIn]
    have heqn := HEN.out
    have heqk := HEK.out
    go_wp2_with (first
      | ((with_reducible refine at_op (some 53) (.load 30 (.tmp 2)) ?_); refine wpl_ldw 3 hm rfl rfl _ un_nce rfl 12 sz_nce (HNU.out) ?_)
      | ((with_reducible refine at_op (some 54) (.build 30 #[(3, .const (.int .u8 1)), (11, .const (.int .u8 2))]) ?_); go_must (refine wpl_build (u8s ns) _ rfl HBN.out ?_))
      | ((with_reducible refine at_opG (some 67) (.convert 26 9 (.tmp 66)) (some (12, true)) ?_); go_must (refine wpl_execG (.string { data := #[115, 101, 99, 114, 101, 116] }) rfl (by rw [← HST.out]; exact exec_tostr un_bs un_u8 un_strT secret rfl (old_all (hm.get 1 rfl) rfl (Nat.le_refl _))) ?_))
      | ((with_reducible refine at_opG (some 83) (.load 23 (.tmp 10)) (some (29, true)) ?_); go_must (refine wpl_execG (.agg (u8s kTwo).toArray) rfl (exec_ldsG 0 _ (hm.get 0 rfl) rfl _ un_key rfl 32 sz_key (by decide) rfl) ?_))
      | ((with_reducible refine at_opG (some 84) (.build 23 #[(5, .const (.int .u8 6))]) (some (29, true)) ?_); go_must (refine wpl_execG (.agg (u8s kTwo).toArray) rfl (exec_built (u8s kTwo) [(5, .int .u8 6)] (by first | rfl | simp [Act.eval]) built_two) ?_)))
    go_ret
    exact ⟨rfl, hm.below⟩
end Go.Proofs.YtbfccepddfinoaaDoor
