/- The document's Seal and Open. -/
import Derived.Test.YtbfccepddfinoaaDoorSealRefA
namespace Go.Proofs.YtbfccepddfinoaaDoor
open Go Go.RowKit
set_option maxRecDepth 100000 in
theorem OwnB.mono {e : TypeId} {w : World} {b b' : Nat} {v : Value} {zs : List Int} (h : OwnB e w b v zs) (hb : b' ≤ b) : OwnB e w b' v zs := by
  refine ⟨h.1, ?_⟩
  rcases h.2 with hn | ⟨g, cap, cur, hv, hg, rest⟩
  · exact Or.inl hn
  · exact Or.inr ⟨g, cap, cur, hv, Nat.le_trans hb hg, rest⟩
set_option maxRecDepth 100000 in
/-- A slice that a call made is kept beside the rows. -/
theorem Mem.callOwn {w0 w w' : World} {S : List Nat} {rows : List (Nat × List Value × TypeId)} {e : TypeId} {v : Value} {zs : List Int} (hm : Mem w0 S w rows) (hb : Below w.heap.size w w') (ho : OwnB e w' w.heap.size v zs) :
    ∃ rs, Mem w0 S w' (rows ++ rs) ∧ ∀ W, Mem w0 S W rs → SlOld W v zs := by
  have hc := hm.call hb
  rcases ho.2 with ⟨hv, hn⟩ | ⟨g, cap, cur, hv, hg, hr, hnc, _, _, ht⟩
  · refine ⟨[], by rw [List.append_nil]; exact hc, fun W _ => ?_⟩
    have hz : zs = [] := List.eq_nil_of_length_eq_zero hn
    subst hz
    rw [hv]
    exact old_empty _
  · refine ⟨[(g, cur.toList, e)], ⟨hc.os, hc.tape, hc.output, hc.size, hc.block, ?_, ?_, ?_⟩, fun W hW => ?_⟩
    · intro r hr'
      rcases List.mem_append.1 hr' with h | h
      · exact hc.row r h
      · simp only [List.mem_cons, List.not_mem_nil, or_false] at h
        subst h
        exact hr
    · rw [List.map_append, List.nodup_append]
      refine ⟨hc.nodup, by simp, fun a ha b hb2 => ?_⟩
      simp only [List.map_cons, List.map_nil, List.mem_cons, List.not_mem_nil, or_false] at hb2
      obtain ⟨r, hr', rfl⟩ := List.mem_map.1 ha
      have := (hm.row r hr').lt
      rw [hb2]
      omega
    · intro r hr'
      rcases List.mem_append.1 hr' with h | h
      · exact hc.fresh r h
      · simp only [List.mem_cons, List.not_mem_nil, or_false] at h
        subst h
        exact Or.inr (Nat.le_trans hm.size hg)
    · rw [Nat.mul_one] at ht
      have hrow : Row W g (u8s zs ++ cur.toList.drop zs.length) e := by
        rw [← ht, List.take_append_drop]
        exact hW.get 0 rfl
      rw [hv]
      exact old_head hrow rfl hnc
set_option maxRecDepth 100000 in
theorem exec_nesV {P : Program} {a : Act} {w : World} {dst : Option Tmp} {typ : TypeId} {pos : String} {aft : Array Edge} {gd : Option (Nat × Bool)} {t : TypeId} {x y : Operand} {rt : TypeId} (s s' : ByteArray) (v : Bool) (hx : a.eval x = .string s) (hy : a.eval y = .string s') (hv : (!(s == s')) = v) :
    (execOp a.eval { dst := dst, op := .binOp .neq t x y rt, type := typ, pos := pos, after := aft, guard := gd }).run P w = .ok (.value (.bool v)) w := by
  subst hv
  unfold execOp
  simp only [hx, hy]
  simp [eqGuard, binOp, Op.stringOp]
  rw [beq_toListBytes]
set_option maxHeartbeats 2000000 in
set_option maxRecDepth 100000 in
theorem sealRef_any (ks ns ds ms : List Int) (va vp : Value) (hkl : ks.length = 32) (hnl : ns.length = 12) (hkb : Bytes ks) (hnb : Bytes ns) (hdb : Bytes ds) (hmb : Bytes ms) (hal : ds.length ≤ 20000) (hml : ms.length ≤ 20000) (w : World) (hva : SlOld w va ds) (hvp : SlOld w vp ms) :
    Calls Tryd.prog 19 #[.agg (u8s ks).toArray, .agg (u8s ns).toArray, va, vp] w fun e w' => ∃ v', e = .returned v' ∧ OwnB 5 w' w.heap.size v' (sealOf ks ns ds ms) ∧ Below w.heap.size w w' := by
  obtain ⟨pa, ca, rfl, _⟩ := hva.len
  obtain ⟨pp, cp, rfl, _⟩ := hvp.len
  have hm := Mem.start w
  have HKL : Hid _ := hkl
  have HNL : Hid _ := hnl
  have HKB : Hid _ := hkb
  have HNB : Hid _ := hnb
  have HKU : Hid ((u8s ks).length = 32) := by show _ = _; rw [u8s_length]; exact hkl
  have HNU : Hid ((u8s ns).length = 12) := by show _ = _; rw [u8s_length]; exact hnl
  have HDB : Hid _ := hdb
  have HA : Hid (SlOld w (.slice pa ds.length ca) ds) := hva
  have HP : Hid (SlOld w (.slice pp ms.length cp) ms) := hvp
  obtain ⟨E, hE⟩ : ∃ E, E = encKey ks := ⟨_, rfl⟩
  have HEE : Hid (∀ _ : Unit, deriveOf ks (strB { data := #[101, 110, 99] }) 0 = E) := fun _ => hE.symm
  have HEL : Hid (E.length = 32) := by show _ = _; rw [hE, encKey, deriveOf_length]
  have HEB : Hid (Bytes E) := by rw [hE]; exact deriveOf_bytes _ _ _
  obtain ⟨C, hC⟩ : ∃ C, C = encOf ks ns ms := ⟨_, rfl⟩
  have HCC : Hid (∀ _ : Unit, xorOf E ns 1 ms = C) := fun _ => by rw [hC, hE]; rfl
  have HCB : Hid (Bytes C) := by rw [hC]; exact encOf_bytes _ _ hmb
  have HCL : Hid (C.length = ms.length) := by show _ = _; rw [hC, encOf_length]
  obtain ⟨G, hG⟩ : ∃ G, G = tagOf ks ns ds C := ⟨_, rfl⟩
  have HGG : Hid (∀ _ : Unit, tagOf ks ns ds C = G) := fun _ => hG.symm
  have HGL : Hid (G.length = 16) := by show _ = _; rw [hG, tagOf_length]
  have HGU : Hid ((u8s G).length = 16) := by show _ = _; rw [u8s_length]; exact HGL.out
  have HSL : Hid (∀ _ : Unit, sealOf ks ns ds ms = [] ++ C ++ G) := fun _ => by rw [hG, hC]; rfl
  have hty : ∀ (a b c : Nat), ∀ r ∈ [(a, u8s G, (42 : TypeId)), (b, u8s ns, (30 : TypeId)), (c, u8s ks, (23 : TypeId))], r.2.2 ≠ 5 := by
    intro a b c r hr
    simp only [List.mem_cons, List.not_mem_nil, or_false] at hr
    rcases hr with rfl | rfl | rfl <;> simp
  have HTY : Hid _ := hty
  clear hkl hnl hkb hnb hdb hmb hva hvp hE hC hG hty
  go_enter Tryd.func19, Tryd.ntmps19
  go_wp2_with (first
    | ((with_reducible refine at_op (some 4) (.box 23 (.tmp 0)) ?_); refine wpl_box (u8s ks) rfl hm ?_; clear hm; intro w1 g4 hm)
    | ((with_reducible refine at_op (some 5) (.box 30 (.tmp 1)) ?_); refine wpl_box (u8s ns) rfl hm ?_; clear hm; intro w2 g5 hm))
  refine wp_ends0 ?_
  refine anyH_start (T := fun W => Mem w [] W [(g5, u8s ns, 30), (g4, u8s ks, 23)]) (by kernel_rfl) hm ?_
  clear hm
  intro w3 hm
  refine anyH_takeG 0 (v := .agg (u8s ks).toArray) rfl (by kernel_rfl) (by kernel_rfl) (by kernel_rfl) rfl (fun W hW => exec_ldsG 0 _ (Mem.get hW 1 rfl) rfl _ un_key rfl 32 sz_key (by rw [HKU.out]; omega) (by rw [List.drop_zero, List.take_of_length_le (Nat.le_of_eq HKU.out)])) hm ?_
  go_simp
  refine anyH_takeG 2 (v := .agg (u8s ns).toArray) rfl (by kernel_rfl) (by kernel_rfl) (by kernel_rfl) rfl (fun W hW => exec_ldsG 0 _ (Mem.get hW 0 rfl) rfl _ un_nce rfl 12 sz_nce (by rw [HNU.out]; omega) (by rw [List.drop_zero, List.take_of_length_le (Nat.le_of_eq HNU.out)])) hm ?_
  go_simp
  refine anyH_takeG 3 (v := .slice pp ms.length cp) rfl (by kernel_rfl) (by kernel_rfl) (by kernel_rfl) rfl (fun W _ => by go_simp) hm ?_
  go_simp
  refine wpAnyH_all (rs := [1]) (by kernel_rfl) (by simp) ?_
  intro i hi
  simp only [List.mem_cons, List.not_mem_nil, or_false] at hi
  subst hi
  refine anyH_op 1 rfl rfl ?_
  intro K hK
  go_wp2_with (go_at_call 26; refine (deriveRef_any ks _ 0 HKL.out HKB.out (by decide) (by omega) _).mono ?_; rintro e wd ⟨he, hb⟩; rw [HEE.out ()] at he; subst he; replace hm := hm.call hb; clear hb)
  refine hK _ _ hm ?_
  clear hK K
  refine wpAnyH_all (rs := [4]) (by kernel_rfl) (by simp) ?_
  intro i hi
  simp only [List.mem_cons, List.not_mem_nil, or_false] at hi
  subst hi
  refine anyH_op 4 rfl rfl ?_
  intro K hK
  go_wp2_with (go_at_call 25; refine (xorRef4_own E ns ms 1 _ HEL.out HNL.out HEB.out HNB.out ⟨by omega, by omega⟩ (by omega) _ (SlOld.mem HP.out hm)).mono ?_; rintro e w5 ⟨v9, he, ho, hb⟩; subst he; rw [HCC.out ()] at ho; have hmT := hm.call hb; have hOm := OwnB.mono ho hm.size; obtain ⟨rs, hm2, hso⟩ := Mem.callOwn hm hb ho; obtain ⟨p9, c9, hv9, _⟩ := OwnB.old ho; rw [HCL.out] at hv9; subst hv9; have HSO : Hid (∀ W, Mem w [] W rs → SlOld W (.slice p9 ms.length c9) C) := hso; have HOM : Hid (OwnB 5 w5 w.heap.size (.slice p9 ms.length c9) C) := hOm; clear hso ho hb hOm)
  refine hK _ _ hmT ?_
  clear hK K
  refine anyH_takeG 5 (v := .slice p9 ms.length c9) rfl (by kernel_rfl) (by kernel_rfl) (by kernel_rfl) rfl (fun W _ => by go_simp) hmT ?_
  go_simp
  refine wpAnyH_done (by kernel_rfl) ?_ _
  simp only [endsIn]
  clear hm hmT
  have hm : Mem w [] w5 ((g5, u8s ns, 30) :: (g4, u8s ks, 23) :: rs) := hm2
  clear hm2
  go_wp2_with (first
    | ((with_reducible refine at_op (some 16) (.load 23 (.tmp 4)) ?_); refine wpl_ldw 1 hm rfl rfl _ un_key rfl 32 sz_key (HKU.out) ?_)
    | ((with_reducible refine at_op (some 17) (.load 30 (.tmp 5)) ?_); refine wpl_ldw 0 hm rfl rfl _ un_nce rfl 12 sz_nce (HNU.out) ?_)
    | (go_at_call 17; refine (tagRef_any ks ns ds C _ _ HKL.out HNL.out HKB.out HNB.out HDB.out HCB.out hal (by rw [HCL.out]; exact hml) _ (SlOld.mem HA.out hm) (HSO.out _ hm.tail.tail)).mono ?_; rintro e w6 ⟨he, hb⟩; rw [HGG.out ()] at he; subst he; replace hm := hm.call hb; clear hb)
    | ((with_reducible refine at_op (some 10) (.alloc 42) ?_); refine wpl_alloc _ zero_tag hm ?_; clear hm; intro w7 g10 hm)
    | ((with_reducible refine at_op none (.store 42 (.tmp 10) (.tmp 20)) ?_); refine wpl_stw 0 (u8s G) hm rfl rfl rfl 16 sz_tag (by simp [u8s_length]) (HGU.out) (u8s_one _) ?_; clear hm; intro w8 hm))
  refine wp_ends0 ?_
  refine anyH_start (T := fun W => Mem w [] W [(g10, u8s G, 42), (g5, u8s ns, 30), (g4, u8s ks, 23)]) (by kernel_rfl) hm ?_
  clear hm
  intro w9 hm
  have HS9 : Hid (SlOld w9 (.slice p9 ms.length c9) C) := HSO.out _ hm.tail.tail.tail
  replace hm : Mem w [] w9 [(g10, u8s G, 42), (g5, u8s ns, 30), (g4, u8s ks, 23)] := hm.sub (List.sublist_append_left [(g10, u8s G, 42), (g5, u8s ns, 30), (g4, u8s ks, 23)] rs)
  refine anyH_takeG 0 (v := .slice p9 ms.length c9) rfl (by kernel_rfl) (by kernel_rfl) (by kernel_rfl) rfl (fun W _ => by go_simp) hm ?_
  go_simp
  refine anyH_takeG 2 (v := .slice (some ⟨g10, 0, none⟩) 16 16) rfl (by kernel_rfl) (by kernel_rfl) (by kernel_rfl) rfl (fun W _ => by go_simp) hm ?_
  go_simp
  refine wpAnyH_all (rs := [1]) (by kernel_rfl) (by simp) ?_
  intro i hi
  simp only [List.mem_cons, List.not_mem_nil, or_false] at hi
  subst hi
  refine anyH_op 1 rfl rfl ?_
  intro K hK
  refine wpl_app rfl un_bs made_u8 C hm (OwnB.nil _ _ _) (HTY.out _ _ _) rfl rfl HCL.out.symm HS9.out.src0.2.2 (by rw [HCL.out]; simp; omega) ?_
  clear hm
  intro v22 w10 ho hm
  have HO1 : Hid (OwnB 5 w10 w.heap.size v22 ([] ++ C)) := ho
  clear ho
  refine wpList_nil ?_
  refine hK _ _ hm ?_
  clear hK K
  refine wpAnyH_all (rs := [3]) (by kernel_rfl) (by simp) ?_
  intro i hi
  simp only [List.mem_cons, List.not_mem_nil, or_false] at hi
  subst hi
  refine anyH_op 3 rfl rfl ?_
  intro K hK
  refine wpl_app rfl un_bs made_u8 G hm HO1.out (HTY.out _ _ _) rfl rfl HGL.out.symm (fun _ => ⟨g10, 0, rfl, Seg.row (hm.get 0 rfl)⟩) (by rw [List.nil_append, HCL.out, HGL.out]; omega) ?_
  clear hm
  intro v24 w11 ho hm
  have HO2 : Hid (OwnB 5 w11 w.heap.size v24 ([] ++ C ++ G)) := ho
  clear ho HO1
  refine wpList_nil ?_
  refine hK _ _ hm ?_
  clear hK K
  refine anyH_takeG 4 (v := v24) rfl (by kernel_rfl) (by kernel_rfl) (by kernel_rfl) rfl (fun W _ => by go_simp) hm ?_
  go_simp
  refine wpAnyH_done (by kernel_rfl) ?_ _
  simp only [endsIn]
  go_wp2_with fail
  go_ret
  exact ⟨v24, rfl, by rw [HSL.out ()]; exact HO2.out, hm.below⟩
set_option maxHeartbeats 2000000 in
set_option maxRecDepth 100000 in
theorem openRef_good (ks ns ds bs : List Int) (va : Value) (b off cap n : Nat) (hn : bs.length = n + 16) (hcap : n + 16 ≤ cap) (hf : bs.drop n = tagOf ks ns ds (bs.take n)) (hkl : ks.length = 32) (hnl : ns.length = 12) (hkb : Bytes ks) (hnb : Bytes ns) (hdb : Bytes ds) (hbb : Bytes bs) (hal : ds.length ≤ 20000) (hbl : bs.length ≤ 20000) (w : World) (hva : SlOld w va ds) (hs : Seg w b off bs) :
    Calls Tryd.prog 12 #[.agg (u8s ks).toArray, .agg (u8s ns).toArray, va, .slice (some ⟨b, off, none⟩) (n + 16) cap] w fun e w' => ∃ v', e = .returned (.tuple #[v', .int .i64 0]) ∧ OwnB 5 w' w.heap.size v' (encOf ks ns (bs.take n)) ∧ Below w.heap.size w w' := by
  obtain ⟨pa, ca, rfl, _⟩ := hva.len
  have hm := Mem.start w
  have HKL : Hid _ := hkl
  have HNL : Hid _ := hnl
  have HKB : Hid _ := hkb
  have HNB : Hid _ := hnb
  have HKU : Hid ((u8s ks).length = 32) := by show _ = _; rw [u8s_length]; exact hkl
  have HNU : Hid ((u8s ns).length = 12) := by show _ = _; rw [u8s_length]; exact hnl
  have HDB : Hid _ := hdb
  have HA : Hid (SlOld w (.slice pa ds.length ca) ds) := hva
  have HSG : Hid (Seg w b off bs) := hs
  obtain ⟨E, hE⟩ : ∃ E, E = encKey ks := ⟨_, rfl⟩
  have HEE : Hid (∀ _ : Unit, deriveOf ks (strB { data := #[101, 110, 99] }) 0 = E) := fun _ => hE.symm
  have HEL : Hid (E.length = 32) := by show _ = _; rw [hE, encKey, deriveOf_length]
  have HEB : Hid (Bytes E) := by rw [hE]; exact deriveOf_bytes _ _ _
  obtain ⟨T, hT⟩ : ∃ T, T = bs.take n := ⟨_, rfl⟩
  have HTL : Hid (T.length = n) := by show _ = _; rw [hT, List.length_take]; omega
  have HTB : Hid (Bytes T) := by rw [hT]; exact hbb.take _
  have HTS : Hid (∀ W, Seg W b off bs → SlOld W (.slice (some ⟨b, off, none⟩) n cap) T) := fun W h => by
    rw [hT]
    exact old_segT h n (by omega) (by omega)
  obtain ⟨D, hD⟩ : ∃ D, D = bs.drop n := ⟨_, rfl⟩
  have HDS : Hid (∀ W, Seg W b off bs → SlOld W (.slice (some ⟨b, off + n, none⟩) 16 (cap - n)) D) := fun W h => by
    rw [hD]
    exact old_segD h n 16 hn (by omega)
  obtain ⟨G, hG⟩ : ∃ G, G = tagOf ks ns ds T := ⟨_, rfl⟩
  have HGG : Hid (∀ _ : Unit, tagOf ks ns ds T = G) := fun _ => hG.symm
  have HGL : Hid (G.length = 16) := by show _ = _; rw [hG, tagOf_length]
  have HGU : Hid ((u8s G).length = 16) := by show _ = _; rw [u8s_length]; exact HGL.out
  have HNE : Hid ((!(strOf G == strOf D)) = false) := by
    show _ = _
    rw [← hT, ← hD, ← hG] at hf
    rw [strOf_eq (by rw [hG]; exact tagOf_bytes _ _ _ _) (by rw [hD]; exact hbb.drop _)]
    rw [decide_eq_true hf.symm]; rfl
  obtain ⟨C, hC⟩ : ∃ C, C = encOf ks ns (bs.take n) := ⟨_, rfl⟩
  have HCC : Hid (∀ _ : Unit, xorOf E ns 1 T = C) := fun _ => by rw [hC, hE, hT]; rfl
  have HCE : Hid (∀ _ : Unit, encOf ks ns (bs.take n) = C) := fun _ => hC.symm
  have HCL : Hid (C.length = n) := by show _ = _; rw [hC, encOf_length, List.length_take]; omega
  have hnl2 : n ≤ 20000 := by omega
  have hni : ¬ (n : Int) < 0 := by omega
  clear hkl hnl hkb hnb hdb hbb hva hs hT hD hG hf hn hbl hE hC
  go_enter Tryd.func12, Tryd.ntmps12
  go_wp2_with (first
    | ((with_reducible refine at_op (some 4) (.box 23 (.tmp 0)) ?_); refine wpl_box (u8s ks) rfl hm ?_; clear hm; intro w1 g4 hm)
    | ((with_reducible refine at_op (some 5) (.box 30 (.tmp 1)) ?_); refine wpl_box (u8s ns) rfl hm ?_; clear hm; intro w2 g5 hm))
  refine wp_ends0 ?_
  refine anyH_start (T := fun W => Mem w [] W [(g5, u8s ns, 30), (g4, u8s ks, 23)]) (by kernel_rfl) hm ?_
  clear hm
  intro w3 hm
  refine anyH_takeG 0 (v := .agg (u8s ks).toArray) rfl (by kernel_rfl) (by kernel_rfl) (by kernel_rfl) rfl (fun W hW => exec_ldsG 0 _ (Mem.get hW 1 rfl) rfl _ un_key rfl 32 sz_key (by rw [HKU.out]; omega) (by rw [List.drop_zero, List.take_of_length_le (Nat.le_of_eq HKU.out)])) hm ?_
  go_simp
  refine anyH_takeG 1 (v := .agg (u8s ns).toArray) rfl (by kernel_rfl) (by kernel_rfl) (by kernel_rfl) rfl (fun W hW => exec_ldsG 0 _ (Mem.get hW 0 rfl) rfl _ un_nce rfl 12 sz_nce (by rw [HNU.out]; omega) (by rw [List.drop_zero, List.take_of_length_le (Nat.le_of_eq HNU.out)])) hm ?_
  go_simp
  refine anyH_takeG 2 (v := .slice pa ds.length ca) rfl (by kernel_rfl) (by kernel_rfl) (by kernel_rfl) rfl (fun W _ => by go_simp) hm ?_
  go_simp
  refine anyH_takeG 3 (v := .slice (some ⟨b, off, none⟩) (n + 16) cap) rfl (by kernel_rfl) (by kernel_rfl) (by kernel_rfl) rfl (fun W _ => by go_simp) hm ?_
  go_simp
  refine anyH_takeG 4 (v := .int .i64 (n : Int)) rfl (by kernel_rfl) (by kernel_rfl) (by kernel_rfl) rfl (fun W _ => by go_simp) hm ?_
  go_simp
  refine anyH_takeG 5 (v := .slice (some ⟨b, off, none⟩) n cap) rfl (by kernel_rfl) (by kernel_rfl) (by kernel_rfl) rfl (fun W _ => exec_hiS un_bs sz_u8 n (by omega) rfl rfl rfl) hm ?_
  go_simp
  refine wpAnyH_all (rs := [6, 7]) (by kernel_rfl) (by simp) ?_
  intro i hi
  simp only [List.mem_cons, List.not_mem_nil, or_false] at hi
  rcases hi with rfl | rfl
  · refine anyH_op 6 rfl rfl ?_
    intro K hK
    go_wp2_with (go_at_call 17; refine (tagRef_any ks ns ds T _ _ HKL.out HNL.out HKB.out HNB.out HDB.out HTB.out hal (by rw [HTL.out]; exact hnl2) _ (SlOld.mem HA.out hm) (HTS.out _ (Seg.mem HSG.out hm (by simp)))).mono ?_; rintro e wt ⟨he, hb⟩; rw [HGG.out ()] at he; subst he; replace hm := hm.call hb; clear hb)
    refine hK _ _ hm ?_
    clear hK K
    refine wpAnyH_all (rs := [7]) (by kernel_rfl) (by simp) ?_
    intro i hi
    simp only [List.mem_cons, List.not_mem_nil, or_false] at hi
    subst hi
    refine anyH_op 7 rfl rfl ?_
    intro K hK
    refine wpl_alloc _ zero_tag hm ?_
    clear hm
    intro wa g11 hm
    refine wpList_nil ?_
    refine hK _ _ hm.tail ?_
    clear hK K
    refine wpAnyH_all (rs := [8]) (by kernel_rfl) (by simp) ?_
    intro i hi
    simp only [List.mem_cons, List.not_mem_nil, or_false] at hi
    subst hi
    refine anyH_op 8 rfl rfl ?_
    intro K hK
    refine wpl_stw 0 (u8s G) hm rfl rfl rfl 16 sz_tag (by simp [u8s_length]) HGU.out (u8s_one _) ?_
    clear hm
    intro wz hm
    refine wpList_nil ?_
    refine hK _ _ hm.tail ?_
    clear hK K
    refine wpAnyH_done (by kernel_rfl) ?_ _
    simp only [endsIn]
    go_wp2_with fail
    refine wp_ends0 ?_
    refine anyH_start (T := fun W => Mem w [] W [(g11, u8s G, 42), (g5, u8s ns, 30), (g4, u8s ks, 23)]) (by kernel_rfl) hm ?_
    clear hm
    intro w4 hm
    refine anyH_takeG 0 (v := .slice (some ⟨g11, 0, none⟩) 16 16) rfl (by kernel_rfl) (by kernel_rfl) (by kernel_rfl) rfl (fun W _ => by go_simp) hm ?_
    go_simp
    refine anyH_takeG 1 (v := .string (strOf G)) rfl (by kernel_rfl) (by kernel_rfl) (by kernel_rfl) rfl (fun W hW => exec_tostr un_bs un_u8 un_strT _ rfl (old_all (Mem.get hW 0 rfl) HGL.out (Nat.le_refl _))) hm ?_
    go_simp
    refine anyH_takeG 2 (v := .slice (some ⟨b, off, none⟩) (n + 16) cap) rfl (by kernel_rfl) (by kernel_rfl) (by kernel_rfl) rfl (fun W _ => by go_simp) hm ?_
    go_simp
    refine anyH_takeG 3 (v := .int .i64 (n : Int)) rfl (by kernel_rfl) (by kernel_rfl) (by kernel_rfl) rfl (fun W _ => by go_simp) hm ?_
    go_simp
    refine anyH_takeG 4 (v := .slice (some ⟨b, off + n, none⟩) 16 (cap - n)) rfl (by kernel_rfl) (by kernel_rfl) (by kernel_rfl) rfl (fun W _ => exec_loS un_bs sz_u8 n 16 (by omega) (by omega) (by omega) rfl rfl rfl) hm ?_
    go_simp
    refine anyH_takeG 5 (v := .string (strOf D)) rfl (by kernel_rfl) (by kernel_rfl) (by kernel_rfl) rfl (fun W hW => exec_tostr un_bs un_u8 un_strT _ rfl (HDS.out _ (Seg.mem HSG.out hW (by simp)))) hm ?_
    go_simp
    refine anyH_takeG 6 (v := .bool false) rfl (by kernel_rfl) (by kernel_rfl) (by kernel_rfl) rfl (fun W _ => exec_nesV _ _ _ rfl rfl HNE.out) hm ?_
    go_simp
    refine wpAnyH_done (by kernel_rfl) ?_ _
    simp only [endsIn]
    go_wp2_with fail
    refine wp_ends0 ?_
    refine anyH_start (T := fun W => Mem w [] W [(g11, u8s G, 42), (g5, u8s ns, 30), (g4, u8s ks, 23)]) (by kernel_rfl) hm ?_
    clear hm
    intro w6 hm
    refine anyH_takeG 0 (v := .agg (u8s ks).toArray) rfl (by kernel_rfl) (by kernel_rfl) (by kernel_rfl) rfl (fun W hW => exec_ldsG 0 _ (Mem.get hW 2 rfl) rfl _ un_key rfl 32 sz_key (by rw [HKU.out]; omega) (by rw [List.drop_zero, List.take_of_length_le (Nat.le_of_eq HKU.out)])) hm ?_
    go_simp
    refine anyH_takeG 2 (v := .agg (u8s ns).toArray) rfl (by kernel_rfl) (by kernel_rfl) (by kernel_rfl) rfl (fun W hW => exec_ldsG 0 _ (Mem.get hW 1 rfl) rfl _ un_nce rfl 12 sz_nce (by rw [HNU.out]; omega) (by rw [List.drop_zero, List.take_of_length_le (Nat.le_of_eq HNU.out)])) hm ?_
    go_simp
    refine anyH_takeG 3 (v := .slice (some ⟨b, off, none⟩) (n + 16) cap) rfl (by kernel_rfl) (by kernel_rfl) (by kernel_rfl) rfl (fun W _ => by go_simp) hm ?_
    go_simp
    refine anyH_takeG 4 (v := .int .i64 (n : Int)) rfl (by kernel_rfl) (by kernel_rfl) (by kernel_rfl) rfl (fun W _ => by go_simp) hm ?_
    go_simp
    refine anyH_takeG 5 (v := .slice (some ⟨b, off, none⟩) n cap) rfl (by kernel_rfl) (by kernel_rfl) (by kernel_rfl) rfl (fun W _ => exec_hiS un_bs sz_u8 n (by omega) rfl rfl rfl) hm ?_
    go_simp
    refine wpAnyH_all (rs := [1]) (by kernel_rfl) (by simp) ?_
    intro i hi
    simp only [List.mem_cons, List.not_mem_nil, or_false] at hi
    subst hi
    refine anyH_op 1 rfl rfl ?_
    intro K hK
    go_wp2_with (go_at_call 26; refine (deriveRef_any ks _ 0 HKL.out HKB.out (by decide) (by omega) _).mono ?_; rintro e wd ⟨he, hb⟩; rw [HEE.out ()] at he; subst he; replace hm := hm.call hb; clear hb)
    refine hK _ _ hm ?_
    clear hK K
    refine wpAnyH_all (rs := [6]) (by kernel_rfl) (by simp) ?_
    intro i hi
    simp only [List.mem_cons, List.not_mem_nil, or_false] at hi
    subst hi
    refine anyH_op 6 rfl rfl ?_
    intro K hK
    go_wp2_with (go_at_call 25; refine (xorRef4_own E ns T 1 _ HEL.out HNL.out HEB.out HNB.out ⟨by omega, by omega⟩ (by rw [HTL.out]; omega) _ (HTS.out _ (Seg.mem HSG.out hm (by simp)))).mono ?_; rintro e w7 ⟨v9, he, ho, hb⟩; subst he; rw [HCC.out ()] at ho; have hmT := hm.call hb; have hOm := OwnB.mono ho hm.size; obtain ⟨rs, hm2, hso⟩ := Mem.callOwn hm hb ho; obtain ⟨p9, c9, hv9, _⟩ := OwnB.old ho; rw [HCL.out] at hv9; subst hv9; have HSO : Hid (∀ W, Mem w [] W rs → SlOld W (.slice p9 n c9) C) := hso; have HOM : Hid (OwnB 5 w7 w.heap.size (.slice p9 n c9) C) := hOm; clear hso ho hb hOm)
    refine hK _ _ hmT ?_
    clear hK K
    refine anyH_takeG 7 (v := .slice p9 n c9) rfl (by kernel_rfl) (by kernel_rfl) (by kernel_rfl) rfl (fun W _ => by go_simp) hmT ?_
    go_simp
    refine anyH_takeG 8 (v := .int .i64 0) rfl (by kernel_rfl) (by kernel_rfl) (by kernel_rfl) rfl (fun W _ => by go_simp) hmT ?_
    go_simp
    refine wpAnyH_done (by kernel_rfl) ?_ _
    simp only [endsIn]
    go_wp2_with fail
    refine bodyPost_ret (results_tmp2 Tryd.results12 _ _ _) rfl ?_
    exact ⟨_, rfl, by rw [HCE.out ()]; exact HOM.out, hmT.below⟩
  · refine anyH_op 7 rfl rfl ?_
    intro K hK
    refine wpl_alloc _ zero_tag hm ?_
    clear hm
    intro wa g11 hm
    refine wpList_nil ?_
    refine hK _ _ hm.tail ?_
    clear hK K
    refine wpAnyH_all (rs := [6]) (by kernel_rfl) (by simp) ?_
    intro i hi
    simp only [List.mem_cons, List.not_mem_nil, or_false] at hi
    subst hi
    refine anyH_op 6 rfl rfl ?_
    intro K hK
    go_wp2_with (go_at_call 17; refine (tagRef_any ks ns ds T _ _ HKL.out HNL.out HKB.out HNB.out HDB.out HTB.out hal (by rw [HTL.out]; exact hnl2) _ (SlOld.mem HA.out hm) (HTS.out _ (Seg.mem HSG.out hm (by simp)))).mono ?_; rintro e wt ⟨he, hb⟩; rw [HGG.out ()] at he; subst he; replace hm := hm.call hb; clear hb)
    refine hK _ _ hm.tail ?_
    clear hK K
    refine wpAnyH_all (rs := [8]) (by kernel_rfl) (by simp) ?_
    intro i hi
    simp only [List.mem_cons, List.not_mem_nil, or_false] at hi
    subst hi
    refine anyH_op 8 rfl rfl ?_
    intro K hK
    refine wpl_stw 0 (u8s G) hm rfl rfl rfl 16 sz_tag (by simp [u8s_length]) HGU.out (u8s_one _) ?_
    clear hm
    intro wz hm
    refine wpList_nil ?_
    refine hK _ _ hm.tail ?_
    clear hK K
    refine wpAnyH_done (by kernel_rfl) ?_ _
    simp only [endsIn]
    go_wp2_with fail
    refine wp_ends0 ?_
    refine anyH_start (T := fun W => Mem w [] W [(g11, u8s G, 42), (g5, u8s ns, 30), (g4, u8s ks, 23)]) (by kernel_rfl) hm ?_
    clear hm
    intro w4 hm
    refine anyH_takeG 0 (v := .slice (some ⟨g11, 0, none⟩) 16 16) rfl (by kernel_rfl) (by kernel_rfl) (by kernel_rfl) rfl (fun W _ => by go_simp) hm ?_
    go_simp
    refine anyH_takeG 1 (v := .string (strOf G)) rfl (by kernel_rfl) (by kernel_rfl) (by kernel_rfl) rfl (fun W hW => exec_tostr un_bs un_u8 un_strT _ rfl (old_all (Mem.get hW 0 rfl) HGL.out (Nat.le_refl _))) hm ?_
    go_simp
    refine anyH_takeG 2 (v := .slice (some ⟨b, off, none⟩) (n + 16) cap) rfl (by kernel_rfl) (by kernel_rfl) (by kernel_rfl) rfl (fun W _ => by go_simp) hm ?_
    go_simp
    refine anyH_takeG 3 (v := .int .i64 (n : Int)) rfl (by kernel_rfl) (by kernel_rfl) (by kernel_rfl) rfl (fun W _ => by go_simp) hm ?_
    go_simp
    refine anyH_takeG 4 (v := .slice (some ⟨b, off + n, none⟩) 16 (cap - n)) rfl (by kernel_rfl) (by kernel_rfl) (by kernel_rfl) rfl (fun W _ => exec_loS un_bs sz_u8 n 16 (by omega) (by omega) (by omega) rfl rfl rfl) hm ?_
    go_simp
    refine anyH_takeG 5 (v := .string (strOf D)) rfl (by kernel_rfl) (by kernel_rfl) (by kernel_rfl) rfl (fun W hW => exec_tostr un_bs un_u8 un_strT _ rfl (HDS.out _ (Seg.mem HSG.out hW (by simp)))) hm ?_
    go_simp
    refine anyH_takeG 6 (v := .bool false) rfl (by kernel_rfl) (by kernel_rfl) (by kernel_rfl) rfl (fun W _ => exec_nesV _ _ _ rfl rfl HNE.out) hm ?_
    go_simp
    refine wpAnyH_done (by kernel_rfl) ?_ _
    simp only [endsIn]
    go_wp2_with fail
    refine wp_ends0 ?_
    refine anyH_start (T := fun W => Mem w [] W [(g11, u8s G, 42), (g5, u8s ns, 30), (g4, u8s ks, 23)]) (by kernel_rfl) hm ?_
    clear hm
    intro w6 hm
    refine anyH_takeG 0 (v := .agg (u8s ks).toArray) rfl (by kernel_rfl) (by kernel_rfl) (by kernel_rfl) rfl (fun W hW => exec_ldsG 0 _ (Mem.get hW 2 rfl) rfl _ un_key rfl 32 sz_key (by rw [HKU.out]; omega) (by rw [List.drop_zero, List.take_of_length_le (Nat.le_of_eq HKU.out)])) hm ?_
    go_simp
    refine anyH_takeG 2 (v := .agg (u8s ns).toArray) rfl (by kernel_rfl) (by kernel_rfl) (by kernel_rfl) rfl (fun W hW => exec_ldsG 0 _ (Mem.get hW 1 rfl) rfl _ un_nce rfl 12 sz_nce (by rw [HNU.out]; omega) (by rw [List.drop_zero, List.take_of_length_le (Nat.le_of_eq HNU.out)])) hm ?_
    go_simp
    refine anyH_takeG 3 (v := .slice (some ⟨b, off, none⟩) (n + 16) cap) rfl (by kernel_rfl) (by kernel_rfl) (by kernel_rfl) rfl (fun W _ => by go_simp) hm ?_
    go_simp
    refine anyH_takeG 4 (v := .int .i64 (n : Int)) rfl (by kernel_rfl) (by kernel_rfl) (by kernel_rfl) rfl (fun W _ => by go_simp) hm ?_
    go_simp
    refine anyH_takeG 5 (v := .slice (some ⟨b, off, none⟩) n cap) rfl (by kernel_rfl) (by kernel_rfl) (by kernel_rfl) rfl (fun W _ => exec_hiS un_bs sz_u8 n (by omega) rfl rfl rfl) hm ?_
    go_simp
    refine wpAnyH_all (rs := [1]) (by kernel_rfl) (by simp) ?_
    intro i hi
    simp only [List.mem_cons, List.not_mem_nil, or_false] at hi
    subst hi
    refine anyH_op 1 rfl rfl ?_
    intro K hK
    go_wp2_with (go_at_call 26; refine (deriveRef_any ks _ 0 HKL.out HKB.out (by decide) (by omega) _).mono ?_; rintro e wd ⟨he, hb⟩; rw [HEE.out ()] at he; subst he; replace hm := hm.call hb; clear hb)
    refine hK _ _ hm ?_
    clear hK K
    refine wpAnyH_all (rs := [6]) (by kernel_rfl) (by simp) ?_
    intro i hi
    simp only [List.mem_cons, List.not_mem_nil, or_false] at hi
    subst hi
    refine anyH_op 6 rfl rfl ?_
    intro K hK
    go_wp2_with (go_at_call 25; refine (xorRef4_own E ns T 1 _ HEL.out HNL.out HEB.out HNB.out ⟨by omega, by omega⟩ (by rw [HTL.out]; omega) _ (HTS.out _ (Seg.mem HSG.out hm (by simp)))).mono ?_; rintro e w7 ⟨v9, he, ho, hb⟩; subst he; rw [HCC.out ()] at ho; have hmT := hm.call hb; have hOm := OwnB.mono ho hm.size; obtain ⟨rs, hm2, hso⟩ := Mem.callOwn hm hb ho; obtain ⟨p9, c9, hv9, _⟩ := OwnB.old ho; rw [HCL.out] at hv9; subst hv9; have HSO : Hid (∀ W, Mem w [] W rs → SlOld W (.slice p9 n c9) C) := hso; have HOM : Hid (OwnB 5 w7 w.heap.size (.slice p9 n c9) C) := hOm; clear hso ho hb hOm)
    refine hK _ _ hmT ?_
    clear hK K
    refine anyH_takeG 7 (v := .slice p9 n c9) rfl (by kernel_rfl) (by kernel_rfl) (by kernel_rfl) rfl (fun W _ => by go_simp) hmT ?_
    go_simp
    refine anyH_takeG 8 (v := .int .i64 0) rfl (by kernel_rfl) (by kernel_rfl) (by kernel_rfl) rfl (fun W _ => by go_simp) hmT ?_
    go_simp
    refine wpAnyH_done (by kernel_rfl) ?_ _
    simp only [endsIn]
    go_wp2_with fail
    refine bodyPost_ret (results_tmp2 Tryd.results12 _ _ _) rfl ?_
    exact ⟨_, rfl, by rw [HCE.out ()]; exact HOM.out, hmT.below⟩
set_option maxHeartbeats 2000000 in
set_option maxRecDepth 100000 in
theorem openRef_bad (ks ns ds bs : List Int) (va : Value) (b off cap n : Nat) (hn : bs.length = n + 16) (hcap : n + 16 ≤ cap) (hf : bs.drop n ≠ tagOf ks ns ds (bs.take n)) (hkl : ks.length = 32) (hnl : ns.length = 12) (hkb : Bytes ks) (hnb : Bytes ns) (hdb : Bytes ds) (hbb : Bytes bs) (hal : ds.length ≤ 20000) (hbl : bs.length ≤ 20000) (w : World) (hva : SlOld w va ds) (hs : Seg w b off bs) :
    Calls Tryd.prog 12 #[.agg (u8s ks).toArray, .agg (u8s ns).toArray, va, .slice (some ⟨b, off, none⟩) (n + 16) cap] w fun e w' => e = .returned (.tuple #[.slice none 0 0, .int .i64 50]) ∧ Below w.heap.size w w' := by
  obtain ⟨pa, ca, rfl, _⟩ := hva.len
  have hm := Mem.start w
  have HKL : Hid _ := hkl
  have HNL : Hid _ := hnl
  have HKB : Hid _ := hkb
  have HNB : Hid _ := hnb
  have HKU : Hid ((u8s ks).length = 32) := by show _ = _; rw [u8s_length]; exact hkl
  have HNU : Hid ((u8s ns).length = 12) := by show _ = _; rw [u8s_length]; exact hnl
  have HDB : Hid _ := hdb
  have HA : Hid (SlOld w (.slice pa ds.length ca) ds) := hva
  have HSG : Hid (Seg w b off bs) := hs
  obtain ⟨T, hT⟩ : ∃ T, T = bs.take n := ⟨_, rfl⟩
  have HTL : Hid (T.length = n) := by show _ = _; rw [hT, List.length_take]; omega
  have HTB : Hid (Bytes T) := by rw [hT]; exact hbb.take _
  have HTS : Hid (∀ W, Seg W b off bs → SlOld W (.slice (some ⟨b, off, none⟩) n cap) T) := fun W h => by
    rw [hT]
    exact old_segT h n (by omega) (by omega)
  obtain ⟨D, hD⟩ : ∃ D, D = bs.drop n := ⟨_, rfl⟩
  have HDS : Hid (∀ W, Seg W b off bs → SlOld W (.slice (some ⟨b, off + n, none⟩) 16 (cap - n)) D) := fun W h => by
    rw [hD]
    exact old_segD h n 16 hn (by omega)
  obtain ⟨G, hG⟩ : ∃ G, G = tagOf ks ns ds T := ⟨_, rfl⟩
  have HGG : Hid (∀ _ : Unit, tagOf ks ns ds T = G) := fun _ => hG.symm
  have HGL : Hid (G.length = 16) := by show _ = _; rw [hG, tagOf_length]
  have HGU : Hid ((u8s G).length = 16) := by show _ = _; rw [u8s_length]; exact HGL.out
  have HNE : Hid ((!(strOf G == strOf D)) = true) := by
    show _ = _
    rw [← hT, ← hD, ← hG] at hf
    rw [strOf_eq (by rw [hG]; exact tagOf_bytes _ _ _ _) (by rw [hD]; exact hbb.drop _)]
    rw [decide_eq_false (Ne.symm hf)]; rfl
  have hnl2 : n ≤ 20000 := by omega
  have hni : ¬ (n : Int) < 0 := by omega
  clear hkl hnl hkb hnb hdb hbb hva hs hT hD hG hf hn hbl
  go_enter Tryd.func12, Tryd.ntmps12
  go_wp2_with (first
    | ((with_reducible refine at_op (some 4) (.box 23 (.tmp 0)) ?_); refine wpl_box (u8s ks) rfl hm ?_; clear hm; intro w1 g4 hm)
    | ((with_reducible refine at_op (some 5) (.box 30 (.tmp 1)) ?_); refine wpl_box (u8s ns) rfl hm ?_; clear hm; intro w2 g5 hm))
  refine wp_ends0 ?_
  refine anyH_start (T := fun W => Mem w [] W [(g5, u8s ns, 30), (g4, u8s ks, 23)]) (by kernel_rfl) hm ?_
  clear hm
  intro w3 hm
  refine anyH_takeG 0 (v := .agg (u8s ks).toArray) rfl (by kernel_rfl) (by kernel_rfl) (by kernel_rfl) rfl (fun W hW => exec_ldsG 0 _ (Mem.get hW 1 rfl) rfl _ un_key rfl 32 sz_key (by rw [HKU.out]; omega) (by rw [List.drop_zero, List.take_of_length_le (Nat.le_of_eq HKU.out)])) hm ?_
  go_simp
  refine anyH_takeG 1 (v := .agg (u8s ns).toArray) rfl (by kernel_rfl) (by kernel_rfl) (by kernel_rfl) rfl (fun W hW => exec_ldsG 0 _ (Mem.get hW 0 rfl) rfl _ un_nce rfl 12 sz_nce (by rw [HNU.out]; omega) (by rw [List.drop_zero, List.take_of_length_le (Nat.le_of_eq HNU.out)])) hm ?_
  go_simp
  refine anyH_takeG 2 (v := .slice pa ds.length ca) rfl (by kernel_rfl) (by kernel_rfl) (by kernel_rfl) rfl (fun W _ => by go_simp) hm ?_
  go_simp
  refine anyH_takeG 3 (v := .slice (some ⟨b, off, none⟩) (n + 16) cap) rfl (by kernel_rfl) (by kernel_rfl) (by kernel_rfl) rfl (fun W _ => by go_simp) hm ?_
  go_simp
  refine anyH_takeG 4 (v := .int .i64 (n : Int)) rfl (by kernel_rfl) (by kernel_rfl) (by kernel_rfl) rfl (fun W _ => by go_simp) hm ?_
  go_simp
  refine anyH_takeG 5 (v := .slice (some ⟨b, off, none⟩) n cap) rfl (by kernel_rfl) (by kernel_rfl) (by kernel_rfl) rfl (fun W _ => exec_hiS un_bs sz_u8 n (by omega) rfl rfl rfl) hm ?_
  go_simp
  refine wpAnyH_all (rs := [6, 7]) (by kernel_rfl) (by simp) ?_
  intro i hi
  simp only [List.mem_cons, List.not_mem_nil, or_false] at hi
  rcases hi with rfl | rfl
  · refine anyH_op 6 rfl rfl ?_
    intro K hK
    go_wp2_with (go_at_call 17; refine (tagRef_any ks ns ds T _ _ HKL.out HNL.out HKB.out HNB.out HDB.out HTB.out hal (by rw [HTL.out]; exact hnl2) _ (SlOld.mem HA.out hm) (HTS.out _ (Seg.mem HSG.out hm (by simp)))).mono ?_; rintro e wt ⟨he, hb⟩; rw [HGG.out ()] at he; subst he; replace hm := hm.call hb; clear hb)
    refine hK _ _ hm ?_
    clear hK K
    refine wpAnyH_all (rs := [7]) (by kernel_rfl) (by simp) ?_
    intro i hi
    simp only [List.mem_cons, List.not_mem_nil, or_false] at hi
    subst hi
    refine anyH_op 7 rfl rfl ?_
    intro K hK
    refine wpl_alloc _ zero_tag hm ?_
    clear hm
    intro wa g11 hm
    refine wpList_nil ?_
    refine hK _ _ hm.tail ?_
    clear hK K
    refine wpAnyH_all (rs := [8]) (by kernel_rfl) (by simp) ?_
    intro i hi
    simp only [List.mem_cons, List.not_mem_nil, or_false] at hi
    subst hi
    refine anyH_op 8 rfl rfl ?_
    intro K hK
    refine wpl_stw 0 (u8s G) hm rfl rfl rfl 16 sz_tag (by simp [u8s_length]) HGU.out (u8s_one _) ?_
    clear hm
    intro wz hm
    refine wpList_nil ?_
    refine hK _ _ hm.tail ?_
    clear hK K
    refine wpAnyH_done (by kernel_rfl) ?_ _
    simp only [endsIn]
    go_wp2_with fail
    refine wp_ends0 ?_
    refine anyH_start (T := fun W => Mem w [] W [(g11, u8s G, 42), (g5, u8s ns, 30), (g4, u8s ks, 23)]) (by kernel_rfl) hm ?_
    clear hm
    intro w4 hm
    refine anyH_takeG 0 (v := .slice (some ⟨g11, 0, none⟩) 16 16) rfl (by kernel_rfl) (by kernel_rfl) (by kernel_rfl) rfl (fun W _ => by go_simp) hm ?_
    go_simp
    refine anyH_takeG 1 (v := .string (strOf G)) rfl (by kernel_rfl) (by kernel_rfl) (by kernel_rfl) rfl (fun W hW => exec_tostr un_bs un_u8 un_strT _ rfl (old_all (Mem.get hW 0 rfl) HGL.out (Nat.le_refl _))) hm ?_
    go_simp
    refine anyH_takeG 2 (v := .slice (some ⟨b, off, none⟩) (n + 16) cap) rfl (by kernel_rfl) (by kernel_rfl) (by kernel_rfl) rfl (fun W _ => by go_simp) hm ?_
    go_simp
    refine anyH_takeG 3 (v := .int .i64 (n : Int)) rfl (by kernel_rfl) (by kernel_rfl) (by kernel_rfl) rfl (fun W _ => by go_simp) hm ?_
    go_simp
    refine anyH_takeG 4 (v := .slice (some ⟨b, off + n, none⟩) 16 (cap - n)) rfl (by kernel_rfl) (by kernel_rfl) (by kernel_rfl) rfl (fun W _ => exec_loS un_bs sz_u8 n 16 (by omega) (by omega) (by omega) rfl rfl rfl) hm ?_
    go_simp
    refine anyH_takeG 5 (v := .string (strOf D)) rfl (by kernel_rfl) (by kernel_rfl) (by kernel_rfl) rfl (fun W hW => exec_tostr un_bs un_u8 un_strT _ rfl (HDS.out _ (Seg.mem HSG.out hW (by simp)))) hm ?_
    go_simp
    refine anyH_takeG 6 (v := .bool true) rfl (by kernel_rfl) (by kernel_rfl) (by kernel_rfl) rfl (fun W _ => exec_nesV _ _ _ rfl rfl HNE.out) hm ?_
    go_simp
    refine wpAnyH_done (by kernel_rfl) ?_ _
    simp only [endsIn]
    go_wp2_with fail
    refine bodyPost_ret (results_tmp2 Tryd.results12 _ _ _) rfl ?_
    exact ⟨rfl, hm.below⟩
  · refine anyH_op 7 rfl rfl ?_
    intro K hK
    refine wpl_alloc _ zero_tag hm ?_
    clear hm
    intro wa g11 hm
    refine wpList_nil ?_
    refine hK _ _ hm.tail ?_
    clear hK K
    refine wpAnyH_all (rs := [6]) (by kernel_rfl) (by simp) ?_
    intro i hi
    simp only [List.mem_cons, List.not_mem_nil, or_false] at hi
    subst hi
    refine anyH_op 6 rfl rfl ?_
    intro K hK
    go_wp2_with (go_at_call 17; refine (tagRef_any ks ns ds T _ _ HKL.out HNL.out HKB.out HNB.out HDB.out HTB.out hal (by rw [HTL.out]; exact hnl2) _ (SlOld.mem HA.out hm) (HTS.out _ (Seg.mem HSG.out hm (by simp)))).mono ?_; rintro e wt ⟨he, hb⟩; rw [HGG.out ()] at he; subst he; replace hm := hm.call hb; clear hb)
    refine hK _ _ hm.tail ?_
    clear hK K
    refine wpAnyH_all (rs := [8]) (by kernel_rfl) (by simp) ?_
    intro i hi
    simp only [List.mem_cons, List.not_mem_nil, or_false] at hi
    subst hi
    refine anyH_op 8 rfl rfl ?_
    intro K hK
    refine wpl_stw 0 (u8s G) hm rfl rfl rfl 16 sz_tag (by simp [u8s_length]) HGU.out (u8s_one _) ?_
    clear hm
    intro wz hm
    refine wpList_nil ?_
    refine hK _ _ hm.tail ?_
    clear hK K
    refine wpAnyH_done (by kernel_rfl) ?_ _
    simp only [endsIn]
    go_wp2_with fail
    refine wp_ends0 ?_
    refine anyH_start (T := fun W => Mem w [] W [(g11, u8s G, 42), (g5, u8s ns, 30), (g4, u8s ks, 23)]) (by kernel_rfl) hm ?_
    clear hm
    intro w4 hm
    refine anyH_takeG 0 (v := .slice (some ⟨g11, 0, none⟩) 16 16) rfl (by kernel_rfl) (by kernel_rfl) (by kernel_rfl) rfl (fun W _ => by go_simp) hm ?_
    go_simp
    refine anyH_takeG 1 (v := .string (strOf G)) rfl (by kernel_rfl) (by kernel_rfl) (by kernel_rfl) rfl (fun W hW => exec_tostr un_bs un_u8 un_strT _ rfl (old_all (Mem.get hW 0 rfl) HGL.out (Nat.le_refl _))) hm ?_
    go_simp
    refine anyH_takeG 2 (v := .slice (some ⟨b, off, none⟩) (n + 16) cap) rfl (by kernel_rfl) (by kernel_rfl) (by kernel_rfl) rfl (fun W _ => by go_simp) hm ?_
    go_simp
    refine anyH_takeG 3 (v := .int .i64 (n : Int)) rfl (by kernel_rfl) (by kernel_rfl) (by kernel_rfl) rfl (fun W _ => by go_simp) hm ?_
    go_simp
    refine anyH_takeG 4 (v := .slice (some ⟨b, off + n, none⟩) 16 (cap - n)) rfl (by kernel_rfl) (by kernel_rfl) (by kernel_rfl) rfl (fun W _ => exec_loS un_bs sz_u8 n 16 (by omega) (by omega) (by omega) rfl rfl rfl) hm ?_
    go_simp
    refine anyH_takeG 5 (v := .string (strOf D)) rfl (by kernel_rfl) (by kernel_rfl) (by kernel_rfl) rfl (fun W hW => exec_tostr un_bs un_u8 un_strT _ rfl (HDS.out _ (Seg.mem HSG.out hW (by simp)))) hm ?_
    go_simp
    refine anyH_takeG 6 (v := .bool true) rfl (by kernel_rfl) (by kernel_rfl) (by kernel_rfl) rfl (fun W _ => exec_nesV _ _ _ rfl rfl HNE.out) hm ?_
    go_simp
    refine wpAnyH_done (by kernel_rfl) ?_ _
    simp only [endsIn]
    go_wp2_with fail
    refine bodyPost_ret (results_tmp2 Tryd.results12 _ _ _) rfl ?_
    exact ⟨rfl, hm.below⟩
set_option maxHeartbeats 1000000 in
set_option maxRecDepth 100000 in
theorem openRef_short (ks ns bs : List Int) (va vb : Value) (hbl : bs.length < 16) (w : World) (hvb : SlOld w vb bs) :
    Calls Tryd.prog 12 #[.agg (u8s ks).toArray, .agg (u8s ns).toArray, va, vb] w fun e w' => e = .returned (.tuple #[.slice none 0 0, .int .i64 10]) ∧ Below w.heap.size w w' := by
  obtain ⟨pb, cb, rfl, _⟩ := hvb.len
  have hm := Mem.start w
  have hi : (bs.length : Int) - 16 < 0 := by omega
  clear hvb
  go_enter Tryd.func12, Tryd.ntmps12
  go_wp2_with (first
    | ((with_reducible refine at_op (some 4) (.box 23 (.tmp 0)) ?_); refine wpl_box (u8s ks) rfl hm ?_; clear hm; intro w1 g4 hm)
    | ((with_reducible refine at_op (some 5) (.box 30 (.tmp 1)) ?_); refine wpl_box (u8s ns) rfl hm ?_; clear hm; intro w2 g5 hm))
  refine bodyPost_ret (results_tmp2 Tryd.results12 _ _ _) rfl ?_
  exact ⟨rfl, hm.below⟩
set_option maxRecDepth 100000 in
theorem openRef_any (ks ns ds bs : List Int) (va vb : Value) (hkl : ks.length = 32) (hnl : ns.length = 12) (hkb : Bytes ks) (hnb : Bytes ns) (hdb : Bytes ds) (hbb : Bytes bs) (hal : ds.length ≤ 20000) (hbl : bs.length ≤ 20000) (w : World) (hva : SlOld w va ds) (hvb : SlOld w vb bs) :
    Calls Tryd.prog 12 #[.agg (u8s ks).toArray, .agg (u8s ns).toArray, va, vb] w fun e w' => ∃ v', e = .returned (.tuple #[v', .int .i64 (openCode ks ns ds bs)]) ∧ OwnB 5 w' w.heap.size v' (openOf ks ns ds bs) ∧ Below w.heap.size w w' := by
  by_cases h16 : bs.length < 16
  · refine (openRef_short ks ns bs va vb h16 w hvb).mono ?_
    rintro e w' ⟨he, hb⟩
    refine ⟨.slice none 0 0, ?_, ?_, hb⟩
    · rw [he, openCode, if_pos h16]
    · rw [openOf, if_pos h16]
      exact OwnB.nil _ _ _
  · obtain ⟨n, hn⟩ : ∃ n, bs.length = n + 16 := ⟨bs.length - 16, by omega⟩
    obtain ⟨b, off, cap, rfl, hcap, hseg⟩ := hvb.some (by omega)
    have hd : bs.length - 16 = n := by omega
    by_cases hf : bs.drop n = tagOf ks ns ds (bs.take n)
    · have hfit : fits ks ns ds bs = true := by unfold fits; rw [hd]; exact decide_eq_true hf
      rw [hn] at hcap ⊢
      refine (openRef_good ks ns ds bs va b off cap n hn hcap hf hkl hnl hkb hnb hdb hbb hal hbl w hva hseg).mono ?_
      rintro e w' ⟨v', he, ho, hb⟩
      refine ⟨v', ?_, ?_, hb⟩
      · rw [he, openCode, if_neg h16, if_pos hfit]
      · rw [openOf, if_neg h16, if_pos hfit, hd]
        exact ho
    · have hfit : fits ks ns ds bs = false := by unfold fits; rw [hd]; exact decide_eq_false hf
      rw [hn] at hcap ⊢
      refine (openRef_bad ks ns ds bs va b off cap n hn hcap hf hkl hnl hkb hnb hdb hbb hal hbl w hva hseg).mono ?_
      rintro e w' ⟨he, hb⟩
      refine ⟨.slice none 0 0, ?_, ?_, hb⟩
      · rw [he, openCode, if_neg h16, hfit]
        rfl
      · rw [openOf, if_neg h16, hfit]
        exact OwnB.nil _ _ _
set_option maxRecDepth 100000 in
theorem open_own (ks ns ds bs : List Int) (va : Value) (vb : Value) (hkl : ks.length = 32) (hnl : ns.length = 12) (hkb : Bytes ks) (hnb : Bytes ns) (hdb : Bytes ds) (hbb : Bytes bs) (hal : ds.length ≤ 20000) (hbl : bs.length ≤ 20000) (w : World) (ht : Tab w) (hq : QTab w) (hva : SlOld w va ds) (hvb : SlOld w vb bs) :
    Calls Tryd.prog 11 #[.agg (u8s ks).toArray, .agg (u8s ns).toArray, va, vb] w fun e w' => ∃ v', e = .returned (.tuple #[v', .int .i64 (openCode ks ns ds bs)]) ∧ OwnB 5 w' w.heap.size v' (openOf ks ns ds bs) ∧ Below w.heap.size w w' := by
  by_cases h16 : bs.length < 16
  · refine (open_short ks ns bs va vb h16 w hvb).mono ?_
    rintro e w' ⟨he, hb⟩
    refine ⟨.slice none 0 0, ?_, ?_, hb⟩
    · rw [he, openCode, if_pos h16]
    · rw [openOf, if_pos h16]
      exact OwnB.nil _ _ _
  · obtain ⟨n, hn⟩ : ∃ n, bs.length = n + 16 := ⟨bs.length - 16, by omega⟩
    obtain ⟨b, off, cap, rfl, hcap, hseg⟩ := hvb.some (by omega)
    have hd : bs.length - 16 = n := by omega
    by_cases hf : bs.drop n = tagOf ks ns ds (bs.take n)
    · have hfit : fits ks ns ds bs = true := by unfold fits; rw [hd]; exact decide_eq_true hf
      rw [hn] at hcap ⊢
      refine (open_good ks ns ds bs va b off cap n hn hcap hf hkl hnl hkb hnb hdb hbb hal hbl w ht hq hva hseg).mono ?_
      rintro e w' ⟨g, he, hge, hr, hb⟩
      have hl : (encOf ks ns (bs.take n)).length = n := by rw [encOf_length, List.length_take]; omega
      have ho := own_row hr hge (by omega)
      rw [hl] at ho
      refine ⟨.slice (some ⟨g, 0, none⟩) n n, ?_, ?_, hb⟩
      · rw [he, openCode, if_neg h16, if_pos hfit]
      · rw [openOf, if_neg h16, if_pos hfit, hd]
        exact ho
    · have hfit : fits ks ns ds bs = false := by unfold fits; rw [hd]; exact decide_eq_false hf
      rw [hn] at hcap ⊢
      refine (open_bad ks ns ds bs va b off cap n hn hcap hf hkl hnl hkb hnb hdb hbb hal hbl w ht hq hva hseg).mono ?_
      rintro e w' ⟨he, hb⟩
      refine ⟨.slice none 0 0, ?_, ?_, hb⟩
      · rw [he, openCode, if_neg h16, hfit]
        rfl
      · rw [openOf, if_neg h16, hfit]
        exact OwnB.nil _ _ _
end Go.Proofs.YtbfccepddfinoaaDoor
