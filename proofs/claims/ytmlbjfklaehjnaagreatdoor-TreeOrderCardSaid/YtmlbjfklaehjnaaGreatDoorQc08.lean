import Derived.Test.YtmlbjfklaehjnaaGreatDoorQc07
set_option maxRecDepth 100000
set_option maxHeartbeats 4000000
namespace Go.Proofs.YtmlbjfklaehjnaaGreatDoor
open Go Go.RowKit
theorem mz (ks ns ms:List Int) (v:Value) (hkl:ks.length=32) (hnl:ns.length=12) (hkb:Bytes ks) (hnb:Bytes ns) (hml:ms.length≤60000) (w:World) (ht:Tab w) (hq:QTab w) (hv:SlOld w v ms) :
  Calls Tryz.prog 170 #[.agg (u8s ks).toArray,.agg (u8s ns).toArray,v] w fun e w'=>∃g,e=.returned (.slice (some ⟨g,0,none⟩) ms.length ms.length)∧w.heap.size≤g∧Row w' g (u8s (encOf ks ns ms)) 5∧Below w.heap.size w w':=by
 obtain ⟨p,cap,rfl,hcap⟩:=hv.len
 have hm:=Mem.start w
 have HT:Hid _:=ht
 have HKL:Hid _:=hkl
 have HNL:Hid _:=hnl
 have HKB:Hid _:=hkb
 have HNB:Hid _:=hnb
 have HKU:Hid ((u8s ks).length=32):=by show _=_;rw [ab];exact hkl
 have HNU:Hid ((u8s ns).length=12):=by show _=_;rw [ab];exact hnl
 have HQ:Hid _:=hq
 have HV:Hid (SlOld w (.slice p ms.length cap) ms):=hv
 obtain ⟨E,hE⟩:∃E,E=encKey ks:=⟨_,rfl⟩
 have HEE:Hid (∀_:Unit,deriveOf ks (strB {data:=#[101,110,99]}) 0=E):=fun _=>hE.symm
 have HEL:Hid (E.length=32):=by show _=_;rw [hE,encKey,bP]
 have HEB:Hid (Bytes E):=by rw [hE];exact iB _ _ _
 have HXE:Hid (∀_:Unit,xorOf E ns 1 ms=encOf ks ns ms):=fun _=>by rw [hE];rfl
 clear ht hq hkl hnl hkb hnb hv hE
 go_enter Tryz.func170,Tryz.ntmps170
 go_wp2_with (first
  | ((with_reducible refine aa (some 3) (.box 72 (.tmp 0)) ?_);refine ak (u8s ks) rfl hm ?_;clear hm;intro w1 g3 hm)
  | ((with_reducible refine aa (some 4) (.box 210 (.tmp 1)) ?_);refine ak (u8s ns) rfl hm ?_;clear hm;intro w2 g4 hm))
 refine au ?_
 refine ap (T:=fun W=>Mem w [] W [(g4,u8s ns,210),(g3,u8s ks,72)]) (by kernel_rfl) hm ?_
 clear hm
 intro w3 hm
 refine aG 0 (v:=.agg (u8s ks).toArray) rfl (by kernel_rfl) rfl (fun W hW=>ao 0 _ (Mem.get hW 1 rfl) rfl _ a0 rfl 32 a9 (by rw [HKU.out];omega) (by rw [List.drop_zero,List.take_of_length_le (Nat.le_of_eq HKU.out)])) hm ?_
 go_simp
 refine aG 2 (v:=.agg (u8s ns).toArray) rfl (by kernel_rfl) rfl (fun W hW=>ao 0 _ (Mem.get hW 0 rfl) rfl _ bx rfl 12 bD (by rw [HNU.out];omega) (by rw [List.drop_zero,List.take_of_length_le (Nat.le_of_eq HNU.out)])) hm ?_
 go_simp
 refine aG 3 (v:=.slice p ms.length cap) rfl (by kernel_rfl) rfl (fun W _=>by go_simp) hm ?_
 go_simp
 refine aP 1 (by kernel_rfl) rfl rfl ?_
 intro K hK
 go_wp2_with (go_at_call 72;refine (eR ks _ 0 HKL.out HKB.out (by decide) (by omega) _ (Tab.mem HT.out hm (by simp))).mono ?_;rintro e w4 ⟨he,hb⟩;rw [HEE.out ()] at he;subst he;replace hm:=hm.call hb;clear hb)
 refine hK _ _ hm ?_
 clear hK K
 refine aP 4 (by kernel_rfl) rfl rfl ?_
 intro K hK
 go_wp2_with (go_at_call 195;refine (xor_any E ns ms 1 _ HEL.out HNL.out HEB.out HNB.out ⟨by omega,by omega⟩ hml _ (QTab.mem HQ.out hm (by simp)) (SlOld.mem HV.out hm)).mono ?_;rintro e w5 ⟨g,he,hge,hr,hb⟩;subst he;rw [HXE.out ()] at hr;replace hm:=hm.callNew hb hr hge;clear hb hr hge)
 refine hK _ _ hm.tail ?_
 clear hK K
 refine aG 5 (v:=.slice (some ⟨g,0,none⟩) ms.length ms.length) rfl (by kernel_rfl) rfl (fun W _=>by go_simp) hm.tail ?_
 go_simp
 refine wpAnyH_done (by kernel_rfl) ?_ _
 simp only [endsIn]
 go_wp2_with fail
 go_ret
 have hf:=hm.fresh _ (List.mem_cons_self ..)
 exact ⟨g,rfl,by simpa using hf,hm.get 0 rfl,hm.below⟩
theorem kQ (ns ds cs:List Int) (va vc:Value) (hnl:ns.length=12) (hal:ds.length≤20000) (hcl:cs.length≤20000) (w:World) (hva:SlOld w va ds) (hvc:SlOld w vc cs) :
  Calls Tryz.prog 196 #[.agg (u8s ns).toArray,va,vc] w fun e w'=>∃v',e=.returned v'∧SlOld w' v' (msgOf ns ds cs)∧Below w.heap.size w w':=by
 obtain ⟨pa,ca,rfl,_⟩:=hva.len
 obtain ⟨pc,cc,rfl,_⟩:=hvc.len
 have hm:=Mem.start w
 have HNL:Hid _:=hnl
 have HA:Hid (SlOld w (.slice pa ds.length ca) ds):=hva
 have HC:Hid (SlOld w (.slice pc cs.length cc) cs):=hvc
 have HWR:Hid (IntKind.u64.wrap (ds.length:Int)=(ds.length:Int)):=iL _ (by omega) (by omega)
 have hty:∀(g:Nat),∀r∈[(g,u8s ns,(210:TypeId))],r.2.2≠5:=by
  intro g r hr
  simp only [List.mem_cons,List.not_mem_nil,or_false] at hr
  subst hr
  simp
 have HTY:Hid _:=hty
 clear hva hvc hnl hty
 go_enter Tryz.func196,Tryz.ntmps196
 go_wp2_with (first
  | ((with_reducible refine aa (some 3) (.box 210 (.tmp 0)) ?_);refine ak (u8s ns) rfl hm ?_;clear hm;intro w1 g3 hm)
  | ((with_reducible refine aa (some 15) (.makeSlice 54 (.const (.int .i64 0)) (.tmp 14)) ?_);go_must (refine wpl_makeE _ aq _ aU rfl (8+ds.length+12+cs.length) rfl rfl (by first|rfl|omega|go_num) (by omega) hm ?_);clear hm;intro w2 g15 hm;have HO0:Hid (OwnB 5 w2 w.heap.size (.slice (some ⟨g15,0,none⟩) 0 (8+ds.length+12+cs.length)) []):=own_empty (hm.get 0 rfl) (by have hf:=hm.fresh _ (List.mem_cons_self ..);simpa using hf) (by omega);replace hm:=hm.tail)
  | (go_at_call 89;refine (kI _ _).mono ?_;rintro e w3 ⟨g20,rfl,hge,hr,hb⟩;have HO1:Hid (OwnB 5 w3 w.heap.size (.slice (some ⟨g15,0,none⟩) 0 (8+ds.length+12+cs.length)) []):=OwnB.below HO0.out hb;have HR:Hid _:=hr;replace hm:=hm.call hb;clear hge hr hb HO0)
  | ((with_reducible refine aa (some 21) (.call {callee:=.builtin .append,args:=#[.tmp 16,.tmp 20],argTypes:=#[54,54]}) ?_);go_must (refine bO rfl aq aU (be8 (ds.length:Int)) hm HO1.out (HTY.out _) rfl rfl rfl (fun _=>⟨g20,0,rfl,Seg.row HR.out⟩) (by simp [aw]) ?_);clear hm;intro v21 w4 ho hm;have HO2:Hid (OwnB 5 w4 w.heap.size v21 ([]++be8 (ds.length:Int))):=ho;clear ho HO1 HR)
  | ((with_reducible refine aa (some 24) (.call {callee:=.builtin .append,args:=#[.tmp 22,.tmp 23],argTypes:=#[54,54]}) ?_);go_must (refine bO rfl aq aU ds hm HO2.out (HTY.out _) rfl rfl rfl (SlOld.mem HA.out hm).src0.2.2 (by simp [aw];omega) ?_);clear hm;intro v24 w5 ho hm;have HO3:Hid (OwnB 5 w5 w.heap.size v24 ([]++be8 (ds.length:Int)++ds)):=ho;clear ho HO2)
  | ((with_reducible refine aa (some 27) (.call {callee:=.builtin .append,args:=#[.tmp 25,.tmp 26],argTypes:=#[54,54]}) ?_);go_must (refine bO rfl aq aU ns hm HO3.out (HTY.out _) rfl rfl HNL.out.symm (fun _=>⟨g3,0,rfl,Seg.row (hm.get 0 rfl)⟩) (by simp [aw,HNL.out];omega) ?_);clear hm;intro v27 w6 ho hm;have HO4:Hid (OwnB 5 w6 w.heap.size v27 ([]++be8 (ds.length:Int)++ds++ns)):=ho;clear ho HO3)
  | ((with_reducible refine aa (some 30) (.call {callee:=.builtin .append,args:=#[.tmp 28,.tmp 29],argTypes:=#[54,54]}) ?_);go_must (refine bO rfl aq aU cs hm HO4.out (HTY.out _) rfl rfl rfl (SlOld.mem HC.out hm).src0.2.2 (by simp [aw,HNL.out];omega) ?_);clear hm;intro v30 w7 ho hm;have HO5:Hid (OwnB 5 w7 w.heap.size v30 ([]++be8 (ds.length:Int)++ds++ns++cs)):=ho;clear ho HO4))
 go_ret
 exact ⟨v30,rfl,OwnB.old HO5.out,hm.below⟩
theorem tag_any (ks ns ds cs:List Int) (va vc:Value) (hkl:ks.length=32) (hnl:ns.length=12) (hkb:Bytes ks) (hnb:Bytes ns) (hdb:Bytes ds) (hcb:Bytes cs) (hal:ds.length≤20000) (hcl:cs.length≤20000) (w:World) (ht:Tab w) (hva:SlOld w va ds) (hvc:SlOld w vc cs) :
  Calls Tryz.prog 171 #[.agg (u8s ks).toArray,.agg (u8s ns).toArray,va,vc] w fun e w'=>e=.returned (.agg (u8s (tagOf ks ns ds cs)).toArray)∧Below w.heap.size w w':=by
 obtain ⟨pa,ca,rfl,_⟩:=hva.len
 obtain ⟨pc,cc,rfl,_⟩:=hvc.len
 have hm:=Mem.start w
 have HT:Hid _:=ht
 have HKL:Hid _:=hkl
 have HNL:Hid _:=hnl
 have HKB:Hid _:=hkb
 have HNB:Hid _:=hnb
 have HKU:Hid ((u8s ks).length=32):=by show _=_;rw [ab];exact hkl
 have HNU:Hid ((u8s ns).length=12):=by show _=_;rw [ab];exact hnl
 have HA:Hid (SlOld w (.slice pa ds.length ca) ds):=hva
 have HC:Hid (SlOld w (.slice pc cs.length cc) cs):=hvc
 obtain ⟨E,hE⟩:∃E,E=macKey ks:=⟨_,rfl⟩
 have HEE:Hid (∀_:Unit,deriveOf ks (strB {data:=#[109,97,99]}) 0=E):=fun _=>hE.symm
 have HEL:Hid (E.length=32):=by show _=_;rw [hE,macKey,bP]
 have HEU:Hid ((u8s E).length=32):=by show _=_;rw [ab];exact HEL.out
 have HEB:Hid (Bytes E):=by rw [hE];exact iB _ _ _
 obtain ⟨M,hM⟩:∃M,M=msgOf ns ds cs:=⟨_,rfl⟩
 have HMM:Hid (∀_:Unit,msgOf ns ds cs=M):=fun _=>hM.symm
 have HMB:Hid (Bytes M):=by rw [hM];exact msgOf_bytes hnb hdb hcb
 have HML:Hid (M.length≤500000):=by show _≤_;rw [hM,msgOf_length];omega
 obtain ⟨X,hX⟩:∃X,X=macOf E M:=⟨_,rfl⟩
 have HXX:Hid (∀_:Unit,macOf E M=X):=fun _=>hX.symm
 have HXL:Hid ((u8s X).length=32):=by show _=_;rw [ab,hX,aW]
 obtain ⟨G,hG⟩:∃G,G=tagOf ks ns ds cs:=⟨_,rfl⟩
 have HGG:Hid (∀_:Unit,tagOf ks ns ds cs=G):=fun _=>hG.symm
 have HGL:Hid ((u8s G).length=16):=by show _=_;rw [ab,hG,dE]
 have HXG:Hid (((u8s X).drop 0).take 16=u8s G):=by show _=_;rw [hG,hX,hE,hM,List.drop_zero];simp [tagOf,u8s,List.map_take]
 clear ht hkl hnl hkb hnb hva hvc hE hM hX hG
 go_enter Tryz.func171,Tryz.ntmps171
 go_wp2_with (first
  | ((with_reducible refine aa (some 4) (.box 72 (.tmp 0)) ?_);refine ak (u8s ks) rfl hm ?_;clear hm;intro w1 g4 hm)
  | ((with_reducible refine aa (some 5) (.box 210 (.tmp 1)) ?_);refine ak (u8s ns) rfl hm ?_;clear hm;intro w2 g5 hm)
  | ((with_reducible refine aa (some 8) (.alloc 261) ?_);refine af _ gO hm ?_;clear hm;intro w3 g8 hm)
  | ((with_reducible refine aa (some 11) (.load 72 (.tmp 4)) ?_);refine am 2 hm rfl rfl _ a0 rfl 32 a9 (HKU.out) ?_)
  | (go_at_call 72;refine (eR ks _ 0 HKL.out HKB.out (by decide) (by omega) _ (Tab.mem HT.out hm (by simp))).mono ?_;rintro e w4 ⟨he,hb⟩;rw [HEE.out ()] at he;subst he;replace hm:=hm.call hb;clear hb)
  | ((with_reducible refine aa (some 9) (.alloc 72) ?_);refine af _ mU hm ?_;clear hm;intro w5 g9 hm)
  | ((with_reducible refine aa none (.store 72 (.tmp 9) (.tmp 12)) ?_);refine ag 0 (u8s E) hm rfl rfl rfl 32 a9 (by simp [ab]) (HEU.out) (ar _) ?_;clear hm;intro w6 hm))
 refine au ?_
 refine ap (T:=fun W=>Mem w [] W [(g9,u8s E,72),(g8,u8s (List.replicate 16 0),261),(g5,u8s ns,210),(g4,u8s ks,72)]) (by kernel_rfl) hm ?_
 clear hm
 intro w7 hm
 refine aG 0 (v:=.slice (some ⟨g9,0,none⟩) 32 32) rfl (by kernel_rfl) rfl (fun W _=>by go_simp) hm ?_
 go_simp
 refine aG 1 (v:=.agg (u8s ns).toArray) rfl (by kernel_rfl) rfl (fun W hW=>ao 0 _ (Mem.get hW 2 rfl) rfl _ bx rfl 12 bD (by rw [HNU.out];omega) (by rw [List.drop_zero,List.take_of_length_le (Nat.le_of_eq HNU.out)])) hm ?_
 go_simp
 refine aG 2 (v:=.slice pa ds.length ca) rfl (by kernel_rfl) rfl (fun W _=>by go_simp) hm ?_
 go_simp
 refine aG 3 (v:=.slice pc cs.length cc) rfl (by kernel_rfl) rfl (fun W _=>by go_simp) hm ?_
 go_simp
 refine wpAnyH_all (rs:=[4,6]) (by kernel_rfl) (by simp) ?_
 intro i hi
 simp only [List.mem_cons,List.not_mem_nil,or_false] at hi
 rcases hi with rfl|rfl
 ·refine aJ 4 rfl rfl ?_
  intro K hK
  go_wp2_with (go_at_call 196;refine (kQ ns ds cs _ _ HNL.out hal hcl _ (SlOld.mem HA.out hm) (SlOld.mem HC.out hm)).mono ?_;rintro e wm ⟨vm,he,hs,hb⟩;subst he;rw [HMM.out ()] at hs;have HS:Hid (SlOld wm vm M):=hs;replace hm:=hm.call hb;clear hb hs)
  refine hK _ _ hm ?_
  clear hK K
  refine wpAnyH_all (rs:=[5,6]) (by kernel_rfl) (by simp) ?_
  intro i hi
  simp only [List.mem_cons,List.not_mem_nil,or_false] at hi
  rcases hi with rfl|rfl
  ·refine aJ 5 rfl rfl ?_
   intro K hK
   obtain ⟨pm,cm,hvm,_⟩:=HS.out.len
   subst hvm
   go_wp2_with (go_at_call 169;refine (lu E M _ _ HEB.out HMB.out (by rw [HEL.out];omega) HML.out _ (Tab.mem HT.out hm (by simp)) (aE (hm.get 0 rfl) HEL.out (Nat.le_refl _)) HS.out).mono ?_;rintro e wx ⟨he,hb⟩;rw [HXX.out ()] at he;subst he;replace hm:=hm.call hb;clear hb)
   refine hK _ _ hm ?_
   clear hK K
   refine aP 6 (by kernel_rfl) rfl rfl ?_
   intro K hK
   refine az _ ce hm ?_
   clear hm
   intro wa g10 hb hm
   clear hb
   refine wpList_nil ?_
   refine hK _ _ hm.tail ?_
   clear hK K
   refine aP 7 (by kernel_rfl) rfl rfl ?_
   intro K hK
   refine ag 0 (u8s X) hm rfl rfl rfl 32 b5 (by simp [ab]) HXL.out (ar _) ?_
   clear hm
   intro wz hm
   refine wpList_nil ?_
   refine hK _ _ hm.tail ?_
   clear hK K
   refine wpAnyH_done (by kernel_rfl) ?_ _
   simp only [endsIn]
   go_wp2_with (first
    | ((with_reducible refine aa (some 20) (.sliceToArrayPointer 261 (.tmp 19)) ?_);go_must (refine fV 16 df (by omega) rfl ?_))
    | ((with_reducible refine aa (some 21) (.load 261 (.tmp 20)) ?_);refine dp 0 0 (u8s G) hm rfl rfl _ df rfl 16 cQ (by rw [HXL.out];omega) (HXG.out) ?_)
    | ((with_reducible refine aa none (.store 261 (.tmp 8) (.tmp 21)) ?_);refine ag 2 (u8s G) hm rfl rfl rfl 16 cQ (by simp [ab]) (HGL.out) (ar _) ?_;clear hm;intro wy hm))
   exact ay 2 hm rfl Tryz.results171 rfl _ df rfl 16 cQ HGL.out rfl ⟨by rw [HGG.out ()],hm.below⟩
  ·refine aJ 6 rfl rfl ?_
   intro K hK
   refine az _ ce hm ?_
   clear hm
   intro wa g10 hb hm
   have HS':Hid (SlOld wa vm M):=SlOld.below HS.out hb
   clear HS hb
   have HS:=HS'
   refine wpList_nil ?_
   refine hK _ _ hm.tail ?_
   clear hK K
   refine aP 5 (by kernel_rfl) rfl rfl ?_
   intro K hK
   obtain ⟨pm,cm,hvm,_⟩:=HS.out.len
   subst hvm
   go_wp2_with (go_at_call 169;refine (lu E M _ _ HEB.out HMB.out (by rw [HEL.out];omega) HML.out _ (Tab.mem HT.out hm (by simp)) (aE (hm.get 1 rfl) HEL.out (Nat.le_refl _)) HS.out).mono ?_;rintro e wx ⟨he,hb⟩;rw [HXX.out ()] at he;subst he;replace hm:=hm.call hb;clear hb)
   refine hK _ _ hm.tail ?_
   clear hK K
   refine aP 7 (by kernel_rfl) rfl rfl ?_
   intro K hK
   refine ag 0 (u8s X) hm rfl rfl rfl 32 b5 (by simp [ab]) HXL.out (ar _) ?_
   clear hm
   intro wz hm
   refine wpList_nil ?_
   refine hK _ _ hm.tail ?_
   clear hK K
   refine wpAnyH_done (by kernel_rfl) ?_ _
   simp only [endsIn]
   go_wp2_with (first
    | ((with_reducible refine aa (some 20) (.sliceToArrayPointer 261 (.tmp 19)) ?_);go_must (refine fV 16 df (by omega) rfl ?_))
    | ((with_reducible refine aa (some 21) (.load 261 (.tmp 20)) ?_);refine dp 0 0 (u8s G) hm rfl rfl _ df rfl 16 cQ (by rw [HXL.out];omega) (HXG.out) ?_)
    | ((with_reducible refine aa none (.store 261 (.tmp 8) (.tmp 21)) ?_);refine ag 2 (u8s G) hm rfl rfl rfl 16 cQ (by simp [ab]) (HGL.out) (ar _) ?_;clear hm;intro wy hm))
   exact ay 2 hm rfl Tryz.results171 rfl _ df rfl 16 cQ HGL.out rfl ⟨by rw [HGG.out ()],hm.below⟩
 ·refine aJ 6 rfl rfl ?_
  intro K hK
  refine az _ ce hm ?_
  clear hm
  intro wa g10 hb hm
  clear hb
  refine wpList_nil ?_
  refine hK _ _ hm.tail ?_
  clear hK K
  refine aP 4 (by kernel_rfl) rfl rfl ?_
  intro K hK
  go_wp2_with (go_at_call 196;refine (kQ ns ds cs _ _ HNL.out hal hcl _ (SlOld.mem HA.out hm) (SlOld.mem HC.out hm)).mono ?_;rintro e wm ⟨vm,he,hs,hb⟩;subst he;rw [HMM.out ()] at hs;have HS:Hid (SlOld wm vm M):=hs;replace hm:=hm.call hb;clear hb hs)
  refine hK _ _ hm.tail ?_
  clear hK K
  refine aP 5 (by kernel_rfl) rfl rfl ?_
  intro K hK
  obtain ⟨pm,cm,hvm,_⟩:=HS.out.len
  subst hvm
  go_wp2_with (go_at_call 169;refine (lu E M _ _ HEB.out HMB.out (by rw [HEL.out];omega) HML.out _ (Tab.mem HT.out hm (by simp)) (aE (hm.get 1 rfl) HEL.out (Nat.le_refl _)) HS.out).mono ?_;rintro e wx ⟨he,hb⟩;rw [HXX.out ()] at he;subst he;replace hm:=hm.call hb;clear hb)
  refine hK _ _ hm.tail ?_
  clear hK K
  refine aP 7 (by kernel_rfl) rfl rfl ?_
  intro K hK
  refine ag 0 (u8s X) hm rfl rfl rfl 32 b5 (by simp [ab]) HXL.out (ar _) ?_
  clear hm
  intro wz hm
  refine wpList_nil ?_
  refine hK _ _ hm.tail ?_
  clear hK K
  refine wpAnyH_done (by kernel_rfl) ?_ _
  simp only [endsIn]
  go_wp2_with (first
   | ((with_reducible refine aa (some 20) (.sliceToArrayPointer 261 (.tmp 19)) ?_);go_must (refine fV 16 df (by omega) rfl ?_))
   | ((with_reducible refine aa (some 21) (.load 261 (.tmp 20)) ?_);refine dp 0 0 (u8s G) hm rfl rfl _ df rfl 16 cQ (by rw [HXL.out];omega) (HXG.out) ?_)
   | ((with_reducible refine aa none (.store 261 (.tmp 8) (.tmp 21)) ?_);refine ag 2 (u8s G) hm rfl rfl rfl 16 cQ (by simp [ab]) (HGL.out) (ar _) ?_;clear hm;intro wy hm))
  exact ay 2 hm rfl Tryz.results171 rfl _ df rfl 16 cQ HGL.out rfl ⟨by rw [HGG.out ()],hm.below⟩
theorem eO (ks ns ds ms:List Int) (va vp:Value) (hkl:ks.length=32) (hnl:ns.length=12) (hkb:Bytes ks) (hnb:Bytes ns) (hdb:Bytes ds) (hmb:Bytes ms) (hal:ds.length≤20000) (hml:ms.length≤20000) (w:World) (ht:Tab w) (hq:QTab w) (hva:SlOld w va ds) (hvp:SlOld w vp ms) :
  Calls Tryz.prog 123 #[.agg (u8s ks).toArray,.agg (u8s ns).toArray,va,vp] w fun e w'=>∃g cap l,e=.returned (.slice (some ⟨g,0,none⟩) (ms.length+16) cap)∧ms.length+16≤cap∧w.heap.size≤g∧Row w' g (u8s (sealOf ks ns ds ms)++l) 5∧Below w.heap.size w w':=by
 obtain ⟨pa,ca,rfl,_⟩:=hva.len
 obtain ⟨pp,cp,rfl,_⟩:=hvp.len
 have hm:=Mem.start w
 have HT:Hid _:=ht
 have HKL:Hid _:=hkl
 have HNL:Hid _:=hnl
 have HKB:Hid _:=hkb
 have HNB:Hid _:=hnb
 have HKU:Hid ((u8s ks).length=32):=by show _=_;rw [ab];exact hkl
 have HNU:Hid ((u8s ns).length=12):=by show _=_;rw [ab];exact hnl
 have HQ:Hid _:=hq
 have HDB:Hid _:=hdb
 have HA:Hid (SlOld w (.slice pa ds.length ca) ds):=hva
 have HP:Hid (SlOld w (.slice pp ms.length cp) ms):=hvp
 obtain ⟨C,hC⟩:∃C,C=encOf ks ns ms:=⟨_,rfl⟩
 have HCC:Hid (∀_:Unit,encOf ks ns ms=C):=fun _=>hC.symm
 have HCB:Hid (Bytes C):=by rw [hC];exact e8 _ _ hmb
 have HCL:Hid (C.length=ms.length):=by show _=_;rw [hC,db]
 obtain ⟨G,hG⟩:∃G,G=tagOf ks ns ds C:=⟨_,rfl⟩
 have HGG:Hid (∀_:Unit,tagOf ks ns ds C=G):=fun _=>hG.symm
 have HGL:Hid (G.length=16):=by show _=_;rw [hG,dE]
 have HGU:Hid ((u8s G).length=16):=by show _=_;rw [ab];exact HGL.out
 have HSL:Hid (∀_:Unit,sealOf ks ns ds ms=C++G):=fun _=>by rw [hG,hC];rfl
 have hty:∀(a b c:Nat),∀r∈[(a,u8s G,(261:TypeId)),(b,u8s ns,(210:TypeId)),(c,u8s ks,(72:TypeId))],r.2.2≠5:=by
  intro a b c r hr
  simp only [List.mem_cons,List.not_mem_nil,or_false] at hr
  rcases hr with rfl|rfl|rfl<;>simp
 have HTY:Hid _:=hty
 clear ht hq hkl hnl hkb hnb hdb hmb hva hvp hC hG hty
 go_enter Tryz.func123,Tryz.ntmps123
 go_wp2_with (first
  | ((with_reducible refine aa (some 4) (.box 72 (.tmp 0)) ?_);refine ak (u8s ks) rfl hm ?_;clear hm;intro w1 g4 hm)
  | ((with_reducible refine aa (some 5) (.box 210 (.tmp 1)) ?_);refine ak (u8s ns) rfl hm ?_;clear hm;intro w2 g5 hm)
  | ((with_reducible refine aa (some 11) (.load 72 (.tmp 4)) ?_);refine am 1 hm rfl rfl _ a0 rfl 32 a9 (HKU.out) ?_)
  | ((with_reducible refine aa (some 12) (.load 210 (.tmp 5)) ?_);refine am 0 hm rfl rfl _ bx rfl 12 bD (HNU.out) ?_)
  | (go_at_call 170;refine (mz ks ns ms _ HKL.out HNL.out HKB.out HNB.out (by omega) _ (Tab.mem HT.out hm (by simp)) (QTab.mem HQ.out hm (by simp)) (SlOld.mem HP.out hm)).mono ?_;rintro e w3 ⟨gc,he,hge,hr,hb⟩;subst he;rw [HCC.out ()] at hr;replace hm:=hm.callNew hb hr hge;clear hb hr hge)
  | ((with_reducible refine aa (some 15) (.load 72 (.tmp 4)) ?_);refine am 2 hm rfl rfl _ a0 rfl 32 a9 (HKU.out) ?_)
  | ((with_reducible refine aa (some 16) (.load 210 (.tmp 5)) ?_);refine am 1 hm rfl rfl _ bx rfl 12 bD (HNU.out) ?_)
  | (go_at_call 171;refine (tag_any ks ns ds C _ _ HKL.out HNL.out HKB.out HNB.out HDB.out HCB.out hal (by rw [HCL.out];exact hml) _ (Tab.mem HT.out hm (by simp)) (SlOld.mem HA.out hm) (aE (hm.get 0 rfl) HCL.out (Nat.le_refl _))).mono ?_;rintro e w4 ⟨he,hb⟩;rw [HGG.out ()] at he;subst he;replace hm:=hm.call hb;clear hb)
  | ((with_reducible refine aa (some 10) (.alloc 261) ?_);refine af _ gO hm ?_;clear hm;intro w5 g10 hm)
  | ((with_reducible refine aa none (.store 261 (.tmp 10) (.tmp 19)) ?_);refine ag 0 (u8s G) hm rfl rfl rfl 16 cQ (by simp [ab]) (HGU.out) (ar _) ?_;clear hm;intro w6 hm;have HOW:Hid (OwnB 5 w6 w.heap.size (.slice (some ⟨gc,0,none⟩) ms.length ms.length) C):=(by rw [←HCL.out];exact dG (hm.get 1 rfl) (by have hf:=hm.fresh _ (List.mem_cons_of_mem _ (List.mem_cons_self ..));simpa using hf) (by rw [HCL.out];omega));replace hm:=hm.two')
  | ((with_reducible refine aa (some 22) (.call {callee:=.builtin .append,args:=#[.tmp 20,.tmp 21],argTypes:=#[54,54]}) ?_);go_must (refine bO rfl aq aU G hm HOW.out (HTY.out _ _ _) rfl rfl HGL.out.symm (fun _=>⟨g10,0,rfl,Seg.row (hm.get 0 rfl)⟩) (by rw [HCL.out,HGL.out];omega) ?_);clear hm;intro v22 w7 ho hm;have HO:Hid (OwnB 5 w7 w.heap.size v22 (C++G)):=ho;clear ho HOW))
 go_ret
 obtain ⟨g,cap,l,hv,hge,hr,hc⟩:=OwnB.row HO.out (by rw [List.length_append,HGL.out];omega)
 rw [List.length_append,HGL.out,HCL.out] at hv hc
 exact ⟨g,cap,l,by rw [hv];rfl,hc,hge,by rw [HSL.out ()];exact hr,hm.below⟩
open Go Go.RowKit
theorem mJ (g o cap:Nat):cutHi (some ⟨g,o,none⟩) cap=some ⟨g,o,none⟩:=by
 unfold cutHi
 split
 ·rfl
 ·simp [aZ]
theorem cutLo_some (g o cap l:Nat) (h:l<cap):cutLo (some ⟨g,o,none⟩) cap l=some ⟨g,o+l,none⟩:=by
 unfold cutLo
 rw [if_neg (by omega)]
 simp [aZ]
section
variable {P:Program} {a:Act} {w:World} {dst:Option Tmp} {typ:TypeId} {pos:String} {aft:Array Edge} {gd:Option (Nat×Bool)}
theorem cy {ty:TypeId} {x hi:Operand} {elem:TypeId} (hu:P.underlying ty=some (.slice elem)) (hs:(P.info? elem).map (·.size)=some 1) {g o len cap:Nat} (m:Nat) {ih:Int} (hm:m≤cap) (hx:a.eval x=.slice (some ⟨g,o,none⟩) len cap) (hhi:a.eval hi=.int .i64 ih) (hih:ih=(m:Int)) :
  (execOp a.eval {dst:=dst,op:=.slice ty x none (some hi) none,type:=typ,pos:=pos,after:=aft,guard:=gd}).run P w=.ok (.value (.slice (some ⟨g,o,none⟩) m cap)) w:=by
 have h:=dL (P:=P) (a:=a) (w:=w) (dst:=dst) (typ:=typ) (pos:=pos) (aft:=aft) (gd:=gd) hu hs m hm hx hhi hih
 rw [mJ] at h
 exact h
theorem dI {ty:TypeId} {x lo:Operand} {elem:TypeId} (hu:P.underlying ty=some (.slice elem)) (hs:(P.info? elem).map (·.size)=some 1) {g o len cap:Nat} (l m:Nat) {il:Int} (hl:l≤len) (hlc:l<cap) (hlm:len - l=m) (hx:a.eval x=.slice (some ⟨g,o,none⟩) len cap) (hlo:a.eval lo=.int .i64 il) (hil:il=(l:Int)) :
  (execOp a.eval {dst:=dst,op:=.slice ty x (some lo) none none,type:=typ,pos:=pos,after:=aft,guard:=gd}).run P w=.ok (.value (.slice (some ⟨g,o+l,none⟩) m (cap - l))) w:=by
 subst hlm
 have h:=cw (P:=P) (a:=a) (w:=w) (dst:=dst) (typ:=typ) (pos:=pos) (aft:=aft) (gd:=gd) hu hs l hl hx hlo hil
 rw [cutLo_some _ _ _ _ hlc] at h
 exact h
end
theorem mR (bs:List Int) (b off cap n:Nat) (hn:bs.length=n+16) (hnl:n≤60000) (hcap:n+16≤cap) (w:World) (hs:Seg w b off bs) :
  Calls Tryz.prog 193 #[.slice (some ⟨b,off,none⟩) (n+16) cap] w fun e w'=>e=.returned (.tuple #[.slice (some ⟨b,off,none⟩) n cap,.agg (u8s (bs.drop n)).toArray])∧Below w.heap.size w w':=by
 have hm:=Mem.start w
 have HSG:Hid (Seg w b off bs):=hs
 obtain ⟨D,hD⟩:∃D,D=bs.drop n:=⟨_,rfl⟩
 have HDD:Hid (∀_:Unit,bs.drop n=D):=fun _=>hD.symm
 have HDL:Hid (D.length=16):=by show _=_;rw [hD,List.length_drop];omega
 have HDU:Hid ((u8s D).length=16):=by show _=_;rw [ab];exact HDL.out
 rw [←hD]
 clear hs hD hn
 go_enter Tryz.func193,Tryz.ntmps193
 go_wp2_with (first
  | ((with_reducible refine aa (some 3) (.alloc 261) ?_);refine af _ gO hm ?_;clear hm;intro w1 g3 hm))
 refine au ?_
 refine ap (T:=fun W=>Mem w [] W []) (by kernel_rfl) hm ?_
 clear hm
 intro w2 hm
 refine aG 0 (v:=.slice (some ⟨b,off,none⟩) (n+16) cap) rfl (by kernel_rfl) rfl (fun W _=>by go_simp) hm.tail ?_
 go_simp
 refine aG 1 (v:=.int .i64 (n:Int)) rfl (by kernel_rfl) rfl (fun W _=>by go_simp) hm.tail ?_
 go_simp
 refine aG 2 (v:=.slice (some ⟨b,off,none⟩) n cap) rfl (by kernel_rfl) rfl (fun W _=>cy aq av n (by omega) rfl rfl rfl) hm.tail ?_
 go_simp
 refine aG 3 (v:=.slice (some ⟨b,off,none⟩) (n+16) cap) rfl (by kernel_rfl) rfl (fun W _=>by go_simp) hm.tail ?_
 go_simp
 refine aG 4 (v:=.int .i64 (n:Int)) rfl (by kernel_rfl) rfl (fun W _=>by go_simp) hm.tail ?_
 go_simp
 refine aG 5 (v:=.slice (some ⟨b,off+n,none⟩) 16 (cap - n)) rfl (by kernel_rfl) rfl (fun W _=>dI aq av n 16 (by omega) (by omega) (by omega) rfl rfl rfl) hm.tail ?_
 go_simp
 refine aG 6 (v:=.pointer (some ⟨b,off+n,none⟩)) rfl (by kernel_rfl) rfl (fun W _=>exec_s2a 16 df (by omega) rfl) hm.tail ?_
 go_simp
 refine aG 7 (v:=.agg (u8s D).toArray) rfl (by kernel_rfl) rfl (fun W hW=>jK D rfl (by rw [←HDD.out ()];exact (Seg.mem HSG.out hW (by simp)).drop n) _ df rfl 16 cQ HDL.out) hm.tail ?_
 go_simp
 refine aG 8 (v:=.slice (some ⟨b,off,none⟩) n cap) rfl (by kernel_rfl) rfl (fun W _=>by go_simp) hm.tail ?_
 go_simp
 refine aP 9 (by kernel_rfl) rfl rfl ?_
 intro K hK
 refine ag 0 (u8s D) hm rfl rfl rfl 16 cQ (by simp [ab]) HDU.out (ar _) ?_
 clear hm
 intro w3 hm
 refine wpList_nil ?_
 refine hK _ _ hm.tail ?_
 clear hK K
 refine wpAnyH_done (by kernel_rfl) ?_ _
 simp only [endsIn]
 go_wp2_with fail
 exact ret_tc 0 _ hm rfl Tryz.results193 rfl rfl _ df rfl 16 cQ HDU.out rfl ⟨rfl,hm.below⟩
theorem iY (ks ns ds bs:List Int) (va:Value) (b off cap n:Nat) (hn:bs.length=n+16) (hcap:n+16≤cap) (hf:bs.drop n=tagOf ks ns ds (bs.take n)) (hkl:ks.length=32) (hnl:ns.length=12) (hkb:Bytes ks) (hnb:Bytes ns) (hdb:Bytes ds) (hbb:Bytes bs) (hal:ds.length≤20000) (hbl:bs.length≤20000) (w:World) (ht:Tab w) (hq:QTab w) (hva:SlOld w va ds) (hs:Seg w b off bs) :
  Calls Tryz.prog 164 #[.agg (u8s ks).toArray,.agg (u8s ns).toArray,va,.slice (some ⟨b,off,none⟩) (n+16) cap] w fun e w'=>∃g,e=.returned (.tuple #[.slice (some ⟨g,0,none⟩) n n,.int .i64 0])∧w.heap.size≤g∧Row w' g (u8s (encOf ks ns (bs.take n))) 5∧Below w.heap.size w w':=by
 obtain ⟨pa,ca,rfl,_⟩:=hva.len
 have hm:=Mem.start w
 have HT:Hid _:=ht
 have HKL:Hid _:=hkl
 have HNL:Hid _:=hnl
 have HKB:Hid _:=hkb
 have HNB:Hid _:=hnb
 have HKU:Hid ((u8s ks).length=32):=by show _=_;rw [ab];exact hkl
 have HNU:Hid ((u8s ns).length=12):=by show _=_;rw [ab];exact hnl
 have HQ:Hid _:=hq
 have HDB:Hid _:=hdb
 have HA:Hid (SlOld w (.slice pa ds.length ca) ds):=hva
 have HSG:Hid (Seg w b off bs):=hs
 obtain ⟨C,hC⟩:∃C,C=bs.take n:=⟨_,rfl⟩
 have HCL:Hid (C.length=n):=by show _=_;rw [hC,List.length_take];omega
 have HCB:Hid (Bytes C):=by rw [hC];exact hbb.take _
 have HCS:Hid (∀W,Seg W b off bs→SlOld W (.slice (some ⟨b,off,none⟩) n cap) C):=fun W h=>by
  rw [←HCL.out]
  exact ⟨_,_,rfl,by rw [HCL.out];omega,fun _=>⟨b,off,rfl,by rw [hC];exact h.take n⟩⟩
 obtain ⟨D,hD⟩:∃D,D=bs.drop n:=⟨_,rfl⟩
 have HDD:Hid (∀_:Unit,bs.drop n=D):=fun _=>hD.symm
 have HDL:Hid (D.length=16):=by show _=_;rw [hD,List.length_drop];omega
 have HDU:Hid ((u8s D).length=16):=by show _=_;rw [ab];exact HDL.out
 obtain ⟨G,hG⟩:∃G,G=tagOf ks ns ds C:=⟨_,rfl⟩
 have HGG:Hid (∀_:Unit,tagOf ks ns ds C=G):=fun _=>hG.symm
 have HGL:Hid (G.length=16):=by show _=_;rw [hG,dE]
 have HDG:Hid ((!decide (D=G))=false):=by
  show _=_
  rw [←hC,←hD,←hG] at hf
  simp [hf]
 have HN:Hid (bs.length=n+16):=hn
 have hnl2:n≤20000:=by omega
 have HC2:Hid (∀_:Unit,bs.take n=C):=fun _=>hC.symm
 clear ht hq hkl hnl hkb hnb hdb hbb hva hs hC hD hG hf hn hbl
 go_enter Tryz.func164,Tryz.ntmps164
 go_wp2_with (first
  | ((with_reducible refine aa (some 4) (.box 72 (.tmp 0)) ?_);refine ak (u8s ks) rfl hm ?_;clear hm;intro w1 g4 hm)
  | ((with_reducible refine aa (some 5) (.box 210 (.tmp 1)) ?_);refine ak (u8s ns) rfl hm ?_;clear hm;intro w2 g5 hm)
  | (go_at_call 193;refine (mR bs b off cap n HN.out (by omega) hcap _ (Seg.mem HSG.out hm (by simp))).mono ?_;rintro e w3 ⟨he,hb⟩;rw [HDD.out ()] at he;subst he;replace hm:=hm.call hb;clear hb)
  | ((with_reducible refine aa (some 11) (.alloc 261) ?_);refine af _ gO hm ?_;clear hm;intro w4 g11 hm)
  | ((with_reducible refine aa none (.store 261 (.tmp 11) (.tmp 19)) ?_);refine ag 0 (u8s D) hm rfl rfl rfl 16 cQ (by simp [ab]) (HDU.out) (ar _) ?_;clear hm;intro w5 hm))
 refine au ?_
 refine ap (T:=fun W=>Mem w [] W [(g11,u8s D,261),(g5,u8s ns,210),(g4,u8s ks,72)]) (by kernel_rfl) hm ?_
 clear hm
 intro w6 hm
 refine aG 0 (v:=.agg (u8s D).toArray) rfl (by kernel_rfl) rfl (fun W hW=>ao 0 _ (Mem.get hW 0 rfl) rfl _ df rfl 16 cQ (by rw [HDU.out];omega) (by rw [List.drop_zero,List.take_of_length_le (Nat.le_of_eq HDU.out)])) hm ?_
 go_simp
 refine aG 1 (v:=.agg (u8s ks).toArray) rfl (by kernel_rfl) rfl (fun W hW=>ao 0 _ (Mem.get hW 2 rfl) rfl _ a0 rfl 32 a9 (by rw [HKU.out];omega) (by rw [List.drop_zero,List.take_of_length_le (Nat.le_of_eq HKU.out)])) hm ?_
 go_simp
 refine aG 2 (v:=.agg (u8s ns).toArray) rfl (by kernel_rfl) rfl (fun W hW=>ao 0 _ (Mem.get hW 1 rfl) rfl _ bx rfl 12 bD (by rw [HNU.out];omega) (by rw [List.drop_zero,List.take_of_length_le (Nat.le_of_eq HNU.out)])) hm ?_
 go_simp
 refine aG 3 (v:=.slice pa ds.length ca) rfl (by kernel_rfl) rfl (fun W _=>by go_simp) hm ?_
 go_simp
 refine aG 4 (v:=.slice (some ⟨b,off,none⟩) n cap) rfl (by kernel_rfl) rfl (fun W _=>by go_simp) hm ?_
 go_simp
 refine aP 5 (by kernel_rfl) rfl rfl ?_
 intro K hK
 go_wp2_with (go_at_call 171;refine (tag_any ks ns ds C _ _ HKL.out HNL.out HKB.out HNB.out HDB.out HCB.out hal (by rw [HCL.out];exact hnl2) _ (Tab.mem HT.out hm (by simp)) (SlOld.mem HA.out hm) (HCS.out _ (Seg.mem HSG.out hm (by simp)))).mono ?_;rintro e w7 ⟨he,hb⟩;rw [HGG.out ()] at he;subst he;replace hm:=hm.call hb;clear hb)
 refine hK _ _ hm ?_
 clear hK K
 refine aG 6 (v:=.bool false) rfl (by kernel_rfl) rfl (fun W _=>exec_nea _ 16 .u8 D G _ HDG.out rfl rfl df cf av eg_tag HDL.out HGL.out) hm ?_
 go_simp
 refine wpAnyH_done (by kernel_rfl) ?_ _
 simp only [endsIn]
 go_wp2_with (first
  | ((with_reducible refine aa (some 27) (.load 72 (.tmp 4)) ?_);refine am 2 hm rfl rfl _ a0 rfl 32 a9 (HKU.out) ?_)
  | ((with_reducible refine aa (some 28) (.load 210 (.tmp 5)) ?_);refine am 1 hm rfl rfl _ bx rfl 12 bD (HNU.out) ?_)
  | (go_at_call 170;refine (mz ks ns C _ HKL.out HNL.out HKB.out HNB.out (by rw [HCL.out];omega) _ (Tab.mem HT.out hm (by simp)) (QTab.mem HQ.out hm (by simp)) (HCS.out _ (Seg.mem HSG.out hm (by simp)))).mono ?_;rintro e w8 ⟨g,he,hge,hr,hb⟩;rw [HCL.out] at he;subst he;replace hm:=hm.callNew hb hr hge;clear hb hr hge))
 refine bodyPost_ret (results_tmp2 Tryz.results164 _ _ _) rfl ?_
 have hf:=hm.fresh _ (List.mem_cons_self ..)
 exact ⟨g,rfl,by simpa using hf,by rw [HC2.out ()];exact hm.get 0 rfl,hm.below⟩
theorem j8 (ks ns ds bs:List Int) (va:Value) (b off cap n:Nat) (hn:bs.length=n+16) (hcap:n+16≤cap) (hf:bs.drop n≠tagOf ks ns ds (bs.take n)) (hkl:ks.length=32) (hnl:ns.length=12) (hkb:Bytes ks) (hnb:Bytes ns) (hdb:Bytes ds) (hbb:Bytes bs) (hal:ds.length≤20000) (hbl:bs.length≤20000) (w:World) (ht:Tab w) (hq:QTab w) (hva:SlOld w va ds) (hs:Seg w b off bs) :
  Calls Tryz.prog 164 #[.agg (u8s ks).toArray,.agg (u8s ns).toArray,va,.slice (some ⟨b,off,none⟩) (n+16) cap] w fun e w'=>e=.returned (.tuple #[.slice none 0 0,.int .i64 50])∧Below w.heap.size w w':=by
 obtain ⟨pa,ca,rfl,_⟩:=hva.len
 have hm:=Mem.start w
 have HT:Hid _:=ht
 have HKL:Hid _:=hkl
 have HNL:Hid _:=hnl
 have HKB:Hid _:=hkb
 have HNB:Hid _:=hnb
 have HKU:Hid ((u8s ks).length=32):=by show _=_;rw [ab];exact hkl
 have HNU:Hid ((u8s ns).length=12):=by show _=_;rw [ab];exact hnl
 have HQ:Hid _:=hq
 have HDB:Hid _:=hdb
 have HA:Hid (SlOld w (.slice pa ds.length ca) ds):=hva
 have HSG:Hid (Seg w b off bs):=hs
 obtain ⟨C,hC⟩:∃C,C=bs.take n:=⟨_,rfl⟩
 have HCL:Hid (C.length=n):=by show _=_;rw [hC,List.length_take];omega
 have HCB:Hid (Bytes C):=by rw [hC];exact hbb.take _
 have HCS:Hid (∀W,Seg W b off bs→SlOld W (.slice (some ⟨b,off,none⟩) n cap) C):=fun W h=>by
  rw [←HCL.out]
  exact ⟨_,_,rfl,by rw [HCL.out];omega,fun _=>⟨b,off,rfl,by rw [hC];exact h.take n⟩⟩
 obtain ⟨D,hD⟩:∃D,D=bs.drop n:=⟨_,rfl⟩
 have HDD:Hid (∀_:Unit,bs.drop n=D):=fun _=>hD.symm
 have HDL:Hid (D.length=16):=by show _=_;rw [hD,List.length_drop];omega
 have HDU:Hid ((u8s D).length=16):=by show _=_;rw [ab];exact HDL.out
 obtain ⟨G,hG⟩:∃G,G=tagOf ks ns ds C:=⟨_,rfl⟩
 have HGG:Hid (∀_:Unit,tagOf ks ns ds C=G):=fun _=>hG.symm
 have HGL:Hid (G.length=16):=by show _=_;rw [hG,dE]
 have HDG:Hid ((!decide (D=G))=true):=by
  show _=_
  rw [←hC,←hD,←hG] at hf
  simp [hf]
 have HN:Hid (bs.length=n+16):=hn
 have hnl2:n≤20000:=by omega
 have HC2:Hid (∀_:Unit,bs.take n=C):=fun _=>hC.symm
 clear ht hq hkl hnl hkb hnb hdb hbb hva hs hC hD hG hf hn hbl
 go_enter Tryz.func164,Tryz.ntmps164
 go_wp2_with (first
  | ((with_reducible refine aa (some 4) (.box 72 (.tmp 0)) ?_);refine ak (u8s ks) rfl hm ?_;clear hm;intro w1 g4 hm)
  | ((with_reducible refine aa (some 5) (.box 210 (.tmp 1)) ?_);refine ak (u8s ns) rfl hm ?_;clear hm;intro w2 g5 hm)
  | (go_at_call 193;refine (mR bs b off cap n HN.out (by omega) hcap _ (Seg.mem HSG.out hm (by simp))).mono ?_;rintro e w3 ⟨he,hb⟩;rw [HDD.out ()] at he;subst he;replace hm:=hm.call hb;clear hb)
  | ((with_reducible refine aa (some 11) (.alloc 261) ?_);refine af _ gO hm ?_;clear hm;intro w4 g11 hm)
  | ((with_reducible refine aa none (.store 261 (.tmp 11) (.tmp 19)) ?_);refine ag 0 (u8s D) hm rfl rfl rfl 16 cQ (by simp [ab]) (HDU.out) (ar _) ?_;clear hm;intro w5 hm))
 refine au ?_
 refine ap (T:=fun W=>Mem w [] W [(g11,u8s D,261),(g5,u8s ns,210),(g4,u8s ks,72)]) (by kernel_rfl) hm ?_
 clear hm
 intro w6 hm
 refine aG 0 (v:=.agg (u8s D).toArray) rfl (by kernel_rfl) rfl (fun W hW=>ao 0 _ (Mem.get hW 0 rfl) rfl _ df rfl 16 cQ (by rw [HDU.out];omega) (by rw [List.drop_zero,List.take_of_length_le (Nat.le_of_eq HDU.out)])) hm ?_
 go_simp
 refine aG 1 (v:=.agg (u8s ks).toArray) rfl (by kernel_rfl) rfl (fun W hW=>ao 0 _ (Mem.get hW 2 rfl) rfl _ a0 rfl 32 a9 (by rw [HKU.out];omega) (by rw [List.drop_zero,List.take_of_length_le (Nat.le_of_eq HKU.out)])) hm ?_
 go_simp
 refine aG 2 (v:=.agg (u8s ns).toArray) rfl (by kernel_rfl) rfl (fun W hW=>ao 0 _ (Mem.get hW 1 rfl) rfl _ bx rfl 12 bD (by rw [HNU.out];omega) (by rw [List.drop_zero,List.take_of_length_le (Nat.le_of_eq HNU.out)])) hm ?_
 go_simp
 refine aG 3 (v:=.slice pa ds.length ca) rfl (by kernel_rfl) rfl (fun W _=>by go_simp) hm ?_
 go_simp
 refine aG 4 (v:=.slice (some ⟨b,off,none⟩) n cap) rfl (by kernel_rfl) rfl (fun W _=>by go_simp) hm ?_
 go_simp
 refine aP 5 (by kernel_rfl) rfl rfl ?_
 intro K hK
 go_wp2_with (go_at_call 171;refine (tag_any ks ns ds C _ _ HKL.out HNL.out HKB.out HNB.out HDB.out HCB.out hal (by rw [HCL.out];exact hnl2) _ (Tab.mem HT.out hm (by simp)) (SlOld.mem HA.out hm) (HCS.out _ (Seg.mem HSG.out hm (by simp)))).mono ?_;rintro e w7 ⟨he,hb⟩;rw [HGG.out ()] at he;subst he;replace hm:=hm.call hb;clear hb)
 refine hK _ _ hm ?_
 clear hK K
 refine aG 6 (v:=.bool true) rfl (by kernel_rfl) rfl (fun W _=>exec_nea _ 16 .u8 D G _ HDG.out rfl rfl df cf av eg_tag HDL.out HGL.out) hm ?_
 go_simp
 refine wpAnyH_done (by kernel_rfl) ?_ _
 simp only [endsIn]
 go_wp2_with fail
 refine bodyPost_ret (results_tmp2 Tryz.results164 _ _ _) rfl ?_
 exact ⟨rfl,hm.below⟩
def openCode (k n a b:List Int):Int:=if b.length<16 then 10 else if fits k n a b then 0 else 50
def openOf (k n a b:List Int):List Int:=if b.length<16 then [] else if fits k n a b then encOf k n (b.take (b.length - 16)) else []
theorem old_empty (w:World):SlOld w (.slice none 0 0) []:=⟨none,0,rfl,Nat.le_refl _,fun h=>absurd h (by simp)⟩
theorem SlOld.some {w:World} {v:Value} {cs:List Int} (h:SlOld w v cs) (h0:0<cs.length):∃b off cap,v=.slice (some ⟨b,off,none⟩) cs.length cap∧cs.length≤cap∧Seg w b off cs:=by
 obtain ⟨p,cap,hv,hc,hs⟩:=h
 obtain ⟨b,off,hp,hseg⟩:=hs h0
 subst hp
 exact ⟨b,off,cap,hv,hc,hseg⟩
end Go.Proofs.YtmlbjfklaehjnaaGreatDoor
