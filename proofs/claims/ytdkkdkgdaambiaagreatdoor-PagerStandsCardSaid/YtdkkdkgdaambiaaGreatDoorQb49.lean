import Derived.Test.YtdkkdkgdaambiaaGreatDoorQb48
import Derived.Test.YtdkkdkgdaambiaaGreatDoorQb41
import Derived.Test.YtdkkdkgdaambiaaGreatDoorQb32
import Derived.Test.YtdkkdkgdaambiaaGreatDoorQb19
set_option maxRecDepth 100000
set_option maxHeartbeats 4000000
namespace Go.Proofs.YtdkkdkgdaambiaaGreatDoor
open Go Go.RowKit
theorem OwnB.mono {e:TypeId} {w:World} {b b':Nat} {v:Value} {zs:List Int} (h:OwnB e w b v zs) (hb:b'≤b):OwnB e w b' v zs:=by
 refine ⟨h.1,?_⟩
 rcases h.2 with hn|⟨g,cap,cur,hv,hg,rest⟩
 ·exact Or.inl hn
 ·exact Or.inr ⟨g,cap,cur,hv,Nat.le_trans hb hg,rest⟩
/-- A slice that a call made is kept beside the rows. -/
theorem Mem.callOwn {w0 w w':World} {S:List Nat} {rows:List (Nat×List Value×TypeId)} {e:TypeId} {v:Value} {zs:List Int} (hm:Mem w0 S w rows) (hb:Below w.heap.size w w') (ho:OwnB e w' w.heap.size v zs) :
  ∃rs,Mem w0 S w' (rows++rs)∧∀W,Mem w0 S W rs→SlOld W v zs:=by
 have hc:=hm.call hb
 rcases ho.2 with ⟨hv,hn⟩|⟨g,cap,cur,hv,hg,hr,hnc,_,_,ht⟩
 ·refine ⟨[],by rw [List.append_nil];exact hc,fun W _=>?_⟩
  have hz:zs=[]:=List.eq_nil_of_length_eq_zero hn
  subst hz
  rw [hv]
  exact kD _
 ·refine ⟨[(g,cur.toList,e)],⟨hc.os,hc.tape,hc.output,hc.size,hc.block,?_,?_,?_⟩,fun W hW=>?_⟩
  ·intro r hr'
   rcases List.mem_append.1 hr' with h|h
   ·exact hc.row r h
   ·simp only [List.mem_cons,List.not_mem_nil,or_false] at h
    subst h
    exact hr
  ·rw [List.map_append,List.nodup_append]
   refine ⟨hc.nodup,by simp,fun a ha b hb2=>?_⟩
   simp only [List.map_cons,List.map_nil,List.mem_cons,List.not_mem_nil,or_false] at hb2
   obtain ⟨r,hr',rfl⟩:=List.mem_map.1 ha
   have:=(hm.row r hr').lt
   rw [hb2]
   omega
  ·intro r hr'
   rcases List.mem_append.1 hr' with h|h
   ·exact hc.fresh r h
   ·simp only [List.mem_cons,List.not_mem_nil,or_false] at h
    subst h
    exact Or.inr (Nat.le_trans hm.size hg)
  ·rw [Nat.mul_one] at ht
   have hrow:Row W g (u8s zs++cur.toList.drop zs.length) e:=by
    rw [←ht,List.take_append_drop]
    exact hW.get 0 rfl
   rw [hv]
   exact old_head hrow rfl hnc
theorem ja {P:Program} {a:Act} {w:World} {dst:Option Tmp} {typ:TypeId} {pos:String} {aft:Array Edge} {gd:Option (Nat×Bool)} {t:TypeId} {x y:Operand} {rt:TypeId} (s s':ByteArray) (v:Bool) (hx:a.eval x=.string s) (hy:a.eval y=.string s') (hv:(!(s==s'))=v) :
  (execOp a.eval {dst:=dst,op:=.binOp .neq t x y rt,type:=typ,pos:=pos,after:=aft,guard:=gd}).run P w=.ok (.value (.bool v)) w:=by
 subst hv
 unfold execOp
 simp only [hx,hy]
 simp [eqGuard,binOp,Op.stringOp]
 rw [beq_toListBytes]
theorem openRef_good (ks ns ds bs:List Int) (va:Value) (b off cap n:Nat) (hn:bs.length=n+16) (hcap:n+16≤cap) (hf:bs.drop n=tagOf ks ns ds (bs.take n)) (hkl:ks.length=32) (hnl:ns.length=12) (hkb:Bytes ks) (hnb:Bytes ns) (hdb:Bytes ds) (hbb:Bytes bs) (hal:ds.length≤20000) (hbl:bs.length≤20000) (w:World) (hva:SlOld w va ds) (hs:Seg w b off bs) :
  Calls Tryz.prog 46 #[.agg (u8s ks).toArray,.agg (u8s ns).toArray,va,.slice (some ⟨b,off,none⟩) (n+16) cap] w fun e w'=>∃v',e=.returned (.tuple #[v',.int .i64 0])∧OwnB 5 w' w.heap.size v' (encOf ks ns (bs.take n))∧Below w.heap.size w w':=by
 obtain ⟨pa,ca,rfl,_⟩:=hva.len
 have hm:=Mem.start w
 have HKL:Hid _:=hkl
 have HNL:Hid _:=hnl
 have HKB:Hid _:=hkb
 have HNB:Hid _:=hnb
 have HKU:Hid ((u8s ks).length=32):=by show _=_;rw [ab];exact hkl
 have HNU:Hid ((u8s ns).length=12):=by show _=_;rw [ab];exact hnl
 have HDB:Hid _:=hdb
 have HA:Hid (SlOld w (.slice pa ds.length ca) ds):=hva
 have HSG:Hid (Seg w b off bs):=hs
 obtain ⟨E,hE⟩:∃E,E=encKey ks:=⟨_,rfl⟩
 have HEE:Hid (∀_:Unit,deriveOf ks (strB {data:=#[101,110,99]}) 0=E):=fun _=>hE.symm
 have HEL:Hid (E.length=32):=by show _=_;rw [hE,encKey,bd]
 have HEB:Hid (Bytes E):=by rw [hE];exact cY _ _ _
 obtain ⟨T,hT⟩:∃T,T=bs.take n:=⟨_,rfl⟩
 have HTL:Hid (T.length=n):=by show _=_;rw [hT,List.length_take];omega
 have HTB:Hid (Bytes T):=by rw [hT];exact hbb.take _
 have HTS:Hid (∀W,Seg W b off bs→SlOld W (.slice (some ⟨b,off,none⟩) n cap) T):=fun W h=>by
  rw [hT]
  exact old_segT h n (by omega) (by omega)
 obtain ⟨D,hD⟩:∃D,D=bs.drop n:=⟨_,rfl⟩
 have HDS:Hid (∀W,Seg W b off bs→SlOld W (.slice (some ⟨b,off+n,none⟩) 16 (cap - n)) D):=fun W h=>by
  rw [hD]
  exact old_segD h n 16 hn (by omega)
 obtain ⟨G,hG⟩:∃G,G=tagOf ks ns ds T:=⟨_,rfl⟩
 have HGG:Hid (∀_:Unit,tagOf ks ns ds T=G):=fun _=>hG.symm
 have HGL:Hid (G.length=16):=by show _=_;rw [hG,cE]
 have HGU:Hid ((u8s G).length=16):=by show _=_;rw [ab];exact HGL.out
 have HNE:Hid ((!(strOf G==strOf D))=false):=by
  show _=_
  rw [←hT,←hD,←hG] at hf
  rw [fY (by rw [hG];exact iJ _ _ _ _) (by rw [hD];exact hbb.drop _)]
  rw [decide_eq_true hf.symm];rfl
 obtain ⟨C,hC⟩:∃C,C=encOf ks ns (bs.take n):=⟨_,rfl⟩
 have HCC:Hid (∀_:Unit,xorOf E ns 1 T=C):=fun _=>by rw [hC,hE,hT];rfl
 have HCE:Hid (∀_:Unit,encOf ks ns (bs.take n)=C):=fun _=>hC.symm
 have HCL:Hid (C.length=n):=by show _=_;rw [hC,cI,List.length_take];omega
 have hnl2:n≤20000:=by omega
 have hni:¬(n:Int)<0:=by omega
 clear hkl hnl hkb hnb hdb hbb hva hs hT hD hG hf hn hbl hE hC
 go_enter Tryz.func46,Tryz.ntmps46
 go_wp2_with (first
  | ((with_reducible refine aa (some 4) (.box 61 (.tmp 0)) ?_);refine ak (u8s ks) rfl hm ?_;clear hm;intro w1 g4 hm)
  | ((with_reducible refine aa (some 5) (.box 113 (.tmp 1)) ?_);refine ak (u8s ns) rfl hm ?_;clear hm;intro w2 g5 hm))
 refine ar ?_
 refine am (T:=fun W=>Mem w [] W [(g5,u8s ns,113),(g4,u8s ks,61)]) (by kernel_rfl) hm ?_
 clear hm
 intro w3 hm
 refine aG 0 (v:=.agg (u8s ks).toArray) rfl (by kernel_rfl) rfl (fun W hW=>ao 0 _ (Mem.get hW 1 rfl) rfl _ aJ rfl 32 aH (by rw [HKU.out];omega) (by rw [List.drop_zero,List.take_of_length_le (Nat.le_of_eq HKU.out)])) hm ?_
 go_simp
 refine aG 1 (v:=.agg (u8s ns).toArray) rfl (by kernel_rfl) rfl (fun W hW=>ao 0 _ (Mem.get hW 0 rfl) rfl _ bp rfl 12 bv (by rw [HNU.out];omega) (by rw [List.drop_zero,List.take_of_length_le (Nat.le_of_eq HNU.out)])) hm ?_
 go_simp
 refine aG 2 (v:=.slice pa ds.length ca) rfl (by kernel_rfl) rfl (fun W _=>by go_simp) hm ?_
 go_simp
 refine aG 3 (v:=.slice (some ⟨b,off,none⟩) (n+16) cap) rfl (by kernel_rfl) rfl (fun W _=>by go_simp) hm ?_
 go_simp
 refine aG 4 (v:=.int .i64 (n:Int)) rfl (by kernel_rfl) rfl (fun W _=>by go_simp) hm ?_
 go_simp
 refine aG 5 (v:=.slice (some ⟨b,off,none⟩) n cap) rfl (by kernel_rfl) rfl (fun W _=>bS ai av n (by omega) rfl rfl rfl) hm ?_
 go_simp
 refine wpAnyH_all (rs:=[6,7]) (by kernel_rfl) (by simp) ?_
 intro i hi
 simp only [List.mem_cons,List.not_mem_nil,or_false] at hi
 rcases hi with rfl|rfl
 ·refine aQ 6 rfl rfl ?_
  intro K hK
  go_wp2_with (go_at_call 81;refine (gY ks ns ds T _ _ HKL.out HNL.out HKB.out HNB.out HDB.out HTB.out hal (by rw [HTL.out];exact hnl2) _ (SlOld.mem HA.out hm) (HTS.out _ (Seg.mem HSG.out hm (by simp)))).mono ?_;rintro e wt ⟨he,hb⟩;rw [HGG.out ()] at he;subst he;replace hm:=hm.call hb;clear hb)
  refine hK _ _ hm ?_
  clear hK K
  refine aP 7 (by kernel_rfl) rfl rfl ?_
  intro K hK
  refine ae _ dC hm ?_
  clear hm
  intro wa g11 hm
  refine wpList_nil ?_
  refine hK _ _ hm.tail ?_
  clear hK K
  refine aP 8 (by kernel_rfl) rfl rfl ?_
  intro K hK
  refine af 0 (u8s G) hm rfl rfl rfl 16 bV (by simp [ab]) HGU.out (aj _) ?_
  clear hm
  intro wz hm
  refine wpList_nil ?_
  refine hK _ _ hm.tail ?_
  clear hK K
  refine wpAnyH_done (by kernel_rfl) ?_ _
  simp only [endsIn]
  go_wp2_with fail
  refine ar ?_
  refine am (T:=fun W=>Mem w [] W [(g11,u8s G,153),(g5,u8s ns,113),(g4,u8s ks,61)]) (by kernel_rfl) hm ?_
  clear hm
  intro w4 hm
  refine aG 0 (v:=.slice (some ⟨g11,0,none⟩) 16 16) rfl (by kernel_rfl) rfl (fun W _=>by go_simp) hm ?_
  go_simp
  refine aG 1 (v:=.string (strOf G)) rfl (by kernel_rfl) rfl (fun W hW=>aA ai aL aR _ rfl (aB (Mem.get hW 0 rfl) HGL.out (Nat.le_refl _))) hm ?_
  go_simp
  refine aG 2 (v:=.slice (some ⟨b,off,none⟩) (n+16) cap) rfl (by kernel_rfl) rfl (fun W _=>by go_simp) hm ?_
  go_simp
  refine aG 3 (v:=.int .i64 (n:Int)) rfl (by kernel_rfl) rfl (fun W _=>by go_simp) hm ?_
  go_simp
  refine aG 4 (v:=.slice (some ⟨b,off+n,none⟩) 16 (cap - n)) rfl (by kernel_rfl) rfl (fun W _=>cV ai av n 16 (by omega) (by omega) (by omega) rfl rfl rfl) hm ?_
  go_simp
  refine aG 5 (v:=.string (strOf D)) rfl (by kernel_rfl) rfl (fun W hW=>aA ai aL aR _ rfl (HDS.out _ (Seg.mem HSG.out hW (by simp)))) hm ?_
  go_simp
  refine aG 6 (v:=.bool false) rfl (by kernel_rfl) rfl (fun W _=>ja _ _ _ rfl rfl HNE.out) hm ?_
  go_simp
  refine wpAnyH_done (by kernel_rfl) ?_ _
  simp only [endsIn]
  go_wp2_with fail
  refine ar ?_
  refine am (T:=fun W=>Mem w [] W [(g11,u8s G,153),(g5,u8s ns,113),(g4,u8s ks,61)]) (by kernel_rfl) hm ?_
  clear hm
  intro w6 hm
  refine aG 0 (v:=.agg (u8s ks).toArray) rfl (by kernel_rfl) rfl (fun W hW=>ao 0 _ (Mem.get hW 2 rfl) rfl _ aJ rfl 32 aH (by rw [HKU.out];omega) (by rw [List.drop_zero,List.take_of_length_le (Nat.le_of_eq HKU.out)])) hm ?_
  go_simp
  refine aG 2 (v:=.agg (u8s ns).toArray) rfl (by kernel_rfl) rfl (fun W hW=>ao 0 _ (Mem.get hW 1 rfl) rfl _ bp rfl 12 bv (by rw [HNU.out];omega) (by rw [List.drop_zero,List.take_of_length_le (Nat.le_of_eq HNU.out)])) hm ?_
  go_simp
  refine aG 3 (v:=.slice (some ⟨b,off,none⟩) (n+16) cap) rfl (by kernel_rfl) rfl (fun W _=>by go_simp) hm ?_
  go_simp
  refine aG 4 (v:=.int .i64 (n:Int)) rfl (by kernel_rfl) rfl (fun W _=>by go_simp) hm ?_
  go_simp
  refine aG 5 (v:=.slice (some ⟨b,off,none⟩) n cap) rfl (by kernel_rfl) rfl (fun W _=>bS ai av n (by omega) rfl rfl rfl) hm ?_
  go_simp
  refine aP 1 (by kernel_rfl) rfl rfl ?_
  intro K hK
  go_wp2_with (go_at_call 45;refine (dX ks _ 0 HKL.out HKB.out (by decide) (by omega) _).mono ?_;rintro e wd ⟨he,hb⟩;rw [HEE.out ()] at he;subst he;replace hm:=hm.call hb;clear hb)
  refine hK _ _ hm ?_
  clear hK K
  refine aP 6 (by kernel_rfl) rfl rfl ?_
  intro K hK
  go_wp2_with (go_at_call 82;refine (lx E ns T 1 _ HEL.out HNL.out HEB.out HNB.out ⟨by omega,by omega⟩ (by rw [HTL.out];omega) _ (HTS.out _ (Seg.mem HSG.out hm (by simp)))).mono ?_;rintro e w7 ⟨v9,he,ho,hb⟩;subst he;rw [HCC.out ()] at ho;have hmT:=hm.call hb;have hOm:=OwnB.mono ho hm.size;obtain ⟨rs,hm2,hso⟩:=Mem.callOwn hm hb ho;obtain ⟨p9,c9,hv9,_⟩:=OwnB.old ho;rw [HCL.out] at hv9;subst hv9;have HSO:Hid (∀W,Mem w [] W rs→SlOld W (.slice p9 n c9) C):=hso;have HOM:Hid (OwnB 5 w7 w.heap.size (.slice p9 n c9) C):=hOm;clear hso ho hb hOm)
  refine hK _ _ hmT ?_
  clear hK K
  refine aG 7 (v:=.slice p9 n c9) rfl (by kernel_rfl) rfl (fun W _=>by go_simp) hmT ?_
  go_simp
  refine aG 8 (v:=.int .i64 0) rfl (by kernel_rfl) rfl (fun W _=>by go_simp) hmT ?_
  go_simp
  refine wpAnyH_done (by kernel_rfl) ?_ _
  simp only [endsIn]
  go_wp2_with fail
  refine bodyPost_ret (results_tmp2 Tryz.results46 _ _ _) rfl ?_
  exact ⟨_,rfl,by rw [HCE.out ()];exact HOM.out,hmT.below⟩
 ·refine aQ 7 rfl rfl ?_
  intro K hK
  refine ae _ dC hm ?_
  clear hm
  intro wa g11 hm
  refine wpList_nil ?_
  refine hK _ _ hm.tail ?_
  clear hK K
  refine aP 6 (by kernel_rfl) rfl rfl ?_
  intro K hK
  go_wp2_with (go_at_call 81;refine (gY ks ns ds T _ _ HKL.out HNL.out HKB.out HNB.out HDB.out HTB.out hal (by rw [HTL.out];exact hnl2) _ (SlOld.mem HA.out hm) (HTS.out _ (Seg.mem HSG.out hm (by simp)))).mono ?_;rintro e wt ⟨he,hb⟩;rw [HGG.out ()] at he;subst he;replace hm:=hm.call hb;clear hb)
  refine hK _ _ hm.tail ?_
  clear hK K
  refine aP 8 (by kernel_rfl) rfl rfl ?_
  intro K hK
  refine af 0 (u8s G) hm rfl rfl rfl 16 bV (by simp [ab]) HGU.out (aj _) ?_
  clear hm
  intro wz hm
  refine wpList_nil ?_
  refine hK _ _ hm.tail ?_
  clear hK K
  refine wpAnyH_done (by kernel_rfl) ?_ _
  simp only [endsIn]
  go_wp2_with fail
  refine ar ?_
  refine am (T:=fun W=>Mem w [] W [(g11,u8s G,153),(g5,u8s ns,113),(g4,u8s ks,61)]) (by kernel_rfl) hm ?_
  clear hm
  intro w4 hm
  refine aG 0 (v:=.slice (some ⟨g11,0,none⟩) 16 16) rfl (by kernel_rfl) rfl (fun W _=>by go_simp) hm ?_
  go_simp
  refine aG 1 (v:=.string (strOf G)) rfl (by kernel_rfl) rfl (fun W hW=>aA ai aL aR _ rfl (aB (Mem.get hW 0 rfl) HGL.out (Nat.le_refl _))) hm ?_
  go_simp
  refine aG 2 (v:=.slice (some ⟨b,off,none⟩) (n+16) cap) rfl (by kernel_rfl) rfl (fun W _=>by go_simp) hm ?_
  go_simp
  refine aG 3 (v:=.int .i64 (n:Int)) rfl (by kernel_rfl) rfl (fun W _=>by go_simp) hm ?_
  go_simp
  refine aG 4 (v:=.slice (some ⟨b,off+n,none⟩) 16 (cap - n)) rfl (by kernel_rfl) rfl (fun W _=>cV ai av n 16 (by omega) (by omega) (by omega) rfl rfl rfl) hm ?_
  go_simp
  refine aG 5 (v:=.string (strOf D)) rfl (by kernel_rfl) rfl (fun W hW=>aA ai aL aR _ rfl (HDS.out _ (Seg.mem HSG.out hW (by simp)))) hm ?_
  go_simp
  refine aG 6 (v:=.bool false) rfl (by kernel_rfl) rfl (fun W _=>ja _ _ _ rfl rfl HNE.out) hm ?_
  go_simp
  refine wpAnyH_done (by kernel_rfl) ?_ _
  simp only [endsIn]
  go_wp2_with fail
  refine ar ?_
  refine am (T:=fun W=>Mem w [] W [(g11,u8s G,153),(g5,u8s ns,113),(g4,u8s ks,61)]) (by kernel_rfl) hm ?_
  clear hm
  intro w6 hm
  refine aG 0 (v:=.agg (u8s ks).toArray) rfl (by kernel_rfl) rfl (fun W hW=>ao 0 _ (Mem.get hW 2 rfl) rfl _ aJ rfl 32 aH (by rw [HKU.out];omega) (by rw [List.drop_zero,List.take_of_length_le (Nat.le_of_eq HKU.out)])) hm ?_
  go_simp
  refine aG 2 (v:=.agg (u8s ns).toArray) rfl (by kernel_rfl) rfl (fun W hW=>ao 0 _ (Mem.get hW 1 rfl) rfl _ bp rfl 12 bv (by rw [HNU.out];omega) (by rw [List.drop_zero,List.take_of_length_le (Nat.le_of_eq HNU.out)])) hm ?_
  go_simp
  refine aG 3 (v:=.slice (some ⟨b,off,none⟩) (n+16) cap) rfl (by kernel_rfl) rfl (fun W _=>by go_simp) hm ?_
  go_simp
  refine aG 4 (v:=.int .i64 (n:Int)) rfl (by kernel_rfl) rfl (fun W _=>by go_simp) hm ?_
  go_simp
  refine aG 5 (v:=.slice (some ⟨b,off,none⟩) n cap) rfl (by kernel_rfl) rfl (fun W _=>bS ai av n (by omega) rfl rfl rfl) hm ?_
  go_simp
  refine aP 1 (by kernel_rfl) rfl rfl ?_
  intro K hK
  go_wp2_with (go_at_call 45;refine (dX ks _ 0 HKL.out HKB.out (by decide) (by omega) _).mono ?_;rintro e wd ⟨he,hb⟩;rw [HEE.out ()] at he;subst he;replace hm:=hm.call hb;clear hb)
  refine hK _ _ hm ?_
  clear hK K
  refine aP 6 (by kernel_rfl) rfl rfl ?_
  intro K hK
  go_wp2_with (go_at_call 82;refine (lx E ns T 1 _ HEL.out HNL.out HEB.out HNB.out ⟨by omega,by omega⟩ (by rw [HTL.out];omega) _ (HTS.out _ (Seg.mem HSG.out hm (by simp)))).mono ?_;rintro e w7 ⟨v9,he,ho,hb⟩;subst he;rw [HCC.out ()] at ho;have hmT:=hm.call hb;have hOm:=OwnB.mono ho hm.size;obtain ⟨rs,hm2,hso⟩:=Mem.callOwn hm hb ho;obtain ⟨p9,c9,hv9,_⟩:=OwnB.old ho;rw [HCL.out] at hv9;subst hv9;have HSO:Hid (∀W,Mem w [] W rs→SlOld W (.slice p9 n c9) C):=hso;have HOM:Hid (OwnB 5 w7 w.heap.size (.slice p9 n c9) C):=hOm;clear hso ho hb hOm)
  refine hK _ _ hmT ?_
  clear hK K
  refine aG 7 (v:=.slice p9 n c9) rfl (by kernel_rfl) rfl (fun W _=>by go_simp) hmT ?_
  go_simp
  refine aG 8 (v:=.int .i64 0) rfl (by kernel_rfl) rfl (fun W _=>by go_simp) hmT ?_
  go_simp
  refine wpAnyH_done (by kernel_rfl) ?_ _
  simp only [endsIn]
  go_wp2_with fail
  refine bodyPost_ret (results_tmp2 Tryz.results46 _ _ _) rfl ?_
  exact ⟨_,rfl,by rw [HCE.out ()];exact HOM.out,hmT.below⟩
theorem openRef_bad (ks ns ds bs:List Int) (va:Value) (b off cap n:Nat) (hn:bs.length=n+16) (hcap:n+16≤cap) (hf:bs.drop n≠tagOf ks ns ds (bs.take n)) (hkl:ks.length=32) (hnl:ns.length=12) (hkb:Bytes ks) (hnb:Bytes ns) (hdb:Bytes ds) (hbb:Bytes bs) (hal:ds.length≤20000) (hbl:bs.length≤20000) (w:World) (hva:SlOld w va ds) (hs:Seg w b off bs) :
  Calls Tryz.prog 46 #[.agg (u8s ks).toArray,.agg (u8s ns).toArray,va,.slice (some ⟨b,off,none⟩) (n+16) cap] w fun e w'=>e=.returned (.tuple #[.slice none 0 0,.int .i64 50])∧Below w.heap.size w w':=by
 obtain ⟨pa,ca,rfl,_⟩:=hva.len
 have hm:=Mem.start w
 have HKL:Hid _:=hkl
 have HNL:Hid _:=hnl
 have HKB:Hid _:=hkb
 have HNB:Hid _:=hnb
 have HKU:Hid ((u8s ks).length=32):=by show _=_;rw [ab];exact hkl
 have HNU:Hid ((u8s ns).length=12):=by show _=_;rw [ab];exact hnl
 have HDB:Hid _:=hdb
 have HA:Hid (SlOld w (.slice pa ds.length ca) ds):=hva
 have HSG:Hid (Seg w b off bs):=hs
 obtain ⟨T,hT⟩:∃T,T=bs.take n:=⟨_,rfl⟩
 have HTL:Hid (T.length=n):=by show _=_;rw [hT,List.length_take];omega
 have HTB:Hid (Bytes T):=by rw [hT];exact hbb.take _
 have HTS:Hid (∀W,Seg W b off bs→SlOld W (.slice (some ⟨b,off,none⟩) n cap) T):=fun W h=>by
  rw [hT]
  exact old_segT h n (by omega) (by omega)
 obtain ⟨D,hD⟩:∃D,D=bs.drop n:=⟨_,rfl⟩
 have HDS:Hid (∀W,Seg W b off bs→SlOld W (.slice (some ⟨b,off+n,none⟩) 16 (cap - n)) D):=fun W h=>by
  rw [hD]
  exact old_segD h n 16 hn (by omega)
 obtain ⟨G,hG⟩:∃G,G=tagOf ks ns ds T:=⟨_,rfl⟩
 have HGG:Hid (∀_:Unit,tagOf ks ns ds T=G):=fun _=>hG.symm
 have HGL:Hid (G.length=16):=by show _=_;rw [hG,cE]
 have HGU:Hid ((u8s G).length=16):=by show _=_;rw [ab];exact HGL.out
 have HNE:Hid ((!(strOf G==strOf D))=true):=by
  show _=_
  rw [←hT,←hD,←hG] at hf
  rw [fY (by rw [hG];exact iJ _ _ _ _) (by rw [hD];exact hbb.drop _)]
  rw [decide_eq_false (Ne.symm hf)];rfl
 have hnl2:n≤20000:=by omega
 have hni:¬(n:Int)<0:=by omega
 clear hkl hnl hkb hnb hdb hbb hva hs hT hD hG hf hn hbl
 go_enter Tryz.func46,Tryz.ntmps46
 go_wp2_with (first
  | ((with_reducible refine aa (some 4) (.box 61 (.tmp 0)) ?_);refine ak (u8s ks) rfl hm ?_;clear hm;intro w1 g4 hm)
  | ((with_reducible refine aa (some 5) (.box 113 (.tmp 1)) ?_);refine ak (u8s ns) rfl hm ?_;clear hm;intro w2 g5 hm))
 refine ar ?_
 refine am (T:=fun W=>Mem w [] W [(g5,u8s ns,113),(g4,u8s ks,61)]) (by kernel_rfl) hm ?_
 clear hm
 intro w3 hm
 refine aG 0 (v:=.agg (u8s ks).toArray) rfl (by kernel_rfl) rfl (fun W hW=>ao 0 _ (Mem.get hW 1 rfl) rfl _ aJ rfl 32 aH (by rw [HKU.out];omega) (by rw [List.drop_zero,List.take_of_length_le (Nat.le_of_eq HKU.out)])) hm ?_
 go_simp
 refine aG 1 (v:=.agg (u8s ns).toArray) rfl (by kernel_rfl) rfl (fun W hW=>ao 0 _ (Mem.get hW 0 rfl) rfl _ bp rfl 12 bv (by rw [HNU.out];omega) (by rw [List.drop_zero,List.take_of_length_le (Nat.le_of_eq HNU.out)])) hm ?_
 go_simp
 refine aG 2 (v:=.slice pa ds.length ca) rfl (by kernel_rfl) rfl (fun W _=>by go_simp) hm ?_
 go_simp
 refine aG 3 (v:=.slice (some ⟨b,off,none⟩) (n+16) cap) rfl (by kernel_rfl) rfl (fun W _=>by go_simp) hm ?_
 go_simp
 refine aG 4 (v:=.int .i64 (n:Int)) rfl (by kernel_rfl) rfl (fun W _=>by go_simp) hm ?_
 go_simp
 refine aG 5 (v:=.slice (some ⟨b,off,none⟩) n cap) rfl (by kernel_rfl) rfl (fun W _=>bS ai av n (by omega) rfl rfl rfl) hm ?_
 go_simp
 refine wpAnyH_all (rs:=[6,7]) (by kernel_rfl) (by simp) ?_
 intro i hi
 simp only [List.mem_cons,List.not_mem_nil,or_false] at hi
 rcases hi with rfl|rfl
 ·refine aQ 6 rfl rfl ?_
  intro K hK
  go_wp2_with (go_at_call 81;refine (gY ks ns ds T _ _ HKL.out HNL.out HKB.out HNB.out HDB.out HTB.out hal (by rw [HTL.out];exact hnl2) _ (SlOld.mem HA.out hm) (HTS.out _ (Seg.mem HSG.out hm (by simp)))).mono ?_;rintro e wt ⟨he,hb⟩;rw [HGG.out ()] at he;subst he;replace hm:=hm.call hb;clear hb)
  refine hK _ _ hm ?_
  clear hK K
  refine aP 7 (by kernel_rfl) rfl rfl ?_
  intro K hK
  refine ae _ dC hm ?_
  clear hm
  intro wa g11 hm
  refine wpList_nil ?_
  refine hK _ _ hm.tail ?_
  clear hK K
  refine aP 8 (by kernel_rfl) rfl rfl ?_
  intro K hK
  refine af 0 (u8s G) hm rfl rfl rfl 16 bV (by simp [ab]) HGU.out (aj _) ?_
  clear hm
  intro wz hm
  refine wpList_nil ?_
  refine hK _ _ hm.tail ?_
  clear hK K
  refine wpAnyH_done (by kernel_rfl) ?_ _
  simp only [endsIn]
  go_wp2_with fail
  refine ar ?_
  refine am (T:=fun W=>Mem w [] W [(g11,u8s G,153),(g5,u8s ns,113),(g4,u8s ks,61)]) (by kernel_rfl) hm ?_
  clear hm
  intro w4 hm
  refine aG 0 (v:=.slice (some ⟨g11,0,none⟩) 16 16) rfl (by kernel_rfl) rfl (fun W _=>by go_simp) hm ?_
  go_simp
  refine aG 1 (v:=.string (strOf G)) rfl (by kernel_rfl) rfl (fun W hW=>aA ai aL aR _ rfl (aB (Mem.get hW 0 rfl) HGL.out (Nat.le_refl _))) hm ?_
  go_simp
  refine aG 2 (v:=.slice (some ⟨b,off,none⟩) (n+16) cap) rfl (by kernel_rfl) rfl (fun W _=>by go_simp) hm ?_
  go_simp
  refine aG 3 (v:=.int .i64 (n:Int)) rfl (by kernel_rfl) rfl (fun W _=>by go_simp) hm ?_
  go_simp
  refine aG 4 (v:=.slice (some ⟨b,off+n,none⟩) 16 (cap - n)) rfl (by kernel_rfl) rfl (fun W _=>cV ai av n 16 (by omega) (by omega) (by omega) rfl rfl rfl) hm ?_
  go_simp
  refine aG 5 (v:=.string (strOf D)) rfl (by kernel_rfl) rfl (fun W hW=>aA ai aL aR _ rfl (HDS.out _ (Seg.mem HSG.out hW (by simp)))) hm ?_
  go_simp
  refine aG 6 (v:=.bool true) rfl (by kernel_rfl) rfl (fun W _=>ja _ _ _ rfl rfl HNE.out) hm ?_
  go_simp
  refine wpAnyH_done (by kernel_rfl) ?_ _
  simp only [endsIn]
  go_wp2_with fail
  refine bodyPost_ret (results_tmp2 Tryz.results46 _ _ _) rfl ?_
  exact ⟨rfl,hm.below⟩
 ·refine aQ 7 rfl rfl ?_
  intro K hK
  refine ae _ dC hm ?_
  clear hm
  intro wa g11 hm
  refine wpList_nil ?_
  refine hK _ _ hm.tail ?_
  clear hK K
  refine aP 6 (by kernel_rfl) rfl rfl ?_
  intro K hK
  go_wp2_with (go_at_call 81;refine (gY ks ns ds T _ _ HKL.out HNL.out HKB.out HNB.out HDB.out HTB.out hal (by rw [HTL.out];exact hnl2) _ (SlOld.mem HA.out hm) (HTS.out _ (Seg.mem HSG.out hm (by simp)))).mono ?_;rintro e wt ⟨he,hb⟩;rw [HGG.out ()] at he;subst he;replace hm:=hm.call hb;clear hb)
  refine hK _ _ hm.tail ?_
  clear hK K
  refine aP 8 (by kernel_rfl) rfl rfl ?_
  intro K hK
  refine af 0 (u8s G) hm rfl rfl rfl 16 bV (by simp [ab]) HGU.out (aj _) ?_
  clear hm
  intro wz hm
  refine wpList_nil ?_
  refine hK _ _ hm.tail ?_
  clear hK K
  refine wpAnyH_done (by kernel_rfl) ?_ _
  simp only [endsIn]
  go_wp2_with fail
  refine ar ?_
  refine am (T:=fun W=>Mem w [] W [(g11,u8s G,153),(g5,u8s ns,113),(g4,u8s ks,61)]) (by kernel_rfl) hm ?_
  clear hm
  intro w4 hm
  refine aG 0 (v:=.slice (some ⟨g11,0,none⟩) 16 16) rfl (by kernel_rfl) rfl (fun W _=>by go_simp) hm ?_
  go_simp
  refine aG 1 (v:=.string (strOf G)) rfl (by kernel_rfl) rfl (fun W hW=>aA ai aL aR _ rfl (aB (Mem.get hW 0 rfl) HGL.out (Nat.le_refl _))) hm ?_
  go_simp
  refine aG 2 (v:=.slice (some ⟨b,off,none⟩) (n+16) cap) rfl (by kernel_rfl) rfl (fun W _=>by go_simp) hm ?_
  go_simp
  refine aG 3 (v:=.int .i64 (n:Int)) rfl (by kernel_rfl) rfl (fun W _=>by go_simp) hm ?_
  go_simp
  refine aG 4 (v:=.slice (some ⟨b,off+n,none⟩) 16 (cap - n)) rfl (by kernel_rfl) rfl (fun W _=>cV ai av n 16 (by omega) (by omega) (by omega) rfl rfl rfl) hm ?_
  go_simp
  refine aG 5 (v:=.string (strOf D)) rfl (by kernel_rfl) rfl (fun W hW=>aA ai aL aR _ rfl (HDS.out _ (Seg.mem HSG.out hW (by simp)))) hm ?_
  go_simp
  refine aG 6 (v:=.bool true) rfl (by kernel_rfl) rfl (fun W _=>ja _ _ _ rfl rfl HNE.out) hm ?_
  go_simp
  refine wpAnyH_done (by kernel_rfl) ?_ _
  simp only [endsIn]
  go_wp2_with fail
  refine bodyPost_ret (results_tmp2 Tryz.results46 _ _ _) rfl ?_
  exact ⟨rfl,hm.below⟩
theorem nv (ks ns bs:List Int) (va vb:Value) (hbl:bs.length<16) (w:World) (hvb:SlOld w vb bs) :
  Calls Tryz.prog 46 #[.agg (u8s ks).toArray,.agg (u8s ns).toArray,va,vb] w fun e w'=>e=.returned (.tuple #[.slice none 0 0,.int .i64 10])∧Below w.heap.size w w':=by
 obtain ⟨pb,cb,rfl,_⟩:=hvb.len
 have hm:=Mem.start w
 have hi:(bs.length:Int) - 16<0:=by omega
 clear hvb
 go_enter Tryz.func46,Tryz.ntmps46
 go_wp2_with (first
  | ((with_reducible refine aa (some 4) (.box 61 (.tmp 0)) ?_);refine ak (u8s ks) rfl hm ?_;clear hm;intro w1 g4 hm)
  | ((with_reducible refine aa (some 5) (.box 113 (.tmp 1)) ?_);refine ak (u8s ns) rfl hm ?_;clear hm;intro w2 g5 hm))
 refine bodyPost_ret (results_tmp2 Tryz.results46 _ _ _) rfl ?_
 exact ⟨rfl,hm.below⟩
theorem d6 (ks ns ds bs:List Int) (va vb:Value) (hkl:ks.length=32) (hnl:ns.length=12) (hkb:Bytes ks) (hnb:Bytes ns) (hdb:Bytes ds) (hbb:Bytes bs) (hal:ds.length≤20000) (hbl:bs.length≤20000) (w:World) (hva:SlOld w va ds) (hvb:SlOld w vb bs) :
  Calls Tryz.prog 46 #[.agg (u8s ks).toArray,.agg (u8s ns).toArray,va,vb] w fun e w'=>∃v',e=.returned (.tuple #[v',.int .i64 (openCode ks ns ds bs)])∧OwnB 5 w' w.heap.size v' (openOf ks ns ds bs)∧Below w.heap.size w w':=by
 by_cases h16:bs.length<16
 ·refine (nv ks ns bs va vb h16 w hvb).mono ?_
  rintro e w' ⟨he,hb⟩
  refine ⟨.slice none 0 0,?_,?_,hb⟩
  ·rw [he,openCode,if_pos h16]
  ·rw [openOf,if_pos h16]
   exact OwnB.nil _ _ _
 ·obtain ⟨n,hn⟩:∃n,bs.length=n+16:=⟨bs.length - 16,by omega⟩
  obtain ⟨b,off,cap,rfl,hcap,hseg⟩:=hvb.some (by omega)
  have hd:bs.length - 16=n:=by omega
  by_cases hf:bs.drop n=tagOf ks ns ds (bs.take n)
  ·have hfit:fits ks ns ds bs=true:=by unfold fits;rw [hd];exact decide_eq_true hf
   rw [hn] at hcap ⊢
   refine (openRef_good ks ns ds bs va b off cap n hn hcap hf hkl hnl hkb hnb hdb hbb hal hbl w hva hseg).mono ?_
   rintro e w' ⟨v',he,ho,hb⟩
   refine ⟨v',?_,?_,hb⟩
   ·rw [he,openCode,if_neg h16,if_pos hfit]
   ·rw [openOf,if_neg h16,if_pos hfit,hd]
    exact ho
  ·have hfit:fits ks ns ds bs=false:=by unfold fits;rw [hd];exact decide_eq_false hf
   rw [hn] at hcap ⊢
   refine (openRef_bad ks ns ds bs va b off cap n hn hcap hf hkl hnl hkb hnb hdb hbb hal hbl w hva hseg).mono ?_
   rintro e w' ⟨he,hb⟩
   refine ⟨.slice none 0 0,?_,?_,hb⟩
   ·rw [he,openCode,if_neg h16,hfit]
    rfl
   ·rw [openOf,if_neg h16,hfit]
    exact OwnB.nil _ _ _
open Go Go.RowKit Go.Maps
theorem getR8_good (cs:List Int) (p:Option Addr) (N cap:Nat) (hN:cs.length=N) (h:8≤N) (hcb:Bytes cs) (w:World) (hv:SlOld w (.slice p N cap) cs) :
  Calls Tryz.prog 44 #[.slice p N cap,.int .i64 8] w fun e w'=>e=.returned (.tuple #[.int .u64 (numL (cs.take 8)),.slice (cutLo p cap 8) (N - 8) (cap - 8),.bool true])∧Below w.heap.size w w':=by
 have hi:¬(N:Int)<8:=by omega
 obtain ⟨hNN,hcap,hs⟩:=hv.src0
 obtain ⟨b,off,rfl,hseg⟩:=hs (by omega)
 have HB:Hid (Bytes cs):=hcb
 have HSG:Hid (Seg w b off cs):=hseg
 have HN:Hid (cs.length=N):=hN
 clear hs hcb hseg hv hNN hN
 go_enter Tryz.func44,Tryz.ntmps44
 go_wp2_with fail
 go_loopw [8,9] (fun vx vi wr=>∃k:Nat,k≤8∧vx=.int .u64 (numL (cs.take k))∧vi=.int .i64 (k:Int)∧wr=w) (fun _ vi _=>8 - (RowKit.intOf vi).toNat)
 case atStart=>exact ⟨0,by omega,rfl,rfl,rfl⟩
 case round =>
  obtain ⟨k,hk,rfl,rfl,rfl⟩:=hrel
  by_cases hlt:k<8
  ·have hki:(k:Int)<8:=by omega
   have hkn:(k:Int)<(N:Int):=by omega
   have hlc:k<cs.length:=by rw [HN.out];omega
   have hc:=HSG.out k hlc
   have hb1:=Bytes.get HB.out k
   have hb2:Bytes (cs.take k):=Bytes.take HB.out k
   have h1:=bH hb2
   have h2:=eD hb2
   have h3:(256:Int) ^ (cs.take k).length≤256 ^ 7:=by
    rw [List.length_take,Nat.min_eq_left (by omega)]
    exact (show ∀k:Nat,k<8→(256:Int) ^ k≤256 ^ 7 by decide) k (by omega)
   have h4:numL (cs.take k)<72057594037927936:=by
    have:(256:Int) ^ 7=72057594037927936:=by decide
    omega
   have HNX:Hid (numL (cs.take (k+1))=Go.bits .or .u64 (numL (cs.take k) * 256) (cs.getD k 0)):=by
    show _=_
    rw [gh cs k hlc,or_next ⟨h1,h4⟩ hb1]
   obtain ⟨x,hx⟩:∃x,x=numL (cs.take k):=⟨_,rfl⟩
   obtain ⟨c,hcc⟩:∃c,c=cs.getD k 0:=⟨_,rfl⟩
   rw [←hx] at h1 h4 HNX ⊢
   rw [←hcc] at hc hb1 HNX
   obtain ⟨hb10,hb11⟩:=hb1
   clear h2 h3 hx hcc hb2
   go_wp2_with fail
   go_roundw
   case rel=>exact ⟨k+1,by omega,by rw [HNX.out],by go_num,trivial⟩
   case measure=>simp [RowKit.intOf];omega
  ·have hkn:k=8:=by omega
   subst hkn
   obtain ⟨X,hX⟩:∃X,X=numL (cs.take 8):=⟨_,rfl⟩
   have HX:Hid (∀_:Unit,numL (cs.take 8)=X):=fun _=>hX.symm
   rw [←hX]
   clear hX
   have hm:=Mem.start wr
   have hni:¬((8:Nat):Int)<8:=by omega
   go_wp2_with fail
   refine ar ?_
   refine am (T:=fun W=>Mem wr [] W []) (by kernel_rfl) hm ?_
   clear hm
   intro wz hm
   refine aT 0 (v:=.int .u64 X) rfl (by kernel_rfl) rfl (fun W _=>by go_simp) hm ?_
   go_simp
   refine aT 1 (v:=.slice (some ⟨b,off,none⟩) N cap) rfl (by kernel_rfl) rfl (fun W _=>by go_simp) hm ?_
   go_simp
   refine aT 2 (v:=.int .i64 8) rfl (by kernel_rfl) rfl (fun W _=>by go_simp<;>rfl) hm ?_
   go_simp
   refine aT 3 (v:=.slice (cutLo (some ⟨b,off,none⟩) cap 8) (N - 8) (cap - 8)) rfl (by kernel_rfl) rfl (fun W _=>dx ai av 8 h rfl rfl rfl) hm ?_
   go_simp
   refine aT 4 (v:=.int .u64 X) rfl (by kernel_rfl) rfl (fun W _=>by go_simp) hm ?_
   go_simp
   refine aT 5 (v:=.slice (cutLo (some ⟨b,off,none⟩) cap 8) (N - 8) (cap - 8)) rfl (by kernel_rfl) rfl (fun W _=>by go_simp) hm ?_
   go_simp
   refine aT 6 (v:=.bool true) rfl (by kernel_rfl) rfl (fun W _=>by go_simp) hm ?_
   go_simp
   refine wpAnyH_done (by kernel_rfl) ?_ _
   simp only [endsIn]
   go_wp2_with fail
   go_ret3
   exact ⟨by rw [HX.out ()];rfl,hm.below⟩
theorem getR2_good (cs:List Int) (p:Option Addr) (N cap:Nat) (hN:cs.length=N) (h:2≤N) (hcb:Bytes cs) (w:World) (hv:SlOld w (.slice p N cap) cs) :
  Calls Tryz.prog 44 #[.slice p N cap,.int .i64 2] w fun e w'=>e=.returned (.tuple #[.int .u64 (numL (cs.take 2)),.slice (cutLo p cap 2) (N - 2) (cap - 2),.bool true])∧Below w.heap.size w w':=by
 have hi:¬(N:Int)<2:=by omega
 obtain ⟨hNN,hcap,hs⟩:=hv.src0
 obtain ⟨b,off,rfl,hseg⟩:=hs (by omega)
 have HB:Hid (Bytes cs):=hcb
 have HSG:Hid (Seg w b off cs):=hseg
 have HN:Hid (cs.length=N):=hN
 clear hs hcb hseg hv hNN hN
 go_enter Tryz.func44,Tryz.ntmps44
 go_wp2_with fail
 go_loopw [8,9] (fun vx vi wr=>∃k:Nat,k≤2∧vx=.int .u64 (numL (cs.take k))∧vi=.int .i64 (k:Int)∧wr=w) (fun _ vi _=>2 - (RowKit.intOf vi).toNat)
 case atStart=>exact ⟨0,by omega,rfl,rfl,rfl⟩
 case round =>
  obtain ⟨k,hk,rfl,rfl,rfl⟩:=hrel
  by_cases hlt:k<2
  ·have hki:(k:Int)<2:=by omega
   have hkn:(k:Int)<(N:Int):=by omega
   have hlc:k<cs.length:=by rw [HN.out];omega
   have hc:=HSG.out k hlc
   have hb1:=Bytes.get HB.out k
   have hb2:Bytes (cs.take k):=Bytes.take HB.out k
   have h1:=bH hb2
   have h2:=eD hb2
   have h3:(256:Int) ^ (cs.take k).length≤256 ^ 7:=by
    rw [List.length_take,Nat.min_eq_left (by omega)]
    exact (show ∀k:Nat,k<8→(256:Int) ^ k≤256 ^ 7 by decide) k (by omega)
   have h4:numL (cs.take k)<72057594037927936:=by
    have:(256:Int) ^ 7=72057594037927936:=by decide
    omega
   have HNX:Hid (numL (cs.take (k+1))=Go.bits .or .u64 (numL (cs.take k) * 256) (cs.getD k 0)):=by
    show _=_
    rw [gh cs k hlc,or_next ⟨h1,h4⟩ hb1]
   obtain ⟨x,hx⟩:∃x,x=numL (cs.take k):=⟨_,rfl⟩
   obtain ⟨c,hcc⟩:∃c,c=cs.getD k 0:=⟨_,rfl⟩
   rw [←hx] at h1 h4 HNX ⊢
   rw [←hcc] at hc hb1 HNX
   obtain ⟨hb10,hb11⟩:=hb1
   clear h2 h3 hx hcc hb2
   go_wp2_with fail
   go_roundw
   case rel=>exact ⟨k+1,by omega,by rw [HNX.out],by go_num,trivial⟩
   case measure=>simp [RowKit.intOf];omega
  ·have hkn:k=2:=by omega
   subst hkn
   obtain ⟨X,hX⟩:∃X,X=numL (cs.take 2):=⟨_,rfl⟩
   have HX:Hid (∀_:Unit,numL (cs.take 2)=X):=fun _=>hX.symm
   rw [←hX]
   clear hX
   have hm:=Mem.start wr
   have hni:¬((2:Nat):Int)<2:=by omega
   go_wp2_with fail
   refine ar ?_
   refine am (T:=fun W=>Mem wr [] W []) (by kernel_rfl) hm ?_
   clear hm
   intro wz hm
   refine aT 0 (v:=.int .u64 X) rfl (by kernel_rfl) rfl (fun W _=>by go_simp) hm ?_
   go_simp
   refine aT 1 (v:=.slice (some ⟨b,off,none⟩) N cap) rfl (by kernel_rfl) rfl (fun W _=>by go_simp) hm ?_
   go_simp
   refine aT 2 (v:=.int .i64 2) rfl (by kernel_rfl) rfl (fun W _=>by go_simp<;>rfl) hm ?_
   go_simp
   refine aT 3 (v:=.slice (cutLo (some ⟨b,off,none⟩) cap 2) (N - 2) (cap - 2)) rfl (by kernel_rfl) rfl (fun W _=>dx ai av 2 h rfl rfl rfl) hm ?_
   go_simp
   refine aT 4 (v:=.int .u64 X) rfl (by kernel_rfl) rfl (fun W _=>by go_simp) hm ?_
   go_simp
   refine aT 5 (v:=.slice (cutLo (some ⟨b,off,none⟩) cap 2) (N - 2) (cap - 2)) rfl (by kernel_rfl) rfl (fun W _=>by go_simp) hm ?_
   go_simp
   refine aT 6 (v:=.bool true) rfl (by kernel_rfl) rfl (fun W _=>by go_simp) hm ?_
   go_simp
   refine wpAnyH_done (by kernel_rfl) ?_ _
   simp only [endsIn]
   go_wp2_with fail
   go_ret3
   exact ⟨by rw [HX.out ()];rfl,hm.below⟩
theorem get8_ok (cs:List Int) (p:Option Addr) (N cap:Nat) (hN:cs.length=N) (h:8≤N) (hcb:Bytes cs) (w:World) (hv:SlOld w (.slice p N cap) cs) :
  Calls Tryz.prog 44 #[.slice p N cap,.int .i64 8] w fun e w'=>∃v,e=.returned (.tuple #[.int .u64 (numL (cs.take 8)),v,.bool true])∧Below w.heap.size w w' :=
 (getR8_good cs p N cap hN h hcb w hv).mono (fun _ _ h=>⟨_,h.1,h.2⟩)
theorem i5 (cs:List Int) (p:Option Addr) (cap:Nat) (hN:cs.length=482) (hcb:Bytes cs) (w:World) (hv:SlOld w (.slice p 482 cap) cs) :
  Calls Tryz.prog 44 #[.slice p 482 cap,.int .i64 2] w fun e w'=>∃p' c',e=.returned (.tuple #[.int .u64 (numL (cs.take 2)),.slice p' 480 c',.bool true])∧480≤c'∧SlOld w' (.slice p' 480 c') (cs.drop 2)∧Below w.heap.size w w':=by
 refine (getR2_good cs p 482 cap hN (by omega) hcb w hv).mono ?_
 rintro e w' ⟨he,hb⟩
 have h2:=hv
 obtain ⟨hNN,hcap,hs⟩:=h2.src0
 exact ⟨_,_,he,by omega,old_lo (SlOld.below hv hb) 2 (by omega),hb⟩
theorem jx (g mb:Nat) (kv:Value) (d:Dk) (x:Nat) (hoff:d.off=false) (hx:32+8 * x+8≤d.n) (hxl:x≤400) (w:World) (hd:DkAt w g mb kv d) :
  Calls Tryz.prog 11 #[.pointer (some ⟨g,0,none⟩),.int .u32 (x:Int)] w fun e w'=>∃v,e=.returned (.tuple #[v,.bool true])∧OwnB 5 w' w.heap.size v (secs d.now (32+8 * x) 8)∧Below w.heap.size w w':=by
 have HD:Hid _:=hd
 have hm:=Mem.start w
 have HL:Hid (∀k,k≤8→(secs d.now (32+8 * x) k).length=k * 64):=fun k hk=>bL (fun i hi=>hd.ok.now (by omega))
 clear hd
 go_enter Tryz.func11,Tryz.ntmps11
 go_wp2_with fail
 go_loopw [6,7] (fun vb vk wr=>∃(k:Nat) (v:Value),v=vb∧k≤8∧vk=.int .i64 (k:Int)∧OwnB 5 wr w.heap.size v (secs d.now (32+8 * x) k)∧Mem w [] wr []) (fun _ vk _=>8 - (RowKit.intOf vk).toNat)
 case atStart=>exact ⟨0,_,rfl,by omega,rfl,OwnB.nil _ _ _,hm⟩
 case round =>
  clear hm
  obtain ⟨k,v,hv,hk,rfl,ho,hm⟩:=hrel
  subst hv
  have HO:Hid (OwnB 5 wr w.heap.size v (secs d.now (32+8 * x) k)):=ho
  clear ho
  by_cases hlt:k<8
  ·have hlt2:(k:Int)<8:=by omega
   have HNL:Hid ((d.now (32+8 * x+k)).length=64):=HD.out.ok.now (by omega)
   go_wp2_with (first
    | (go_at_call 12;refine (kO g mb kv d (32+8 * x+k) hoff (by omega) _ (HD.out.mem hm)).mono ?_;rintro e w2 ⟨q,rfl,hq,hr,hb⟩;have HO':=OwnB.below HO.out hb;have hm':=hm.callNew hb hr hq;clear hm HO hb hr hq;have hm:=hm';have HO:Hid (OwnB 5 w2 w.heap.size v (secs d.now (32+8 * x) k)):=HO';clear HO' hm')
    | ((with_reducible refine aa (some 29) (.call {callee:=.builtin .append,args:=#[.tmp 27,.tmp 28],argTypes:=#[22,22]}) ?_);go_must (refine a6 rfl ai aD (d.now (32+8 * x+k)) hm HO.out (by intro r hr;simp only [List.mem_cons,List.not_mem_nil,or_false] at hr;subst hr;simp) rfl rfl (by rw [HNL.out]) (fun _=>⟨_,0,rfl,Seg.row (hm.get 0 rfl)⟩) (by rw [HL.out k hk,HNL.out];omega) ?_);clear hm;intro v3 w3 ho hm;have HO4:Hid (OwnB 5 w3 w.heap.size v3 (secs d.now (32+8 * x) (k+1))):=ho;clear ho))
   go_roundw
   case rel=>exact ⟨k+1,_,rfl,by omega,by go_num,HO4.out,hm.tail⟩
   case measure=>simp [RowKit.intOf];omega
  ·have hk2:¬((k:Int)<8):=by omega
   have hkn:k=8:=by omega
   have HOF:Hid (OwnB 5 wr w.heap.size v (secs d.now (32+8 * x) 8)):=by have h9:=HO.out;rw [hkn] at h9;exact h9
   clear hkn HO
   go_wp2_with fail
   go_ret2
   exact ⟨_,rfl,HOF.out,hm.below⟩
end Go.Proofs.YtdkkdkgdaambiaaGreatDoor
