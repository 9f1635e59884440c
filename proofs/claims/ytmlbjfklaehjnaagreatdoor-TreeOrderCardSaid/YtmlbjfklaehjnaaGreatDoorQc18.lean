import Derived.Test.YtmlbjfklaehjnaaGreatDoorQc16
import Derived.Test.YtmlbjfklaehjnaaGreatDoorQc17
set_option maxRecDepth 100000
set_option maxHeartbeats 4000000
namespace Go.Proofs.YtmlbjfklaehjnaaGreatDoor
open Go Go.RowKit Go.Maps
theorem built_blk (l:Int) (v:Bool) (r:Int) (s:ByteArray) (m:Option Nat):Tryz.prog.built 120 [(0,.int .u64 l),(1,.bool v),(2,.agg (supC r s (.map m)).toArray)]=some (blC ⟨l,v,r,s,m⟩).toArray:=by rfl
theorem built_blk0 (l:Int):Tryz.prog.built 120 [(0,.int .u64 l)]=some (blC ⟨l,false,0,{data:=#[]},none⟩).toArray:=by rfl
structure BlkIs (w:World) (base:Nat) (kS kN:List Int) (pg:Nat) (A:List Int) (at_:Nat) (b:Bk):Prop where
 l:b.l=limitAt (place A at_)
 v:b.v=validN kS kN pg (place A at_) (A.drop 299)
 r:0≤b.r∧b.r<4294967296
 s:b.s.size≤200
 st:∃q:Sts,StV w (.map b.m) q∧(b.v=true→b.r=rootAt kS (place A at_)∧b.s=strOf (metaAt kS (place A at_))∧q=statesN pg (limitAt (place A at_)) (marksAt kS (place A at_)) (A.drop 299))
 new:∀m,b.m=some m→base≤m
section
variable {w w':World} {base pg at_:Nat} {kS kN A:List Int} {b:Bk}
theorem BlkIs.below (h:BlkIs w base kS kN pg A at_ b) (hb:Below w.heap.size w w'):BlkIs w' base kS kN pg A at_ b:=by
 obtain ⟨q,h1,h2⟩:=h.st
 exact ⟨h.l,h.v,h.r,h.s,⟨q,h1.below hb,h2⟩,h.new⟩
theorem BlkIs.mono {base':Nat} (h:BlkIs w base kS kN pg A at_ b) (hb:base'≤base):BlkIs w base' kS kN pg A at_ b:=⟨h.l,h.v,h.r,h.s,h.st,fun m hm=>Nat.le_trans hb (h.new m hm)⟩
theorem StV.updRow {g:Nat} {l:List Value} {t:TypeId} {mv:Value} {p:Sts} (h:StV w mv p) (hr:Row w g l t) (hu:Upd g w w'):StV w' mv p:=by
 rcases h with h|⟨m,rfl,h⟩
 ·exact Or.inl h
 ·obtain ⟨es,c,hmp⟩:=h.isMap
  exact Or.inr ⟨m,rfl,h.upd hu (ax hr hmp)⟩
theorem BlkIs.updRow {g:Nat} {l:List Value} {t:TypeId} (h:BlkIs w base kS kN pg A at_ b) (hr:Row w g l t) (hu:Upd g w w'):BlkIs w' base kS kN pg A at_ b:=by
 obtain ⟨q,h1,h2⟩:=h.st
 exact ⟨h.l,h.v,h.r,h.s,⟨q,h1.updRow hr hu,h2⟩,h.new⟩
theorem BlkIs.updS {L:List Nat} (h:BlkIs w base kS kN pg A at_ b) (hu:UpdS L w w') (hL:∀k∈L,k<base):BlkIs w' base kS kN pg A at_ b:=by
 obtain ⟨q,h1,h2⟩:=h.st
 refine ⟨h.l,h.v,h.r,h.s,⟨q,?_,h2⟩,h.new⟩
 rcases h1 with h1|⟨m,hm,h1⟩
 ·exact Or.inl h1
 ·refine Or.inr ⟨m,hm,h1.updS hu (fun hh=>?_)⟩
  have h3:=hL m hh
  have h4:=h.new m (by simpa using hm)
  omega
end
theorem Mem.perm {w0 w:World} {S:List Nat} {rows rows':List (Nat×List Value×TypeId)} (hm:Mem w0 S w rows) (hp:rows.Perm rows'):Mem w0 S w rows' :=
 ⟨hm.os,hm.tape,hm.output,hm.size,hm.block,fun r hr=>hm.row r (hp.mem_iff.2 hr),((hp.map Prod.fst).nodup_iff).1 hm.nodup,fun r hr=>hm.fresh r (hp.mem_iff.2 hr)⟩
theorem metaL_size (cs:List Int):(strOf (metaL cs)).size≤200:=by
 have h1:(metaL cs).length≤200:=by
  unfold metaL
  split
  ·rw [List.length_take];omega
  ·simp
 have h2:(strOf (metaL cs)).size=(metaL cs).length:=fI _
 omega
theorem block_good (K1 K2 K3 A:List Int) (pages at_ b off cap:Nat) (hl1:K1.length=32) (hl2:K2.length=32) (hl3:K3.length=32) (hkb:Bytes K2) (hkc:Bytes K3) (hp:pages≤400) (hat:at_<2) (hal:A.length=2048) (hab:Bytes A) (hcap:2048≤cap) (hok:opensN K2 pages (place A at_)=true) (w:World) (ht:Tab w) (hq:QTab w) (hs:Seg w b off A) :
  Calls Tryz.prog 113 #[.agg (u8s (K1++(K2++K3))).toArray,.int .i64 (pages:Int),.slice (some ⟨b,off,none⟩) 2048 cap,.int .i64 (at_:Int)] w fun e w'=>∃k,e=.returned (.agg (blC k).toArray)∧BlkIs w' w.heap.size K2 K3 pages A at_ k∧Below w.heap.size w w':=by
 have HT:Hid (Tab w):=ht
 have HQ:Hid (QTab w):=hq
 have HKB:Hid (Bytes K2):=hkb
 have HKC:Hid (Bytes K3):=hkc
 obtain ⟨KS,hKS⟩:∃KS,KS=K1++(K2++K3):=⟨_,rfl⟩
 have lK:∀K:List Int,K.length=32→(u8s K).length=32:=fun K h=>by rw [ab,h]
 have hKE:u8s KS=u8s K1++(u8s K2++u8s K3):=by rw [hKS];simp [u8s]
 have HKU:Hid ((u8s KS).length=96):=by show _=_;rw [hKE];simp [lK K1 hl1,lK K2 hl2,lK K3 hl3]
 have HK2:Hid (((u8s KS).drop 32).take 32=u8s K2):=by
  show _=_
  rw [hKE,List.drop_append,List.drop_of_length_le (by rw [lK K1 hl1];omega),List.nil_append,lK K1 hl1,Nat.sub_self,List.drop_zero,List.take_append_of_le_length (by rw [lK K2 hl2];omega),List.take_of_length_le (by rw [lK K2 hl2];omega)]
 have HK3:Hid (KS.drop 64=K3):=by
  show _=_
  rw [hKS,←List.append_assoc,List.drop_append,List.drop_of_length_le (by simp [hl1,hl2]),List.nil_append,show 64 - (K1++K2).length=0 by simp [hl1,hl2],List.drop_zero]
 have HKE:Hid (∀_:Unit,K1++(K2++K3)=KS):=fun _=>hKS.symm
 obtain ⟨o,ho⟩:∃o:Nat,o=1749 * at_:=⟨_,rfl⟩
 have hob:o≤1749:=by omega
 have HO:Hid (∀_:Unit,1749 * at_=o):=fun _=>ho.symm
 obtain ⟨B,hB⟩:∃B,B=place A at_:=⟨_,rfl⟩
 have HBP:Hid (∀_:Unit,place A at_=B):=fun _=>hB.symm
 have HBL:Hid (B.length=299):=by rw [hB];exact cn hal hat
 have hbb:Bytes B:=by rw [hB];exact g0 hab _
 obtain ⟨o1,ho1⟩:∃z:Nat,z=off+o:=⟨_,rfl⟩
 obtain ⟨M,hM⟩:∃z:Nat,z=2048 - o:=⟨_,rfl⟩
 obtain ⟨c1,hc1⟩:∃z:Nat,z=cap - o:=⟨_,rfl⟩
 have hc1b:299≤c1:=by omega
 have HO1:Hid (off+o=o1):=ho1.symm
 have HM:Hid (2048 - o=M):=hM.symm
 have HC1:Hid (cap - o=c1):=hc1.symm
 have hsB:Seg w b o1 B:=by rw [ho1,hB,ho];exact (hs.drop (1749 * at_)).take 299
 have HSB:Hid (Seg w b o1 B):=hsB
 obtain ⟨table,htab⟩:∃z,z=A.drop 299:=⟨_,rfl⟩
 have HTE:Hid (∀_:Unit,A.drop 299=table):=fun _=>htab.symm
 have HTL:Hid (table.length=1749):=by show _=_;rw [htab,List.length_drop,hal]
 have HTB:Hid (Bytes table):=by rw [htab];exact hab.drop 299
 have HTS:Hid (Seg w b (off+299) table):=by rw [htab];exact hs.drop 299
 obtain ⟨X,hX⟩:∃X,X=limitAt B:=⟨_,rfl⟩
 have HX8:Hid ((B.take 8).length=8):=by show _=_;rw [List.length_take,HBL.out];rfl
 have HXE:Hid (∀_:Unit,numL ((B.take 8).take 8)=X):=fun _=>by rw [hX,List.take_take];rfl
 have HX8B:Hid (Bytes (B.take 8)):=hbb.take 8
 obtain ⟨ns,hns⟩:∃ns,ns=nonceAt B:=⟨_,rfl⟩
 have HNE:Hid (∀_:Unit,(B.drop 8).take 12=ns):=fun _=>by rw [hns];rfl
 have HNL:Hid (ns.length=12):=by show _=_;rw [hns,nonceAt,List.length_take,List.length_drop,HBL.out];rfl
 have HNU:Hid ((u8s ns).length=12):=by show _=_;rw [ab,HNL.out]
 have HNB:Hid (Bytes ns):=by rw [hns];exact (Bytes.drop hbb 8).take 12
 obtain ⟨SB,hSB⟩:∃SB,SB=B.drop 20:=⟨_,rfl⟩
 have HSL:Hid (SB.length=263+16):=by show _=_;rw [hSB,List.length_drop,HBL.out]
 have HSBB:Hid (Bytes SB):=by rw [hSB];exact Bytes.drop hbb 20
 have HSS:Hid (Seg w b (o1+20) SB):=by rw [hSB];exact hsB.drop 20
 have HAB:Hid (Bytes (aadN pages X)):=fZ _ _
 have hm:=Mem.start w
 have HFT:Hid (SB.drop 263=tagOf K2 ns (aadN pages X) (SB.take 263)):=by
  show _=_
  unfold opensN fits at hok
  rw [←hB,←hSB,HSL.out,←hns,←hX] at hok
  exact of_decide_eq_true hok
 obtain ⟨TX,hTX⟩:∃TX,TX=encOf K2 ns (SB.take 263):=⟨_,rfl⟩
 have HTX:Hid (∀_:Unit,encOf K2 ns (SB.take 263)=TX):=fun _=>hTX.symm
 have hTB:TX=bodyAt K2 B:=by rw [hTX,hns,hSB];rfl
 have HTXL:Hid (TX.length=263):=by show _=_;rw [hTX,db,List.length_take,HSL.out];rfl
 have HTXB:Hid (Bytes TX):=by rw [hTX];exact e8 _ _ (Bytes.take HSBB.out _)
 obtain ⟨q,hqq⟩:∃q:Sts,q=statesN pages X ((TX.drop 4).take 50) table:=⟨_,rfl⟩
 have HQE:Hid (∀_:Unit,statesN pages X ((TX.drop 4).take 50) table=q):=fun _=>hqq.symm
 obtain ⟨N2,hN2⟩:∃z,z=nonN K3 pages X TX q:=⟨_,rfl⟩
 have HN2:Hid (∀_:Unit,nonN K3 pages X TX q=N2):=fun _=>hN2.symm
 have HN2L:Hid (N2.length=12):=by rw [hN2];exact ch _ _ _ _ _
 obtain ⟨V2,hV2⟩:∃z:Bool,z=decide (ns=N2):=⟨_,rfl⟩
 have HV2:Hid (decide (ns=N2)=V2):=hV2.symm
 obtain ⟨R,hR⟩:∃z,z=numL (TX.take 4):=⟨_,rfl⟩
 have HR:Hid (∀_:Unit,numL (TX.take 4)=R):=fun _=>hR.symm
 have HRB:Hid (0≤R∧R<4294967296):=by
  have h:=eX (Bytes.take HTXB.out 4)
  rw [List.length_take,HTXL.out,show min 4 263=4 from rfl,←hR] at h
  have h2:(256:Int) ^ 4=4294967296:=by decide
  have h3:=bL (Bytes.take HTXB.out 4)
  rw [←hR] at h3
  show _∧_
  omega
 obtain ⟨S,hS⟩:∃z,z=strOf (metaL (TX.drop 54)):=⟨_,rfl⟩
 have HSE:Hid (∀_:Unit,strOf (metaL (TX.drop 54))=S):=fun _=>hS.symm
 have HSZ:Hid (S.size≤200):=by rw [hS];exact metaL_size _
 have HFIN:Hid (∀W m,StM W m q→w.heap.size≤m→BlkIs W w.heap.size K2 K3 pages A at_ ⟨X,V2,R,S,some m⟩):=fun W m h1 h2=>by
  refine ⟨by rw [←hB];exact hX,?_,HRB.out,HSZ.out,⟨q,Or.inr ⟨m,rfl,h1⟩,fun _=>⟨?_,?_,?_⟩⟩,fun m' hm'=>?_⟩
  ·show V2=_
   unfold validN
   rw [hok,←hB,←htab,←hX,←hTB,←hqq,←hN2,←hns,hV2]
   rfl
  ·rw [←hB];show R=_;rw [hR,hTB];rfl
  ·rw [←hB];show S=_;rw [hS,hTB];rfl
  ·rw [←hB,←hX,←htab,hqq,hTB];rfl
  ·simp only [Option.some.injEq] at hm'
   omega
 rw [←hKS]
 clear ht hq hkb hkc hs hsB hbb hKS hKE lK ho hB ho1 hM hc1 htab hX hns hSB hok hal hab hTX hTB hqq hN2 hV2 hR hS
 go_enter Tryz.func113,Tryz.ntmps113
 go_wp2_with (first
  | ((with_reducible refine aa (some 4) (.box 108 (.tmp 0)) ?_);refine ak (u8s KS) rfl hm ?_;clear hm;intro w1 gk hm)
  | ((with_reducible refine aa (some 8) (.alloc 120) ?_);refine af _ bg hm ?_;clear hm;intro w2 gr hm)
  | (go_at_call 125;refine (fg at_ (by omega) _).mono ?_;rintro e w3 ⟨he,hw⟩;rw [HO.out ()] at he;subst he;replace hw:=hw.symm;subst hw)
  | ((with_reducible refine aa (some 20) (.slice 54 (.tmp 17) (some (.tmp 19)) none none) ?_);go_must (refine gg aq av o o1 M c1 HO1.out HM.out HC1.out (by omega) (by omega) rfl rfl rfl ?_))
  | ((with_reducible refine aa (some 21) (.slice 54 (.tmp 20) none (some (.const (.int .i64 299))) none) ?_);go_must (refine ae (.slice (some ⟨b,o1,none⟩) 299 c1) rfl (cy aq av 299 (by omega) rfl rfl rfl) ?_))
  | ((with_reducible refine aa (some 24) (.slice 54 (.tmp 23) none (some (.const (.int .i64 8))) none) ?_);go_must (refine ae (.slice (some ⟨b,o1,none⟩) 8 c1) rfl (cy aq av 8 (by omega) rfl rfl rfl) ?_))
  | (go_at_call 163;refine (fF (B.take 8) _ 8 HX8.out (by omega) (by omega) HX8B.out _ ⟨_,c1,by rw [HX8.out],by rw [HX8.out];omega,fun _=>⟨b,o1,rfl,(Seg.mem HSB.out hm (by simp)).take 8⟩⟩).mono ?_;rintro e w4 ⟨gz,he,hge,hrz,hb⟩;rw [HXE.out (),show (8 - 8:Nat)=0 from rfl] at he;subst he;replace hm:=hm.call hb;clear hb hrz hge)
  | ((with_reducible refine aa (some 30) (.slice 54 (.tmp 29) (some (.const (.int .i64 8))) (some (.const (.int .i64 20))) none) ?_);go_must (refine wpl_slh aq av 8 12 (by omega) (by omega) rfl rfl rfl rfl rfl ?_))
  | ((with_reducible refine aa (some 31) (.sliceToArrayPointer 210 (.tmp 30)) ?_);go_must (refine fV 12 bx (by omega) rfl ?_))
  | ((with_reducible refine aa (some 32) (.load 210 (.tmp 31)) ?_);go_must (refine ae (.agg (u8s ns).toArray) rfl (jK ns rfl (by rw [←HNE.out ()];exact ((Seg.mem HSB.out hm (by simp)).drop 8).take 12) _ bx rfl 12 bD HNL.out) ?_))
  | ((with_reducible refine aa (some 13) (.alloc 210) ?_);refine af _ gP hm ?_;clear hm;intro w5 gn hm)
  | ((with_reducible refine aa none (.store 210 (.tmp 13) (.tmp 32)) ?_);refine ag 0 (u8s ns) hm rfl rfl rfl 12 bD (by simp [ab]) (HNU.out) (ar _) ?_;clear hm;intro w6 hm))
 refine au ?_
 refine ap (T:=fun W=>Mem w [] W [(gn,u8s ns,210),(gr,blC bk0,120),(gk,u8s KS,108)]) (by kernel_rfl) hm ?_
 clear hm
 intro w7 hm
 refine aT 0 (v:=.pointer (some ⟨gk,32,none⟩)) rfl (by kernel_rfl) rfl (fun W _=>by go_simp) hm ?_
 go_simp
 refine aT 1 (v:=.agg (u8s K2).toArray) rfl (by kernel_rfl) rfl (fun W hW=>ao 32 (u8s K2) (hW.get 2 rfl) rfl _ a0 rfl 32 a9 (by rw [HKU.out];omega) HK2.out) hm ?_
 go_simp
 refine aT 2 (v:=.agg (u8s ns).toArray) rfl (by kernel_rfl) rfl (fun W hW=>ao 0 (u8s ns) (hW.get 0 rfl) rfl _ bx rfl 12 bD (by rw [HNU.out];omega) (by rw [List.drop_zero,List.take_of_length_le (Nat.le_of_eq HNU.out)])) hm ?_
 go_simp
 refine aT 3 (v:=.int .i64 (pages:Int)) rfl (by kernel_rfl) rfl (fun W _=>by go_simp) hm ?_
 go_simp
 refine aT 4 (v:=.int .u64 X) rfl (by kernel_rfl) rfl (fun W _=>by go_simp) hm ?_
 go_simp
 refine aT 6 (v:=.slice (some ⟨b,o1,none⟩) 299 c1) rfl (by kernel_rfl) rfl (fun W _=>by go_simp) hm ?_
 go_simp
 refine aT 7 (v:=.slice (some ⟨b,o1+20,none⟩) 279 (c1 - 20)) rfl (by kernel_rfl) rfl (fun W _=>dI (g:=b) (o:=o1) (len:=299) (cap:=c1) aq av 20 279 (by omega) (by omega) rfl rfl rfl rfl) hm ?_
 go_simp
 refine aO 5 (by kernel_rfl) rfl rfl ?_
 intro K hK
 go_wp2_with (go_at_call 124;refine (ew pages X hp _).mono ?_;rintro e wd ⟨ga,rfl,hge,hr,hb⟩;have HGA:Hid (Row wd ga (u8s (aadN pages X)) 5):=hr;replace hm:=hm.call hb;clear hb hr hge)
 refine hK _ _ hm ?_
 clear hK K
 refine aO 8 (by kernel_rfl) rfl rfl ?_
 intro K hK
 go_wp2_with (go_at_call 164;refine (iY K2 ns (aadN pages X) SB _ b (o1+20) (c1 - 20) 263 HSL.out (by omega) HFT.out hl2 HNL.out HKB.out HNB.out HAB.out HSBB.out (by rw [bU];omega) (by rw [HSL.out];omega) _ (Tab.mem HT.out hm (by simp)) (QTab.mem HQ.out hm (by simp)) (aE HGA.out (bU _ _) (Nat.le_refl _)) (Seg.mem HSS.out hm (by simp))).mono ?_;rintro e wo ⟨gx,he,hgx,hrx,hb⟩;subst he;rw [HTX.out ()] at hrx;have HXR:Hid (Row wo gx (u8s TX) 5):=hrx;replace hm:=hm.call hb;clear hb hrx hgx)
 refine hK _ _ hm ?_
 clear hK K
 refine aT 9 (v:=.tuple #[.slice (some ⟨gx,0,none⟩) 263 263,.int .i64 0]) rfl (by kernel_rfl) rfl (fun W _=>by go_simp) hm ?_
 go_simp
 refine aT 10 (v:=.slice (some ⟨gx,0,none⟩) 263 263) rfl (by kernel_rfl) rfl (fun W _=>by go_simp) hm ?_
 go_simp
 refine aT 11 (v:=.int .i64 0) rfl (by kernel_rfl) rfl (fun W _=>by go_simp) hm ?_
 go_simp
 refine aT 12 (v:=.slice (some ⟨gx,0,none⟩) 263 263) rfl (by kernel_rfl) rfl (fun W _=>by go_simp) hm ?_
 go_simp
 refine aT 13 (v:=.int .i64 0) rfl (by kernel_rfl) rfl (fun W _=>by go_simp) hm ?_
 go_simp
 refine wpAnyH_done (by kernel_rfl) ?_ _
 simp only [endsIn]
 go_wp2_with (first
  | ((with_reducible refine aa (some 53) (.slice 54 (.tmp 52) (some (.const (.int .i64 299))) none none) ?_);go_must (refine ae (.slice (some ⟨b,off+299,none⟩) 1749 (cap - 299)) rfl (dI (g:=b) (o:=off) (len:=2048) (cap:=cap) aq av 299 1749 (by omega) (by omega) rfl rfl rfl rfl) ?_))
  | (go_at_call 165;refine (superOf_any pages gx X TX table _ hp HTXL.out HTXB.out HTL.out HTB.out _ HXR.out ⟨_,cap - 299,by rw [HTL.out],by rw [HTL.out];omega,fun _=>⟨b,off+299,rfl,Seg.mem HTS.out hm (by simp)⟩⟩).mono ?_;rintro e w8 ⟨m,he,hge,hsm,hb⟩;rw [HR.out (),HSE.out ()] at he;rw [HQE.out ()] at hsm;subst he;have HSM:Hid (StM w8 m q):=hsm;have HMG:Hid (w.heap.size≤m):=Nat.le_trans hm.size hge;replace HXR:Hid (Row w8 gx (u8s TX) 5):=Row.below' HXR.out hb;replace hm:=hm.call hb;clear hb hsm hge)
  | ((with_reducible refine aa (some 16) (.alloc 106) ?_);refine az _ ir hm ?_;clear hm;intro w9 gu hb hm;replace HSM:Hid (StM w9 m q):=HSM.out.below hb;replace HXR:Hid (Row w9 gx (u8s TX) 5):=Row.below' HXR.out hb;clear hb)
  | ((with_reducible refine aa none (.store 106 (.tmp 16) (.tmp 54)) ?_);refine ag 0 (supC R S (.map (some m))) (Mem.enter (hm.get 0 rfl)) rfl rfl rfl 3 b8 rfl rfl (ed _ _ _) ?_;intro wA hq;replace HSM:Hid (StM wA m q):=(by obtain ⟨es,c,hmp⟩:=HSM.out.isMap;exact HSM.out.upd hq.toUpd (ax (hm.get 0 rfl) hmp));replace HXR:Hid (Row wA gx (u8s TX) 5):=hq.toUpd.row HXR.out (aQ HXR.out (hm.get 0 rfl) (by decide));replace hm:Mem w [] wA [(gu,supC R S (.map (some m)),106),(gn,u8s ns,210),(gr,blC bk0,120),(gk,u8s KS,108)]:=hm.upd 0 rfl hq.toUpd (hq.get 0 rfl);clear hq))
 replace hm:Mem w [] wA ((gr,blC bk0,120)::[(gu,supC R S (.map (some m)),106),(gn,u8s ns,210),(gk,u8s KS,108)]):=hm.perm (List.perm_middle (l₁:=[(gu,supC R S (.map (some m)),106),(gn,u8s ns,210)]))
 refine au ?_
 refine cL (T:=fun W=>Mem w [] W [(gu,supC R S (.map (some m)),106),(gn,u8s ns,210),(gk,u8s KS,108)]) (by kernel_rfl) hm ?_
 clear hm
 intro wB hb hm
 replace HSM:Hid (StM wB m q):=HSM.out.below hb
 replace HXR:Hid (Row wB gx (u8s TX) 5):=Row.below' HXR.out hb
 clear hb
 obtain ⟨fk,hfk⟩:=jq
 obtain ⟨fu,hfu⟩:=ep
 refine aT 0 (v:=.int .u64 X) rfl (by kernel_rfl) rfl (fun W _=>by go_simp) hm.tail ?_
 go_simp
 refine aT 1 (v:=.agg (u8s ns).toArray) rfl (by kernel_rfl) rfl (fun W hW=>ao 0 (u8s ns) (hW.get 1 rfl) rfl _ bx rfl 12 bD (by rw [HNU.out];omega) (by rw [List.drop_zero,List.take_of_length_le (Nat.le_of_eq HNU.out)])) hm.tail ?_
 go_simp
 refine aT 2 (v:=.agg (u8s KS).toArray) rfl (by kernel_rfl) rfl (fun W hW=>ao 0 (u8s KS) (hW.get 2 rfl) rfl _ hfk rfl 96 iu (by rw [HKU.out];omega) (by rw [List.drop_zero,List.take_of_length_le (Nat.le_of_eq HKU.out)])) hm.tail ?_
 go_simp
 refine aT 3 (v:=.int .i64 (pages:Int)) rfl (by kernel_rfl) rfl (fun W _=>by go_simp) hm.tail ?_
 go_simp
 refine aT 4 (v:=.int .u64 X) rfl (by kernel_rfl) rfl (fun W _=>by go_simp) hm.tail ?_
 go_simp
 refine aT 5 (v:=.slice (some ⟨gx,0,none⟩) 263 263) rfl (by kernel_rfl) rfl (fun W _=>by go_simp) hm.tail ?_
 go_simp
 refine aT 6 (v:=.pointer (some ⟨gu,2,none⟩)) rfl (by kernel_rfl) rfl (fun W _=>by go_simp) hm.tail ?_
 go_simp
 refine aT 7 (v:=.map (some m)) rfl (by kernel_rfl) rfl (fun W hW=>aF (.map (some m)) (((hW.get 0 rfl).cell 2).trans rfl) rfl cZ) hm.tail ?_
 go_simp
 refine aT 10 (v:=.agg (supC R S (.map (some m))).toArray) rfl (by kernel_rfl) rfl (fun W hW=>ao 0 (supC R S (.map (some m))) (hW.get 0 rfl) rfl _ hfu rfl 3 b8 (by show 0+3≤3;omega) rfl) hm.tail ?_
 go_simp
 refine aO 8 (by kernel_rfl) rfl rfl ?_
 intro K hK
 go_wp2_with (go_at_call 122;refine (i7 K1 K2 K3 KS TX (HKE.out ()) pages X _ (.map (some m)) q hl1 hl2 hl3 HKC.out hp HTXL.out HTXB.out _ (Tab.mem HT.out hm (by simp)) (aE HXR.out HTXL.out (Nat.le_refl _)) (Or.inr ⟨m,rfl,HSM.out⟩)).mono ?_;rintro e wC ⟨he,hb⟩;rw [HN2.out ()] at he;subst he;replace HSM:Hid (StM wC m q):=HSM.out.below hb;replace hm:=hm.call hb;clear hb)
 refine hK _ _ hm.tail ?_
 clear hK K
 refine aT 9 (v:=.bool V2) rfl (by kernel_rfl) rfl (fun W _=>exec_eqK 5 12 .u8 ns N2 V2 HV2.out rfl rfl bx cf av (by kernel_rfl) HNL.out HN2L.out) hm.tail ?_
 go_simp
 refine aT 11 (v:=.agg (blC ⟨X,V2,R,S,some m⟩).toArray) rfl (by kernel_rfl) rfl (fun W _=>fe _ _ (by first|rfl|simp [Act.eval]) (built_blk _ _ _ _ _)) hm.tail ?_
 go_simp
 refine aO 12 (by kernel_rfl) rfl rfl ?_
 intro K hK
 refine ag 0 (blC ⟨X,V2,R,S,some m⟩) (Mem.enter (hm.get 0 rfl)) rfl rfl rfl 5 aN rfl rfl (bz _) ?_
 intro wz hq
 have HSZ2:Hid (StM wz m q):=(by obtain ⟨es,c,hmp⟩:=HSM.out.isMap;exact HSM.out.upd hq.toUpd (ax (hm.get 0 rfl) hmp))
 replace hm:=hm.upd 0 rfl hq.toUpd (hq.get 0 rfl)
 clear hq
 refine wpList_nil ?_
 refine hK _ _ hm.tail ?_
 clear hK K
 refine wpAnyH_done (by kernel_rfl) ?_ _
 simp only [endsIn]
 go_wp2_with fail
 obtain ⟨fs,hfs⟩:=un_blk
 exact ay 0 hm rfl Tryz.results113 rfl _ hfs rfl 5 aN rfl rfl ⟨_,rfl,HFIN.out _ m HSZ2.out HMG.out,hm.below⟩
theorem block_bad (K1 K2 K3 A:List Int) (pages at_ b off cap:Nat) (hl1:K1.length=32) (hl2:K2.length=32) (hl3:K3.length=32) (hkb:Bytes K2) (hkc:Bytes K3) (hp:pages≤400) (hat:at_<2) (hal:A.length=2048) (hab:Bytes A) (hcap:2048≤cap) (hok:opensN K2 pages (place A at_)=false) (w:World) (ht:Tab w) (hq:QTab w) (hs:Seg w b off A) :
  Calls Tryz.prog 113 #[.agg (u8s (K1++(K2++K3))).toArray,.int .i64 (pages:Int),.slice (some ⟨b,off,none⟩) 2048 cap,.int .i64 (at_:Int)] w fun e w'=>∃k,e=.returned (.agg (blC k).toArray)∧BlkIs w' w.heap.size K2 K3 pages A at_ k∧Below w.heap.size w w':=by
 have HT:Hid (Tab w):=ht
 have HQ:Hid (QTab w):=hq
 have HKB:Hid (Bytes K2):=hkb
 have HKC:Hid (Bytes K3):=hkc
 obtain ⟨KS,hKS⟩:∃KS,KS=K1++(K2++K3):=⟨_,rfl⟩
 have lK:∀K:List Int,K.length=32→(u8s K).length=32:=fun K h=>by rw [ab,h]
 have hKE:u8s KS=u8s K1++(u8s K2++u8s K3):=by rw [hKS];simp [u8s]
 have HKU:Hid ((u8s KS).length=96):=by show _=_;rw [hKE];simp [lK K1 hl1,lK K2 hl2,lK K3 hl3]
 have HK2:Hid (((u8s KS).drop 32).take 32=u8s K2):=by
  show _=_
  rw [hKE,List.drop_append,List.drop_of_length_le (by rw [lK K1 hl1];omega),List.nil_append,lK K1 hl1,Nat.sub_self,List.drop_zero,List.take_append_of_le_length (by rw [lK K2 hl2];omega),List.take_of_length_le (by rw [lK K2 hl2];omega)]
 have HK3:Hid (KS.drop 64=K3):=by
  show _=_
  rw [hKS,←List.append_assoc,List.drop_append,List.drop_of_length_le (by simp [hl1,hl2]),List.nil_append,show 64 - (K1++K2).length=0 by simp [hl1,hl2],List.drop_zero]
 have HKE:Hid (∀_:Unit,K1++(K2++K3)=KS):=fun _=>hKS.symm
 obtain ⟨o,ho⟩:∃o:Nat,o=1749 * at_:=⟨_,rfl⟩
 have hob:o≤1749:=by omega
 have HO:Hid (∀_:Unit,1749 * at_=o):=fun _=>ho.symm
 obtain ⟨B,hB⟩:∃B,B=place A at_:=⟨_,rfl⟩
 have HBP:Hid (∀_:Unit,place A at_=B):=fun _=>hB.symm
 have HBL:Hid (B.length=299):=by rw [hB];exact cn hal hat
 have hbb:Bytes B:=by rw [hB];exact g0 hab _
 obtain ⟨o1,ho1⟩:∃z:Nat,z=off+o:=⟨_,rfl⟩
 obtain ⟨M,hM⟩:∃z:Nat,z=2048 - o:=⟨_,rfl⟩
 obtain ⟨c1,hc1⟩:∃z:Nat,z=cap - o:=⟨_,rfl⟩
 have hc1b:299≤c1:=by omega
 have HO1:Hid (off+o=o1):=ho1.symm
 have HM:Hid (2048 - o=M):=hM.symm
 have HC1:Hid (cap - o=c1):=hc1.symm
 have hsB:Seg w b o1 B:=by rw [ho1,hB,ho];exact (hs.drop (1749 * at_)).take 299
 have HSB:Hid (Seg w b o1 B):=hsB
 obtain ⟨table,htab⟩:∃z,z=A.drop 299:=⟨_,rfl⟩
 have HTE:Hid (∀_:Unit,A.drop 299=table):=fun _=>htab.symm
 have HTL:Hid (table.length=1749):=by show _=_;rw [htab,List.length_drop,hal]
 have HTB:Hid (Bytes table):=by rw [htab];exact hab.drop 299
 have HTS:Hid (Seg w b (off+299) table):=by rw [htab];exact hs.drop 299
 obtain ⟨X,hX⟩:∃X,X=limitAt B:=⟨_,rfl⟩
 have HX8:Hid ((B.take 8).length=8):=by show _=_;rw [List.length_take,HBL.out];rfl
 have HXE:Hid (∀_:Unit,numL ((B.take 8).take 8)=X):=fun _=>by rw [hX,List.take_take];rfl
 have HX8B:Hid (Bytes (B.take 8)):=hbb.take 8
 obtain ⟨ns,hns⟩:∃ns,ns=nonceAt B:=⟨_,rfl⟩
 have HNE:Hid (∀_:Unit,(B.drop 8).take 12=ns):=fun _=>by rw [hns];rfl
 have HNL:Hid (ns.length=12):=by show _=_;rw [hns,nonceAt,List.length_take,List.length_drop,HBL.out];rfl
 have HNU:Hid ((u8s ns).length=12):=by show _=_;rw [ab,HNL.out]
 have HNB:Hid (Bytes ns):=by rw [hns];exact (Bytes.drop hbb 8).take 12
 obtain ⟨SB,hSB⟩:∃SB,SB=B.drop 20:=⟨_,rfl⟩
 have HSL:Hid (SB.length=263+16):=by show _=_;rw [hSB,List.length_drop,HBL.out]
 have HSBB:Hid (Bytes SB):=by rw [hSB];exact Bytes.drop hbb 20
 have HSS:Hid (Seg w b (o1+20) SB):=by rw [hSB];exact hsB.drop 20
 have HAB:Hid (Bytes (aadN pages X)):=fZ _ _
 have hm:=Mem.start w
 have HFT:Hid (SB.drop 263≠tagOf K2 ns (aadN pages X) (SB.take 263)):=by
  show _≠_
  unfold opensN fits at hok
  rw [←hB,←hSB,HSL.out,←hns,←hX] at hok
  exact of_decide_eq_false hok
 have HFIN:Hid (∀W,BlkIs W w.heap.size K2 K3 pages A at_ ⟨X,false,0,{data:=#[]},none⟩):=fun W=>by
  refine ⟨by rw [←hB];exact hX,?_,⟨Int.le_refl 0,by show (0:Int)<4294967296;omega⟩,by show 0≤200;omega,⟨fun _=>none,Or.inl ⟨rfl,rfl⟩,fun h=>(by cases h)⟩,fun m' hm'=>(by cases hm')⟩
  show false=_
  unfold validN
  rw [hok]
  rfl
 rw [←hKS]
 clear ht hq hkb hkc hs hsB hbb hKS hKE lK ho hB ho1 hM hc1 htab hX hns hSB hok hal hab
 go_enter Tryz.func113,Tryz.ntmps113
 go_wp2_with (first
  | ((with_reducible refine aa (some 4) (.box 108 (.tmp 0)) ?_);refine ak (u8s KS) rfl hm ?_;clear hm;intro w1 gk hm)
  | ((with_reducible refine aa (some 8) (.alloc 120) ?_);refine af _ bg hm ?_;clear hm;intro w2 gr hm)
  | (go_at_call 125;refine (fg at_ (by omega) _).mono ?_;rintro e w3 ⟨he,hw⟩;rw [HO.out ()] at he;subst he;replace hw:=hw.symm;subst hw)
  | ((with_reducible refine aa (some 20) (.slice 54 (.tmp 17) (some (.tmp 19)) none none) ?_);go_must (refine gg aq av o o1 M c1 HO1.out HM.out HC1.out (by omega) (by omega) rfl rfl rfl ?_))
  | ((with_reducible refine aa (some 21) (.slice 54 (.tmp 20) none (some (.const (.int .i64 299))) none) ?_);go_must (refine ae (.slice (some ⟨b,o1,none⟩) 299 c1) rfl (cy aq av 299 (by omega) rfl rfl rfl) ?_))
  | ((with_reducible refine aa (some 24) (.slice 54 (.tmp 23) none (some (.const (.int .i64 8))) none) ?_);go_must (refine ae (.slice (some ⟨b,o1,none⟩) 8 c1) rfl (cy aq av 8 (by omega) rfl rfl rfl) ?_))
  | (go_at_call 163;refine (fF (B.take 8) _ 8 HX8.out (by omega) (by omega) HX8B.out _ ⟨_,c1,by rw [HX8.out],by rw [HX8.out];omega,fun _=>⟨b,o1,rfl,(Seg.mem HSB.out hm (by simp)).take 8⟩⟩).mono ?_;rintro e w4 ⟨gz,he,hge,hrz,hb⟩;rw [HXE.out (),show (8 - 8:Nat)=0 from rfl] at he;subst he;replace hm:=hm.call hb;clear hb hrz hge)
  | ((with_reducible refine aa (some 30) (.slice 54 (.tmp 29) (some (.const (.int .i64 8))) (some (.const (.int .i64 20))) none) ?_);go_must (refine wpl_slh aq av 8 12 (by omega) (by omega) rfl rfl rfl rfl rfl ?_))
  | ((with_reducible refine aa (some 31) (.sliceToArrayPointer 210 (.tmp 30)) ?_);go_must (refine fV 12 bx (by omega) rfl ?_))
  | ((with_reducible refine aa (some 32) (.load 210 (.tmp 31)) ?_);go_must (refine ae (.agg (u8s ns).toArray) rfl (jK ns rfl (by rw [←HNE.out ()];exact ((Seg.mem HSB.out hm (by simp)).drop 8).take 12) _ bx rfl 12 bD HNL.out) ?_))
  | ((with_reducible refine aa (some 13) (.alloc 210) ?_);refine af _ gP hm ?_;clear hm;intro w5 gn hm)
  | ((with_reducible refine aa none (.store 210 (.tmp 13) (.tmp 32)) ?_);refine ag 0 (u8s ns) hm rfl rfl rfl 12 bD (by simp [ab]) (HNU.out) (ar _) ?_;clear hm;intro w6 hm))
 refine au ?_
 refine ap (T:=fun W=>Mem w [] W [(gn,u8s ns,210),(gr,blC bk0,120),(gk,u8s KS,108)]) (by kernel_rfl) hm ?_
 clear hm
 intro w7 hm
 refine aT 0 (v:=.pointer (some ⟨gk,32,none⟩)) rfl (by kernel_rfl) rfl (fun W _=>by go_simp) hm ?_
 go_simp
 refine aT 1 (v:=.agg (u8s K2).toArray) rfl (by kernel_rfl) rfl (fun W hW=>ao 32 (u8s K2) (hW.get 2 rfl) rfl _ a0 rfl 32 a9 (by rw [HKU.out];omega) HK2.out) hm ?_
 go_simp
 refine aT 2 (v:=.agg (u8s ns).toArray) rfl (by kernel_rfl) rfl (fun W hW=>ao 0 (u8s ns) (hW.get 0 rfl) rfl _ bx rfl 12 bD (by rw [HNU.out];omega) (by rw [List.drop_zero,List.take_of_length_le (Nat.le_of_eq HNU.out)])) hm ?_
 go_simp
 refine aT 3 (v:=.int .i64 (pages:Int)) rfl (by kernel_rfl) rfl (fun W _=>by go_simp) hm ?_
 go_simp
 refine aT 4 (v:=.int .u64 X) rfl (by kernel_rfl) rfl (fun W _=>by go_simp) hm ?_
 go_simp
 refine aT 6 (v:=.slice (some ⟨b,o1,none⟩) 299 c1) rfl (by kernel_rfl) rfl (fun W _=>by go_simp) hm ?_
 go_simp
 refine aT 7 (v:=.slice (some ⟨b,o1+20,none⟩) 279 (c1 - 20)) rfl (by kernel_rfl) rfl (fun W _=>dI (g:=b) (o:=o1) (len:=299) (cap:=c1) aq av 20 279 (by omega) (by omega) rfl rfl rfl rfl) hm ?_
 go_simp
 refine aO 5 (by kernel_rfl) rfl rfl ?_
 intro K hK
 go_wp2_with (go_at_call 124;refine (ew pages X hp _).mono ?_;rintro e wd ⟨ga,rfl,hge,hr,hb⟩;have HGA:Hid (Row wd ga (u8s (aadN pages X)) 5):=hr;replace hm:=hm.call hb;clear hb hr hge)
 refine hK _ _ hm ?_
 clear hK K
 refine aO 8 (by kernel_rfl) rfl rfl ?_
 intro K hK
 go_wp2_with (go_at_call 164;refine (j8 K2 ns (aadN pages X) SB _ b (o1+20) (c1 - 20) 263 HSL.out (by omega) HFT.out hl2 HNL.out HKB.out HNB.out HAB.out HSBB.out (by rw [bU];omega) (by rw [HSL.out];omega) _ (Tab.mem HT.out hm (by simp)) (QTab.mem HQ.out hm (by simp)) (aE HGA.out (bU _ _) (Nat.le_refl _)) (Seg.mem HSS.out hm (by simp))).mono ?_;rintro e wo ⟨he,hb⟩;subst he;replace hm:=hm.call hb;clear hb)
 refine hK _ _ hm ?_
 clear hK K
 refine aT 9 (v:=.tuple #[.slice none 0 0,.int .i64 50]) rfl (by kernel_rfl) rfl (fun W _=>by go_simp) hm ?_
 go_simp
 refine aT 10 (v:=.slice none 0 0) rfl (by kernel_rfl) rfl (fun W _=>by go_simp) hm ?_
 go_simp
 refine aT 11 (v:=.int .i64 50) rfl (by kernel_rfl) rfl (fun W _=>by go_simp) hm ?_
 go_simp
 refine aT 12 (v:=.slice none 0 0) rfl (by kernel_rfl) rfl (fun W _=>by go_simp) hm ?_
 go_simp
 refine aT 13 (v:=.int .i64 50) rfl (by kernel_rfl) rfl (fun W _=>by go_simp) hm ?_
 go_simp
 refine wpAnyH_done (by kernel_rfl) ?_ _
 simp only [endsIn]
 go_wp2_with (first
  | ((with_reducible refine aa (some 48) (.build 120 #[(0,.tmp 47)]) ?_);go_must (refine aB (blC ⟨X,false,0,{data:=#[]},none⟩) _ rfl (built_blk0 _) ?_))
  | ((with_reducible refine aa none (.store 120 (.tmp 8) (.tmp 48)) ?_);refine ag 1 (blC ⟨X,false,0,{data:=#[]},none⟩) hm rfl rfl rfl 5 aN rfl rfl (bz _) ?_;clear hm;intro wz hm))
 obtain ⟨fs,hfs⟩:=un_blk
 exact ay 1 hm rfl Tryz.results113 rfl _ hfs rfl 5 aN rfl rfl ⟨_,rfl,HFIN.out _,hm.below⟩
theorem blockOf_any (K1 K2 K3 A:List Int) (pages at_ b off cap:Nat) (hl1:K1.length=32) (hl2:K2.length=32) (hl3:K3.length=32) (hkb:Bytes K2) (hkc:Bytes K3) (hp:pages≤400) (hat:at_<2) (hal:A.length=2048) (hab:Bytes A) (hcap:2048≤cap) (w:World) (ht:Tab w) (hq:QTab w) (hs:Seg w b off A) :
  Calls Tryz.prog 113 #[.agg (u8s (K1++(K2++K3))).toArray,.int .i64 (pages:Int),.slice (some ⟨b,off,none⟩) 2048 cap,.int .i64 (at_:Int)] w fun e w'=>∃k,e=.returned (.agg (blC k).toArray)∧BlkIs w' w.heap.size K2 K3 pages A at_ k∧Below w.heap.size w w':=by
 cases hok:opensN K2 pages (place A at_) with
 | true=>exact block_good K1 K2 K3 A pages at_ b off cap hl1 hl2 hl3 hkb hkc hp hat hal hab hcap hok w ht hq hs
 | false=>exact block_bad K1 K2 K3 A pages at_ b off cap hl1 hl2 hl3 hkb hkc hp hat hal hab hcap hok w ht hq hs
theorem mD (K1 K2 K3 KS A:List Int) (hks:K1++(K2++K3)=KS) (pages at_ b off cap:Nat) (hl1:K1.length=32) (hl2:K2.length=32) (hl3:K3.length=32) (hkb:Bytes K2) (hkc:Bytes K3) (hp:pages≤400) (hat:at_<2) (hal:A.length=2048) (hab:Bytes A) (hcap:2048≤cap) (w:World) (ht:Tab w) (hq:QTab w) (hs:Seg w b off A) :
  Calls Tryz.prog 113 #[.agg (u8s KS).toArray,.int .i64 (pages:Int),.slice (some ⟨b,off,none⟩) 2048 cap,.int .i64 (at_:Int)] w fun e w'=>∃k,e=.returned (.agg (blC k).toArray)∧BlkIs w' w.heap.size K2 K3 pages A at_ k∧Below w.heap.size w w':=by
 subst hks
 exact blockOf_any K1 K2 K3 A pages at_ b off cap hl1 hl2 hl3 hkb hkc hp hat hal hab hcap w ht hq hs
end Go.Proofs.YtmlbjfklaehjnaaGreatDoor
