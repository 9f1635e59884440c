import Derived.Test.YtcibhfcjbokdlaaGreatDoorQt22
set_option maxRecDepth 100000
set_option maxHeartbeats 4000000
namespace Go.Proofs.YtcibhfcjbokdlaaGreatDoor
open Go Go.RowKit Classical
def lenV:Value→Nat
 | .slice _ n _=>n
 | _=>0
theorem eo {F:Nat→Prop} (bl:List Tm) (bv:Value) (w:World) (hf:Few bl) (hbs:SlT F w bv bl) :
  Calls Tryz.prog 31 #[bv] w fun e w'=>∃(v:Value) (K:List Tm),e=.returned v∧Taken bl K∧(∀x∈K,isT x=true)∧K.length≤380∧SlT (fun b=>b<w'.heap.size) w' v K∧Below w.heap.size w w':=by
 obtain ⟨pv,cv,rfl,_⟩:=hbs.len
 obtain ⟨lv,hlv⟩:∃l,l=bl.length:=⟨_,rfl⟩
 rw [←hlv] at hbs ⊢
 have HFW:Hid (Few bl):=hf
 have HBS:Hid (SlT (fun b=>b<w.heap.size) w (.slice pv lv cv) bl):=hbs.lt
 have HLV:Hid (∀_:Unit,lv=bl.length):=fun _=>hlv
 have hlv10:lv≤10:=by rw [hlv];exact hf.1
 clear hf hbs hlv
 have hm:=Mem.start w
 go_enter Tryz.func31,Tryz.ntmps31
 go_wp2_with fail
 go_loopw [4,3] (fun vi vk wr=>∃(i:Nat) (K:List Tm),vi=.int .i64 (i:Int)∧i≤lv∧Hid (KI bl K)∧Hid (∀j x,j<i→bl[j]?=some x→isT x=true→x∈K)∧Hid (OT w.heap.size wr vk K)∧Hid (Mem w [] wr [])) (fun vi _ _=>lv - (intOf vi).toNat)
 case atStart=>exact ⟨0,[],rfl,Nat.zero_le _,KI.nil,fun j x hj=>absurd hj (by omega),OT.nil,hm⟩
 case round =>
  clear hm
  obtain ⟨i,K,rfl,hil,HKI,HIB,HO,HMM⟩:=hrel
  have hm:=HMM.out
  obtain ⟨pk,ck,hvk,hck⟩:=HO.out.len
  obtain ⟨nk,hnk⟩:∃l,l=K.length:=⟨_,rfl⟩
  rw [←hnk] at hvk hck
  subst hvk
  have HNK:Hid (∀_:Unit,nk=K.length):=fun _=>hnk
  have HKL:Hid (K.length≤380):=HKI.out.len HFW.out
  have hnk4:nk≤380:=by rw [hnk];exact HKL.out
  clear hnk hck
  by_cases hlt:i<lv
  ·have hki:(i:Int)<(lv:Int):=by omega
   have hsw:=HBS.out.below hm.below
   obtain ⟨bb,ob,rfl⟩:=HBS.out.at (by omega)
   obtain ⟨x,hx⟩:=aX (HLV.out ()) hlt
   obtain ⟨px,mx,cx,a0,a1,a2,ex,hsx⟩:=hsw.cells hx
   have HC:Hid (∀W,Below w.heap.size w W→W.cell? ⟨bb,ob+i * 3,none⟩=some (.int .i64 x.k)∧W.cell? ⟨bb,ob+i * 3+1,none⟩=some (.int .i64 x.n)∧W.cell? ⟨bb,ob+i * 3+2,none⟩=some (.slice px mx cx)):=fun W hW=>by
    obtain ⟨px2,mx2,cx2,b0,b1,b2,_,_⟩:=(HBS.out.below hW).cells hx
    obtain ⟨px3,mx3,cx3,d0,d1,d2,_,_⟩:=HBS.out.cells hx
    have q2:=(hW.cell (p:=⟨bb,ob+i * 3+2,none⟩) (block_lt_of_cell d2)).trans d2
    have q3:=(hm.below.cell (p:=⟨bb,ob+i * 3+2,none⟩) (block_lt_of_cell d2)).trans d2
    rw [a2] at q3
    exact ⟨b0,b1,by rw [q2,←q3]⟩
   have HXS:Hid (SlT (fun b=>b<w.heap.size) wr (.slice px mx cx) x.l):=hsx
   have HGX:Hid (bl[i]?=some x):=hx
   clear hsw hx a0 a1 a2 ex hsx HMM
   cases hix:isT x with
   | false =>
    have HIS:Hid (∀W,Below wr.heap.size wr W→Calls Tryz.prog 19 #[.agg (tcs x (.slice px mx cx)).toArray] W fun e w'=>e=.returned (.bool false)∧Below W.heap.size W w'):=fun W hW=>by have h9:=bY x _ W (HXS.out.below hW);rw [hix] at h9;exact h9
    have HIB2:Hid (∀j x,j<i+1→bl[j]?=some x→isT x=true→x∈K):=fun j y hj hy hi=>by
     by_cases h:j=i
     ·subst h;rw [HGX.out] at hy;rw [←Option.some.inj hy,hix] at hi;cases hi
     ·exact HIB.out j y (by omega) hy hi
    have HBR:Hid (Below wr.heap.size wr wr):=Below.refl _ _
    clear hix HIB
    go_wp2_with (first
     | ((with_reducible refine af (some 17) (.indexAddr 22 (.tmp 15) (.tmp 16)) ?_);go_must (refine aa (.pointer (some ⟨bb,ob+i * 3,none⟩)) rfl (ak i rfl rfl rfl hlt) ?_))
     | ((with_reducible refine af (some 18) (.load 24 (.tmp 17)) ?_);go_must (refine aa (.agg (tcs x (.slice px mx cx)).toArray) rfl (am rfl (HC.out _ hm.below).1 (HC.out _ hm.below).2.1 (HC.out _ hm.below).2.2) ?_))
     | (go_at_call 19;go_must (refine (HIS.out _ HBR.out).mono ?_);rintro e w19 ⟨he,hb⟩;subst he;have HO19:Hid (OT w.heap.size w19 (.slice pk nk ck) K):=HO.out.below hb;replace hm:=hm.call hb;clear hb))
    go_roundw
    case rel=>exact ⟨i+1,K,by go_num,by omega,HKI.out,HIB2.out,HO19.out,hm⟩
    case measure=>simp [intOf];omega
   | true =>
    have HIX:Hid (isT x=true):=hix
    have HIS:Hid (∀W,Below wr.heap.size wr W→Calls Tryz.prog 19 #[.agg (tcs x (.slice px mx cx)).toArray] W fun e w'=>e=.returned (.bool true)∧Below W.heap.size W w'):=fun W hW=>by have h9:=bY x _ W (HXS.out.below hW);rw [hix] at h9;exact h9
    have HBR:Hid (Below wr.heap.size wr wr):=Below.refl _ _
    clear hix
    by_cases hxk:x∈K
    ·have HIB2:Hid (∀j x,j<i+1→bl[j]?=some x→isT x=true→x∈K):=fun j y hj hy hi=>by
      by_cases h:j=i
      ·subst h;rw [HGX.out] at hy;rw [←Option.some.inj hy];exact hxk
      ·exact HIB.out j y (by omega) hy hi
     have HIN:Hid (∀W,Below wr.heap.size wr W→Calls Tryz.prog 20 #[.slice pk nk ck,.agg (tcs x (.slice px mx cx)).toArray] W fun e w'=>e=.returned (.bool true)∧Below W.heap.size W w'):=fun W hW=>dF K x pk nk ck _ W true (⟨fun _=>hxk,fun _=>rfl⟩) (HNK.out ()) (by have h9:=HKL.out;have h8:=HNK.out ();omega) (fun z hz=>Nat.le_trans (az.1 (HKI.out.is9 hz)).1 (by omega)) (HO.out.slt.below hW) (HXS.out.below hW)
     clear hxk HIB
     go_wp2_with (first
      | ((with_reducible refine af (some 17) (.indexAddr 22 (.tmp 15) (.tmp 16)) ?_);go_must (refine aa (.pointer (some ⟨bb,ob+i * 3,none⟩)) rfl (ak i rfl rfl rfl hlt) ?_))
      | ((with_reducible refine af (some 18) (.load 24 (.tmp 17)) ?_);go_must (refine aa (.agg (tcs x (.slice px mx cx)).toArray) rfl (am rfl (HC.out _ hm.below).1 (HC.out _ hm.below).2.1 (HC.out _ hm.below).2.2) ?_))
      | (go_at_call 19;go_must (refine (HIS.out _ HBR.out).mono ?_);rintro e w19 ⟨he,hb⟩;subst he;have HB19:Hid (Below wr.heap.size wr w19):=hb;replace hm:=hm.call hb;clear hb)
      | ((with_reducible refine aC (some 24) (.indexAddr 22 (.tmp 22) (.tmp 23)) (some (5,true)) ?_);go_must (refine aa (.pointer (some ⟨bb,ob+i * 3,none⟩)) rfl (ak i rfl rfl rfl hlt) ?_))
      | ((with_reducible refine aC (some 25) (.load 24 (.tmp 24)) (some (5,true)) ?_);go_must (refine aa (.agg (tcs x (.slice px mx cx)).toArray) rfl (am rfl (HC.out _ hm.below).1 (HC.out _ hm.below).2.1 (HC.out _ hm.below).2.2) ?_))
      | (go_at_call 20;go_must (refine (HIN.out _ HB19.out).mono ?_);rintro e w26 ⟨he,hb⟩;subst he;have HO26:Hid (OT w.heap.size w26 (.slice pk nk ck) K):=(HO.out.below HB19.out).below hb;replace hm:=hm.call hb;clear hb))
     go_roundw
     case rel=>exact ⟨i+1,K,by go_num,by omega,HKI.out,HIB2.out,HO26.out,hm⟩
     case measure=>simp [intOf];omega
    ·have HNX:Hid (¬x∈K):=hxk
     have HKI2:Hid (KI bl (K++[x])):=HKI.out.add hxk ((dh bl).2 x (List.mem_filter.2 ⟨List.mem_of_getElem? HGX.out,HIX.out⟩)) (.base ⟨List.mem_of_getElem? HGX.out,HIX.out⟩)
     have HIB2:Hid (∀j y,j<i+1→bl[j]?=some y→isT y=true→y∈K++[x]):=fun j y hj hy hi=>by
      by_cases h:j=i
      ·subst h;rw [HGX.out] at hy;rw [←Option.some.inj hy];simp
      ·exact List.mem_append.2 (Or.inl (HIB.out j y (by omega) hy hi))
     have HIN:Hid (∀W,Below wr.heap.size wr W→Calls Tryz.prog 20 #[.slice pk nk ck,.agg (tcs x (.slice px mx cx)).toArray] W fun e w'=>e=.returned (.bool false)∧Below W.heap.size W w'):=fun W hW=>dF K x pk nk ck _ W false (⟨(fun h=>by cases h),fun h=>absurd h HNX.out⟩) (HNK.out ()) (by have h9:=HKL.out;have h8:=HNK.out ();omega) (fun z hz=>Nat.le_trans (az.1 (HKI.out.is9 hz)).1 (by omega)) (HO.out.slt.below hW) (HXS.out.below hW)
     clear hxk HIB
     go_wp2_with (first
      | ((with_reducible refine af (some 17) (.indexAddr 22 (.tmp 15) (.tmp 16)) ?_);go_must (refine aa (.pointer (some ⟨bb,ob+i * 3,none⟩)) rfl (ak i rfl rfl rfl hlt) ?_))
      | ((with_reducible refine af (some 18) (.load 24 (.tmp 17)) ?_);go_must (refine aa (.agg (tcs x (.slice px mx cx)).toArray) rfl (am rfl (HC.out _ hm.below).1 (HC.out _ hm.below).2.1 (HC.out _ hm.below).2.2) ?_))
      | (go_at_call 19;go_must (refine (HIS.out _ HBR.out).mono ?_);rintro e w19 ⟨he,hb⟩;subst he;have HB19:Hid (Below wr.heap.size wr w19):=hb;replace hm:=hm.call hb;clear hb)
      | ((with_reducible refine aC (some 24) (.indexAddr 22 (.tmp 22) (.tmp 23)) (some (5,true)) ?_);go_must (refine aa (.pointer (some ⟨bb,ob+i * 3,none⟩)) rfl (ak i rfl rfl rfl hlt) ?_))
      | ((with_reducible refine aC (some 25) (.load 24 (.tmp 24)) (some (5,true)) ?_);go_must (refine aa (.agg (tcs x (.slice px mx cx)).toArray) rfl (am rfl (HC.out _ hm.below).1 (HC.out _ hm.below).2.1 (HC.out _ hm.below).2.2) ?_))
      | (go_at_call 20;go_must (refine (HIN.out _ HB19.out).mono ?_);rintro e w26 ⟨he,hb⟩;subst he;have HB26:Hid (Below wr.heap.size wr w26):=HB19.out.trans (hb.mono HB19.out.size);replace hm:=hm.call hb;clear hb)
      | ((with_reducible refine af (some 32) (.indexAddr 22 (.tmp 30) (.tmp 31)) ?_);go_must (refine aa (.pointer (some ⟨bb,ob+i * 3,none⟩)) rfl (ak i rfl rfl rfl hlt) ?_))
      | ((with_reducible refine af (some 33) (.load 24 (.tmp 32)) ?_);go_must (refine aa (.agg (tcs x (.slice px mx cx)).toArray) rfl (am rfl (HC.out _ hm.below).1 (HC.out _ hm.below).2.1 (HC.out _ hm.below).2.2) ?_))
      | ((with_reducible refine af (some 34) (.buildSlice 22 1 #[(0,.tmp 33)]) ?_);go_must (refine bj (x) (.slice px mx cx) rfl rfl hm ?_);clear hm;intro w34 g34 hb hg hm;have hb34:Below wr.heap.size wr w34:=HB26.out.trans (hb.mono HB26.out.size);have HO34:Hid (OT w.heap.size w34 (.slice pk nk ck) K):=HO.out.below hb34;have HN34:Hid (some g34≠(Value.slice pk nk ck).ownBlock):=HO.out.ne (Nat.le_trans HB26.out.size hg);have HSL:Hid (SlT (FO w34 (.slice pk nk ck)) w34 (.slice (some ⟨g34,0,none⟩) 1 1) [x]):=bO (hm.get 0 rfl) (HO34.out.old (fun b hb=>hb) (HXS.out.below hb34) hm.size) ⟨(hm.get 0 rfl).lt,HN34.out⟩;clear hb34;clear hb hg)
      | ((with_reducible refine af (some 35) (.call {callee:=.builtin .append,args:=#[.tmp 29,.tmp 34],argTypes:=#[22,22]}) ?_);go_must (refine aN (base:=w.heap.size) rfl rfl rfl hm HO34.out rfl HSL.out (by have h9:=HKL.out;omega) (Nat.le_refl _) hm.size (bx HN34.out a6) ?_);intro v35 w35 ho hg hb9 hm5;have HOw35:Hid (OT w.heap.size w35 v35 (K++[x])):=ho;clear hm ho hg hb9;have hm:=hm5;clear hm5))
     go_roundw
     case rel=>exact ⟨i+1,K++[x],by go_num,by omega,HKI2.out,HIB2.out,HOw35.out,hm.tail⟩
     case measure=>simp [intOf];omega
  ·have HIB2:Hid (∀x∈bl,isT x=true→x∈K):=fun x hx hi=>by
    obtain ⟨j,hj,he⟩:=List.getElem_of_mem hx
    exact HIB.out j x (by have:=HLV.out ();omega) (by rw [List.getElem?_eq_getElem hj,he]) hi
   obtain rfl:i=lv:=by omega
   have hki:¬(i:Int)<(i:Int):=by omega
   clear HMM HIB
   go_wp2_with fail
   go_loopw [3] (fun vk wr=>∃K:List Tm,Hid (KI bl K)∧Hid (∀x∈bl,isT x=true→x∈K)∧Hid (OT w.heap.size wr vk K)∧Hid (Mem w [] wr [])) (fun vk _=>381 - lenV vk)
   case atStart=>exact ⟨K,HKI.out,HIB2.out,HO.out,hm⟩
   case round =>
    clear hm HKI HIB2 HO HNK HKL hnk4
    obtain ⟨K,HKI,HIB,HO,HMM⟩:=hrel
    have hm:=HMM.out
    obtain ⟨pk,ck,hvk,hck⟩:=HO.out.len
    obtain ⟨nk,hnk⟩:∃l,l=K.length:=⟨_,rfl⟩
    rw [←hnk] at hvk hck
    subst hvk
    have HNK:Hid (∀_:Unit,nk=K.length):=fun _=>hnk
    have HKL:Hid (K.length≤380):=HKI.out.len HFW.out
    have hnk4:nk≤380:=by rw [hnk];exact HKL.out
    clear hnk hck
    have HK0:Hid (K.length=nk):=(HNK.out ()).symm
    clear HMM
    go_wp2_with fail
    go_loopw [6,3] (fun vi vk2 wr2=>∃(i:Nat) (K2:List Tm),vi=.int .i64 (i:Int)∧i≤K2.length∧Hid (KI bl K2)∧Hid (Ext K K2)∧Hid (K2.length=K.length→∀j x,j<i→K2[j]?=some x→Okd K2 x)∧Hid (OT w.heap.size wr2 vk2 K2)∧Hid (Mem w [] wr2 [])) (fun vi _ _=>381 - (intOf vi).toNat)
    case atStart=>exact ⟨0,K,rfl,Nat.zero_le _,HKI.out,Ext.refl _,fun _ j x hj=>absurd hj (by omega),HO.out,hm⟩
    case round =>
     clear hm HKI HO HNK HKL
     obtain ⟨i,J,rfl,hin,HKI,HEX,HOK,HO,HMM⟩:=hrel
     have hm:=HMM.out
     obtain ⟨pj,cj,hvk,hck⟩:=HO.out.len
     obtain ⟨nj,hnj⟩:∃l,l=J.length:=⟨_,rfl⟩
     rw [←hnj] at hvk hck
     subst hvk
     have HNK:Hid (∀_:Unit,nj=J.length):=fun _=>hnj
     have HKL:Hid (J.length≤380):=HKI.out.len HFW.out
     have hnj4:nj≤380:=by rw [hnj];exact HKL.out
     clear hnj hck
     rw [←HNK.out ()] at hin
     by_cases hlt:i<nj
     ·have hki:(i:Int)<(nj:Int):=by omega
      obtain ⟨b,o,rfl⟩:=HO.out.slt.at (by omega)
      obtain ⟨x,hx⟩:=aX (HNK.out ()) hlt
      obtain ⟨px,mx,cx,a0,a1,a2,ex,hsx⟩:=HO.out.cells hx
      have HXS:Hid (SlT (FO wr (.slice (some ⟨b,o,none⟩) nj cj)) wr (.slice px mx cx) x.l):=hsx
      have HGX:Hid (J[i]?=some x):=hx
      have HMX:Hid (x∈J):=List.mem_of_getElem? hx
      have HMXL:Hid (∀_:Unit,mx=x.l.length):=fun _=>ex
      have HOX:Hid (okT x=true):=(az.1 (HKI.out.is9 HMX.out)).2
      have hi4:i≤380:=by omega
      clear hx ex hsx HMM
      have hkr:=okF_k (aS HOX.out)
      have hkl:=bg (aS HOX.out)
      have HJ:Hid (J.length=nj):=(HNK.out ()).symm
      by_cases hk4:x.k=4
      ·have hmx2:mx=2:=by rw [HMXL.out (),hkl,hk4];rfl
       obtain ⟨ya,yb,hl⟩:=eJ (l:=x.l) (by rw [hkl,hk4];rfl)
       have HL:Hid (x.l=[ya,yb]∧x.k=4):=⟨hl,hk4⟩
       have hkb:(x.k==4)=true:=beq_iff_eq.2 hk4
       subst hmx2
       clear hkr hkl hl
       go_wp2_with (first
        | ((with_reducible refine af (some 46) (.indexAddr 22 (.tmp 44) (.tmp 45)) ?_);go_must (refine aa (.pointer (some ⟨b,o+i * 3,none⟩)) rfl (ak i rfl rfl rfl hlt) ?_))
        | ((with_reducible refine af (some 47) (.load 24 (.tmp 46)) ?_);go_must (refine aa (.agg (tcs x (.slice px 2 cx)).toArray) rfl (am rfl a0 a1 a2) ?_))
        | ((with_reducible refine af (some 7) (.alloc 24) ?_);go_must (refine bG _ ax hm ?_);clear hm;intro w7 g7 hb hg hm;have HB7:Hid (Below wr.heap.size wr w7∧wr.heap.size≤g7):=⟨hb,hg⟩;clear hb hg)
        | ((with_reducible refine af none (.store 24 (.tmp 7) (.tmp 47)) ?_);go_must (refine bq 0 (tcs x (.slice px 2 cx)) hm rfl rfl rfl 3 aj rfl rfl (aY _ _ _ _) ?_);clear hm;intro w8 hu hm;have HB8:Hid (Below wr.heap.size wr w8):=Below.updN HB7.out.1 hu HB7.out.2 HB7.out.1.size;have HO8:Hid (OT w.heap.size w8 (.slice (some ⟨b,o,none⟩) nj cj) J):=HO.out.below HB8.out;have HX8:Hid (SlT (FO w8 (.slice (some ⟨b,o,none⟩) nj cj)) w8 (.slice px 2 cx) x.l):=HXS.out.keep (bA HB8.out);clear hu)
        | ((with_reducible refine af (some 49) (.load 3 (.tmp 48)) ?_);go_must (refine aa (.int .i64 x.k) rfl (ad (.int .i64 x.k) (Mem.cell hm 0 rfl 0) rfl ag) ?_)))
       have HN7:Hid (some g7≠(Value.slice (some ⟨b,o,none⟩) nj cj).ownBlock):=HO.out.ne HB7.out.2
       go_loopw [8,3] (fun vq vk3 wr3=>∃(q:Nat) (K3:List Tm),vq=.int .i64 (q:Int)∧q≤2∧Hid (KI bl K3)∧Hid (Ext J K3)∧Hid (∀j y,j<q→x.l[j]?=some y→y∈K3)∧Hid (OT w.heap.size wr3 vk3 K3)∧Hid (SlT (FO wr3 vk3) wr3 (.slice px 2 cx) x.l)∧Hid (some g7≠vk3.ownBlock∧g7<wr3.heap.size)∧Hid (Mem w [] wr3 [(g7,tcs x (.slice px 2 cx),24)])) (fun vq _ _=>2 - (intOf vq).toNat)
       case atStart=>exact ⟨0,J,rfl,Nat.zero_le _,HKI.out,Ext.refl _,fun j y hj=>absurd hj (by omega),HO8.out,HX8.out,⟨HN7.out,(hm.get 0 rfl).lt⟩,hm⟩
       case round =>
        have HJL:Hid (J.length≤380):=HKL.out
        have HXT:Hid (x∈webWs (bl.filter isT) []∧Der (inB bl) x):=⟨HKI.out.inT x HMX.out,HKI.out.der x HMX.out⟩
        have HEK:Hid (Ext K J):=HEX.out
        clear hm HKI HO8 HX8 HN7 HNK HKL HEX hnj4 a0 a1 a2 HO HXS HB7 HB8
        obtain ⟨q,K3,rfl,hq2,HKI,HE3,HA,HO,HXS,HG7,HMM⟩:=hrel
        have hm:=HMM.out
        obtain ⟨pt,ct,hvk,hck⟩:=HO.out.len
        obtain ⟨nt,hnt⟩:∃l,l=K3.length:=⟨_,rfl⟩
        rw [←hnt] at hvk hck
        subst hvk
        have HNK:Hid (∀_:Unit,nt=K3.length):=fun _=>hnt
        have HKL:Hid (K3.length≤380):=HKI.out.len HFW.out
        have hnt4:nt≤380:=by rw [hnt];exact HKL.out
        clear hnt hck
        by_cases hqt:q<2
        ·have hkq:(q:Int)<2:=by omega
         obtain ⟨b2,o2,hp2⟩:=HXS.out.at (by omega)
         subst hp2
         obtain ⟨y,hy⟩:∃y,x.l[q]?=some y:=⟨_,List.getElem?_eq_getElem (by rw [HL.out.1];exact hqt)⟩
         obtain ⟨py,my,cy,a0,a1,a2,ey,hsy⟩:=HXS.out.cells hy
         have HC:Hid (∀W,Below wr.heap.size wr W→W.cell? ⟨b2,o2+q * 3,none⟩=some (.int .i64 y.k)∧W.cell? ⟨b2,o2+q * 3+1,none⟩=some (.int .i64 y.n)∧W.cell? ⟨b2,o2+q * 3+2,none⟩=some (.slice py my cy)):=fun W hW=>⟨(hW.cell (p:=⟨b2,_,none⟩) (block_lt_of_cell a0)).trans a0,(hW.cell (p:=⟨b2,_,none⟩) (block_lt_of_cell a1)).trans a1,(hW.cell (p:=⟨b2,_,none⟩) (block_lt_of_cell a2)).trans a2⟩
         have HYS:Hid (SlT (FO wr (.slice pt nt ct)) wr (.slice py my cy) y.l):=hsy
         have HGY:Hid (x.l[q]?=some y):=hy
         have HMY:Hid (y∈x.l):=List.mem_of_getElem? hy
         have HBR:Hid (Below wr.heap.size wr wr):=Below.refl _ _
         clear hy a0 a1 a2 ey hsy HMM
         by_cases hyk:y∈K3
         ·have HA2:Hid (∀j z,j<q+1→x.l[j]?=some z→z∈K3):=fun j z hj hz=>by
           by_cases h:j=q
           ·subst h;rw [HGY.out] at hz;rw [←Option.some.inj hz];exact hyk
           ·exact HA.out j z (by omega) hz
          have HIN:Hid (∀W,Below wr.heap.size wr W→Calls Tryz.prog 20 #[.slice pt nt ct,.agg (tcs y (.slice py my cy)).toArray] W fun e w'=>e=.returned (.bool true)∧Below W.heap.size W w'):=fun W hW=>dF K3 y pt nt ct _ W true (⟨fun _=>hyk,fun _=>rfl⟩) (HNK.out ()) (by have h9:=HKL.out;have h8:=HNK.out ();omega) (fun z hz=>Nat.le_trans (az.1 (HKI.out.is9 hz)).1 (by omega)) (HO.out.slt.below hW) (HYS.out.below hW)
          clear hyk HA
          go_wp2_with (first
           | ((with_reducible refine af (some 58) (.load 22 (.tmp 57)) ?_);go_must (refine aa (.slice (some ⟨b2,o2,none⟩) 2 cx) rfl (ad (.slice (some ⟨b2,o2,none⟩) 2 cx) (Mem.cell hm 0 rfl 2) rfl ah) ?_))
           | ((with_reducible refine af (some 60) (.indexAddr 22 (.tmp 58) (.tmp 59)) ?_);go_must (refine aa (.pointer (some ⟨b2,o2+q * 3,none⟩)) rfl (ak q rfl rfl rfl hqt) ?_))
           | ((with_reducible refine af (some 61) (.load 24 (.tmp 60)) ?_);go_must (refine aa (.agg (tcs y (.slice py my cy)).toArray) rfl (am rfl (HC.out _ HBR.out).1 (HC.out _ HBR.out).2.1 (HC.out _ HBR.out).2.2) ?_))
           | (go_at_call 20;go_must (refine (HIN.out _ HBR.out).mono ?_);rintro e w62 ⟨he,hb⟩;subst he;have H62:Hid (OT w.heap.size w62 (.slice pt nt ct) K3∧SlT (FO w62 (.slice pt nt ct)) w62 (.slice (some ⟨b2,o2,none⟩) 2 cx) x.l∧g7<w62.heap.size):=⟨HO.out.below hb,HXS.out.keep (bA hb),Nat.lt_of_lt_of_le HG7.out.2 hb.size⟩;replace hm:=hm.call hb;clear hb))
          go_roundw
          case rel=>exact ⟨q+1,K3,by go_num,by omega,HKI.out,HE3.out,HA2.out,H62.out.1,H62.out.2.1,⟨HG7.out.1,H62.out.2.2⟩,hm⟩
          case measure=>simp [intOf];omega
         ·have HNY:Hid (¬y∈K3):=hyk
          have HKI2:Hid (KI bl (K3++[y])):=HKI.out.add hyk (web_kid HXT.out.1 HMY.out) (.part HXT.out.2 HL.out.2 HMY.out)
          have HA2:Hid (∀j z,j<q+1→x.l[j]?=some z→z∈K3++[y]):=fun j z hj hz=>by
           by_cases h:j=q
           ·subst h;rw [HGY.out] at hz;rw [←Option.some.inj hz];simp
           ·exact List.mem_append.2 (Or.inl (HA.out j z (by omega) hz))
          have HIN:Hid (∀W,Below wr.heap.size wr W→Calls Tryz.prog 20 #[.slice pt nt ct,.agg (tcs y (.slice py my cy)).toArray] W fun e w'=>e=.returned (.bool false)∧Below W.heap.size W w'):=fun W hW=>dF K3 y pt nt ct _ W false (⟨(fun h=>by cases h),fun h=>absurd h HNY.out⟩) (HNK.out ()) (by have h9:=HKL.out;have h8:=HNK.out ();omega) (fun z hz=>Nat.le_trans (az.1 (HKI.out.is9 hz)).1 (by omega)) (HO.out.slt.below hW) (HYS.out.below hW)
          clear hyk HA
          go_wp2_with (first
           | ((with_reducible refine af (some 58) (.load 22 (.tmp 57)) ?_);go_must (refine aa (.slice (some ⟨b2,o2,none⟩) 2 cx) rfl (ad (.slice (some ⟨b2,o2,none⟩) 2 cx) (Mem.cell hm 0 rfl 2) rfl ah) ?_))
           | ((with_reducible refine af (some 60) (.indexAddr 22 (.tmp 58) (.tmp 59)) ?_);go_must (refine aa (.pointer (some ⟨b2,o2+q * 3,none⟩)) rfl (ak q rfl rfl rfl hqt) ?_))
           | ((with_reducible refine af (some 61) (.load 24 (.tmp 60)) ?_);go_must (refine aa (.agg (tcs y (.slice py my cy)).toArray) rfl (am rfl (HC.out _ HBR.out).1 (HC.out _ HBR.out).2.1 (HC.out _ HBR.out).2.2) ?_))
           | (go_at_call 20;go_must (refine (HIN.out _ HBR.out).mono ?_);rintro e w62 ⟨he,hb⟩;subst he;have HB62:Hid (Below wr.heap.size wr w62):=hb;replace hm:=hm.call hb;clear hb)
           | ((with_reducible refine af (some 66) (.load 22 (.tmp 65)) ?_);go_must (refine aa (.slice (some ⟨b2,o2,none⟩) 2 cx) rfl (ad (.slice (some ⟨b2,o2,none⟩) 2 cx) (Mem.cell hm 0 rfl 2) rfl ah) ?_))
           | ((with_reducible refine af (some 68) (.indexAddr 22 (.tmp 66) (.tmp 67)) ?_);go_must (refine aa (.pointer (some ⟨b2,o2+q * 3,none⟩)) rfl (ak q rfl rfl rfl hqt) ?_))
           | ((with_reducible refine af (some 69) (.load 24 (.tmp 68)) ?_);go_must (refine aa (.agg (tcs y (.slice py my cy)).toArray) rfl (am rfl (HC.out _ HB62.out).1 (HC.out _ HB62.out).2.1 (HC.out _ HB62.out).2.2) ?_))
           | ((with_reducible refine af (some 70) (.buildSlice 22 1 #[(0,.tmp 69)]) ?_);go_must (refine bj (y) (.slice py my cy) rfl rfl hm ?_);clear hm;intro w70 g70 hb hg hm;have hb70:Below wr.heap.size wr w70:=HB62.out.trans (hb.mono HB62.out.size);have H70:Hid (OT w.heap.size w70 (.slice pt nt ct) K3∧SlT (FO w70 (.slice pt nt ct)) w70 (.slice (some ⟨b2,o2,none⟩) 2 cx) x.l):=⟨HO.out.below hb70,HXS.out.keep (bA hb70)⟩;have HN70:Hid (some g70≠(Value.slice pt nt ct).ownBlock):=HO.out.ne (Nat.le_trans HB62.out.size hg);have HSL:Hid (SlT (FO w70 (.slice pt nt ct)) w70 (.slice (some ⟨g70,0,none⟩) 1 1) [y]):=bO (hm.get 0 rfl) (HYS.out.keep (bA hb70)) ⟨(hm.get 0 rfl).lt,HN70.out⟩;have HG70:Hid (g7<w70.heap.size):=Nat.lt_of_lt_of_le HG7.out.2 hb70.size;clear hb70;clear hb hg)
           | ((with_reducible refine af (some 71) (.call {callee:=.builtin .append,args:=#[.tmp 64,.tmp 70],argTypes:=#[22,22]}) ?_);go_must (refine aN (base:=w.heap.size) (v:=.slice pt nt ct) rfl rfl rfl hm H70.out.1 rfl HSL.out (by have h9:=HKL.out;omega) (Nat.le_refl _) hm.size (bx HN70.out (bx HG7.out.1 a6)) ?_);intro v71 w71 ho hg hb9 hm5;have HOw71:Hid (OT w.heap.size w71 v71 (K3++[y])):=ho;have H71:Hid (SlT (FO w71 v71) w71 (.slice (some ⟨b2,o2,none⟩) 2 cx) x.l∧some g7≠v71.ownBlock∧g7<w71.heap.size):=⟨H70.out.2.keep (fo_push hg hb9),(hb9.elim (fun h9=>by rw [h9];exact HG7.out.1) (fun h9=>by rw [h9];intro he;have h8:=Option.some.inj he;have h7:=HG70.out;omega)),Nat.lt_of_lt_of_le HG70.out hg.size⟩;clear hm ho hg hb9;have hm:=hm5;clear hm5))
          go_roundw
          case rel=>exact ⟨q+1,K3++[y],by go_num,by omega,HKI2.out,HE3.out.trans (Ext.one _ _),HA2.out,HOw71.out,H71.out.1,H71.out.2,hm.tail⟩
          case measure=>simp [intOf];omega
        ·have hq9:q=2:=by omega
         have hkq:¬(q:Int)<2:=by omega
         have HEK3:Hid (Ext K K3):=HEK.out.trans HE3.out
         have HOK3:Hid (K3.length=K.length→∀j z,j<i+1→K3[j]?=some z→Okd K3 z):=fun hlen j z hj hz=>by
          have h1:=HEK.out.len
          have h2:=HE3.out.len
          have h3:K3=J:=HE3.out.eq (by omega)
          by_cases h:j=i
          ·subst h
           rw [h3,HGX.out] at hz
           rw [←Option.some.inj hz]
           exact okd_of4 HL.out.2 HL.out.1 (HA.out 0 ya (by omega) (by rw [HL.out.1];rfl)) (HA.out 1 yb (by omega) (by rw [HL.out.1];rfl))
          ·rw [h3] at hz ⊢
           exact HOK.out (by omega) j z (by omega) hz
         have hiL:i+1≤K3.length:=by have h1:=HE3.out.len;have h2:=HJ.out;omega
         clear HMM HA hq9
         go_wp2_with fail
         go_roundw
         case rel=>exact ⟨i+1,K3,by go_num,hiL,HKI.out,HEK3.out,HOK3.out,HO.out,hm.tail⟩
         case measure=>simp [intOf];omega
      ·by_cases hk3:x.k=3
       ·have hmx2:mx=2:=by rw [HMXL.out (),hkl,hk3];rfl
        obtain ⟨ya,yb,hl⟩:=eJ (l:=x.l) (by rw [hkl,hk3];rfl)
        have HL:Hid (x.l=[ya,yb]∧x.k=3):=⟨hl,hk3⟩
        have hkb:(x.k==4)=false:=beq_eq_false_iff_ne.2 hk4
        have hkc:(x.k==3)=true:=beq_iff_eq.2 hk3
        have hda:=HKI.out.der x HMX.out
        have hta:=HKI.out.inT x HMX.out
        subst hmx2
        obtain ⟨b2,o2,hp2⟩:=HXS.out.at (by omega)
        subst hp2
        obtain ⟨pa,ma,ca,d0,d1,d2,ea,hsa⟩:=HXS.out.cells (show x.l[0]?=some ya by rw [hl];rfl)
        obtain ⟨pb,mb,cb,f0,f1,f2,eb,hsb⟩:=HXS.out.cells (show x.l[1]?=some yb by rw [hl];rfl)
        have HCA:Hid (∀W,Below wr.heap.size wr W→W.cell? ⟨b2,o2+0 * 3,none⟩=some (.int .i64 ya.k)∧W.cell? ⟨b2,o2+0 * 3+1,none⟩=some (.int .i64 ya.n)∧W.cell? ⟨b2,o2+0 * 3+2,none⟩=some (.slice pa ma ca)):=fun W hW=>⟨(hW.cell (p:=⟨b2,_,none⟩) (block_lt_of_cell d0)).trans d0,(hW.cell (p:=⟨b2,_,none⟩) (block_lt_of_cell d1)).trans d1,(hW.cell (p:=⟨b2,_,none⟩) (block_lt_of_cell d2)).trans d2⟩
        have HCB:Hid (∀W,Below wr.heap.size wr W→W.cell? ⟨b2,o2+1 * 3,none⟩=some (.int .i64 yb.k)∧W.cell? ⟨b2,o2+1 * 3+1,none⟩=some (.int .i64 yb.n)∧W.cell? ⟨b2,o2+1 * 3+2,none⟩=some (.slice pb mb cb)):=fun W hW=>⟨(hW.cell (p:=⟨b2,_,none⟩) (block_lt_of_cell f0)).trans f0,(hW.cell (p:=⟨b2,_,none⟩) (block_lt_of_cell f1)).trans f1,(hW.cell (p:=⟨b2,_,none⟩) (block_lt_of_cell f2)).trans f2⟩
        have HSA:Hid (SlT (FO wr (.slice (some ⟨b,o,none⟩) nj cj)) wr (.slice pa ma ca) ya.l):=hsa
        have HSB:Hid (SlT (FO wr (.slice (some ⟨b,o,none⟩) nj cj)) wr (.slice pb mb cb) yb.l):=hsb
        have HYT:Hid (yb∈webWs (bl.filter isT) []∧okT ya=true):=⟨web_kid hta (by rw [hl];simp),aM HOX.out (by rw [hl];simp)⟩
        have HIN:∀v:Bool,(v=true↔yb∈J)→Hid (∀W,Below wr.heap.size wr W→Calls Tryz.prog 20 #[.slice (some ⟨b,o,none⟩) nj cj,.agg (tcs yb (.slice pb mb cb)).toArray] W fun e w'=>e=.returned (.bool v)∧Below W.heap.size W w'):=fun v hv W hW=>dF J yb _ nj cj _ W v hv (HNK.out ()) (by have h9:=HKL.out;have h8:=HNK.out ();omega) (fun z hz=>Nat.le_trans (az.1 (HKI.out.is9 hz)).1 (by omega)) (HO.out.slt.below hW) (HSB.out.below hW)
        have HBU:∀v:Bool,(v=true↔Syn (· ∈ J) ya)→Hid (∀W,Below wr.heap.size wr W→Calls Tryz.prog 30 #[.slice (some ⟨b,o,none⟩) nj cj,.agg (tcs ya (.slice pa ma ca)).toArray] W fun e w'=>e=.returned (.bool v)∧Below W.heap.size W w'):=fun v hv W hW=>dy J _ nj cj (HNK.out ()) (by have h9:=HKL.out;have h8:=HNK.out ();omega) (fun z hz=>Nat.le_trans (az.1 (HKI.out.is9 hz)).1 (by omega)) ya _ W v hv (by rw [bg (aS HYT.out.2)];unfold kn;split<;>(try split)<;>omega) (fun z hz=>aM HYT.out.2 hz) (HO.out.slt.below hW) (HSA.out.below hW)
        have HDA:Hid (Der (inB bl) x):=hda
        clear hkr hkl hl d0 d1 d2 ea hsa f0 f1 f2 eb hsb hda hta
        by_cases hyk:yb∈J
        ·have HIN2:=HIN true ⟨fun _=>hyk,fun _=>rfl⟩
         have HOK2:Hid (J.length=K.length→∀j z,j<i+1→J[j]?=some z→Okd J z):=fun hlen j z hj hz=>by
          by_cases h:j=i
          ·subst h
           rw [HGX.out] at hz
           rw [←Option.some.inj hz]
           exact okd_of3 HL.out.2 HL.out.1 fun _=>hyk
          ·exact HOK.out hlen j z (by omega) hz
         clear HIN HBU hyk
         go_wp2_with (first
          | ((with_reducible refine af (some 46) (.indexAddr 22 (.tmp 44) (.tmp 45)) ?_);go_must (refine aa (.pointer (some ⟨b,o+i * 3,none⟩)) rfl (ak i rfl rfl rfl hlt) ?_))
          | ((with_reducible refine af (some 47) (.load 24 (.tmp 46)) ?_);go_must (refine aa (.agg (tcs x (.slice (some ⟨b2,o2,none⟩) 2 cx)).toArray) rfl (am rfl a0 a1 a2) ?_))
          | ((with_reducible refine af (some 7) (.alloc 24) ?_);go_must (refine bG _ ax hm ?_);clear hm;intro w7 g7 hb hg hm;have HB7:Hid (Below wr.heap.size wr w7∧wr.heap.size≤g7):=⟨hb,hg⟩;clear hb hg)
          | ((with_reducible refine af none (.store 24 (.tmp 7) (.tmp 47)) ?_);go_must (refine bq 0 (tcs x (.slice (some ⟨b2,o2,none⟩) 2 cx)) hm rfl rfl rfl 3 aj rfl rfl (aY _ _ _ _) ?_);clear hm;intro w8 hu hm;have HB8:Hid (Below wr.heap.size wr w8):=Below.updN HB7.out.1 hu HB7.out.2 HB7.out.1.size;have HO8:Hid (OT w.heap.size w8 (.slice (some ⟨b,o,none⟩) nj cj) J):=HO.out.below HB8.out;have HX8:Hid (SlT (FO w8 (.slice (some ⟨b,o,none⟩) nj cj)) w8 (.slice (some ⟨b2,o2,none⟩) 2 cx) x.l):=HXS.out.keep (bA HB8.out);clear hu)
          | ((with_reducible refine af (some 49) (.load 3 (.tmp 48)) ?_);go_must (refine aa (.int .i64 x.k) rfl (ad (.int .i64 x.k) (Mem.cell hm 0 rfl 0) rfl ag) ?_))
          | ((with_reducible refine af (some 76) (.load 22 (.tmp 75)) ?_);go_must (refine aa (.slice (some ⟨b2,o2,none⟩) 2 cx) rfl (ad (.slice (some ⟨b2,o2,none⟩) 2 cx) (Mem.cell hm 0 rfl 2) rfl ah) ?_))
          | ((with_reducible refine af (some 77) (.indexAddr 22 (.tmp 76) (.const (.int .i64 1))) ?_);go_must (refine aa (.pointer (some ⟨b2,o2+1 * 3,none⟩)) rfl (ak 1 rfl rfl rfl (by omega)) ?_))
          | ((with_reducible refine af (some 78) (.load 24 (.tmp 77)) ?_);go_must (refine aa (.agg (tcs yb (.slice pb mb cb)).toArray) rfl (am rfl (HCB.out _ HB8.out).1 (HCB.out _ HB8.out).2.1 (HCB.out _ HB8.out).2.2) ?_))
          | (go_at_call 20;go_must (refine (HIN2.out _ HB8.out).mono ?_);rintro e w79 ⟨he,hb⟩;subst he;have HB79:Hid (Below wr.heap.size wr w79):=HB8.out.trans (hb.mono HB8.out.size);replace hm:=hm.call hb;clear hb))
         go_roundw
         case rel=>exact ⟨i+1,J,by go_num,by rw [HJ.out];omega,HKI.out,HEX.out,HOK2.out,HO.out.below HB79.out,hm.tail⟩
         case measure=>simp [intOf];omega
        ·have HNB:Hid (¬yb∈J):=hyk
         have HIN2:=HIN false ⟨(fun h=>by cases h),fun h=>absurd h hyk⟩
         by_cases hsy:Syn (· ∈ J) ya
         ·have HBU2:=HBU true ⟨fun _=>hsy,fun _=>rfl⟩
          have HKI2:Hid (KI bl (J++[yb])):=HKI.out.add hyk HYT.out.1 (.opened HDA.out HL.out.2 HL.out.1 (syn_derK HKI.out.der hsy))
          have HOK2:Hid ((J++[yb]).length=K.length→∀j z,j<i+1→(J++[yb])[j]?=some z→Okd (J++[yb]) z):=fun hlen=>by
           have h1:=HEX.out.len
           rw [List.length_append,List.length_singleton] at hlen
           omega
          clear HIN HBU hyk hsy
          go_wp2_with (first
           | ((with_reducible refine af (some 46) (.indexAddr 22 (.tmp 44) (.tmp 45)) ?_);go_must (refine aa (.pointer (some ⟨b,o+i * 3,none⟩)) rfl (ak i rfl rfl rfl hlt) ?_))
           | ((with_reducible refine af (some 47) (.load 24 (.tmp 46)) ?_);go_must (refine aa (.agg (tcs x (.slice (some ⟨b2,o2,none⟩) 2 cx)).toArray) rfl (am rfl a0 a1 a2) ?_))
           | ((with_reducible refine af (some 7) (.alloc 24) ?_);go_must (refine bG _ ax hm ?_);clear hm;intro w7 g7 hb hg hm;have HB7:Hid (Below wr.heap.size wr w7∧wr.heap.size≤g7):=⟨hb,hg⟩;clear hb hg)
           | ((with_reducible refine af none (.store 24 (.tmp 7) (.tmp 47)) ?_);go_must (refine bq 0 (tcs x (.slice (some ⟨b2,o2,none⟩) 2 cx)) hm rfl rfl rfl 3 aj rfl rfl (aY _ _ _ _) ?_);clear hm;intro w8 hu hm;have HB8:Hid (Below wr.heap.size wr w8):=Below.updN HB7.out.1 hu HB7.out.2 HB7.out.1.size;have HO8:Hid (OT w.heap.size w8 (.slice (some ⟨b,o,none⟩) nj cj) J):=HO.out.below HB8.out;have HX8:Hid (SlT (FO w8 (.slice (some ⟨b,o,none⟩) nj cj)) w8 (.slice (some ⟨b2,o2,none⟩) 2 cx) x.l):=HXS.out.keep (bA HB8.out);clear hu)
           | ((with_reducible refine af (some 49) (.load 3 (.tmp 48)) ?_);go_must (refine aa (.int .i64 x.k) rfl (ad (.int .i64 x.k) (Mem.cell hm 0 rfl 0) rfl ag) ?_))
           | ((with_reducible refine af (some 76) (.load 22 (.tmp 75)) ?_);go_must (refine aa (.slice (some ⟨b2,o2,none⟩) 2 cx) rfl (ad (.slice (some ⟨b2,o2,none⟩) 2 cx) (Mem.cell hm 0 rfl 2) rfl ah) ?_))
           | ((with_reducible refine af (some 77) (.indexAddr 22 (.tmp 76) (.const (.int .i64 1))) ?_);go_must (refine aa (.pointer (some ⟨b2,o2+1 * 3,none⟩)) rfl (ak 1 rfl rfl rfl (by omega)) ?_))
           | ((with_reducible refine af (some 78) (.load 24 (.tmp 77)) ?_);go_must (refine aa (.agg (tcs yb (.slice pb mb cb)).toArray) rfl (am rfl (HCB.out _ HB8.out).1 (HCB.out _ HB8.out).2.1 (HCB.out _ HB8.out).2.2) ?_))
           | (go_at_call 20;go_must (refine (HIN2.out _ HB8.out).mono ?_);rintro e w79 ⟨he,hb⟩;subst he;have HB79:Hid (Below wr.heap.size wr w79):=HB8.out.trans (hb.mono HB8.out.size);replace hm:=hm.call hb;clear hb)
           | ((with_reducible refine aC (some 84) (.load 22 (.tmp 83)) (some (7,true)) ?_);go_must (refine aa (.slice (some ⟨b2,o2,none⟩) 2 cx) rfl (ad (.slice (some ⟨b2,o2,none⟩) 2 cx) (Mem.cell hm 0 rfl 2) rfl ah) ?_))
           | ((with_reducible refine aC (some 85) (.indexAddr 22 (.tmp 84) (.const (.int .i64 0))) (some (7,true)) ?_);go_must (refine aa (.pointer (some ⟨b2,o2+0 * 3,none⟩)) rfl (ak 0 rfl rfl rfl (by omega)) ?_))
           | ((with_reducible refine aC (some 86) (.load 24 (.tmp 85)) (some (7,true)) ?_);go_must (refine aa (.agg (tcs ya (.slice pa ma ca)).toArray) rfl (am rfl (HCA.out _ HB79.out).1 (HCA.out _ HB79.out).2.1 (HCA.out _ HB79.out).2.2) ?_))
           | (go_at_call 30;go_must (refine (HBU2.out _ HB79.out).mono ?_);rintro e w87 ⟨he,hb⟩;subst he;have HB87:Hid (Below wr.heap.size wr w87):=HB79.out.trans (hb.mono HB79.out.size);replace hm:=hm.call hb;clear hb)
           | ((with_reducible refine af (some 91) (.load 22 (.tmp 90)) ?_);go_must (refine aa (.slice (some ⟨b2,o2,none⟩) 2 cx) rfl (ad (.slice (some ⟨b2,o2,none⟩) 2 cx) (Mem.cell hm 0 rfl 2) rfl ah) ?_))
           | ((with_reducible refine af (some 92) (.indexAddr 22 (.tmp 91) (.const (.int .i64 1))) ?_);go_must (refine aa (.pointer (some ⟨b2,o2+1 * 3,none⟩)) rfl (ak 1 rfl rfl rfl (by omega)) ?_))
           | ((with_reducible refine af (some 93) (.load 24 (.tmp 92)) ?_);go_must (refine aa (.agg (tcs yb (.slice pb mb cb)).toArray) rfl (am rfl (HCB.out _ HB87.out).1 (HCB.out _ HB87.out).2.1 (HCB.out _ HB87.out).2.2) ?_))
           | ((with_reducible refine af (some 94) (.buildSlice 22 1 #[(0,.tmp 93)]) ?_);go_must (refine bj (yb) (.slice pb mb cb) rfl rfl hm ?_);clear hm;intro w94 g94 hb hg hm;have hb94:Below wr.heap.size wr w94:=HB87.out.trans (hb.mono HB87.out.size);have HO94:Hid (OT w.heap.size w94 (.slice (some ⟨b,o,none⟩) nj cj) J):=HO.out.below hb94;have HN94:Hid (some g94≠(Value.slice (some ⟨b,o,none⟩) nj cj).ownBlock):=HO.out.ne (Nat.le_trans HB87.out.size hg);have HN7:Hid (some g7≠(Value.slice (some ⟨b,o,none⟩) nj cj).ownBlock):=HO.out.ne HB7.out.2;have HSL:Hid (SlT (FO w94 (.slice (some ⟨b,o,none⟩) nj cj)) w94 (.slice (some ⟨g94,0,none⟩) 1 1) [yb]):=bO (hm.get 0 rfl) (HSB.out.keep (bA hb94)) ⟨(hm.get 0 rfl).lt,HN94.out⟩;clear hb94;clear hb hg)
           | ((with_reducible refine af (some 95) (.call {callee:=.builtin .append,args:=#[.tmp 89,.tmp 94],argTypes:=#[22,22]}) ?_);go_must (refine aN (base:=w.heap.size) rfl rfl rfl hm HO94.out rfl HSL.out (by have h9:=HKL.out;omega) (Nat.le_refl _) hm.size (bx HN94.out (bx HN7.out a6)) ?_);intro v95 w95 ho hg hb9 hm5;have HOw95:Hid (OT w.heap.size w95 v95 (J++[yb])):=ho;clear hm ho hg hb9;have hm:=hm5;clear hm5))
          go_roundw
          case rel=>exact ⟨i+1,J++[yb],by go_num,by rw [List.length_append,HJ.out];simp;omega,HKI2.out,HEX.out.trans (Ext.one _ _),HOK2.out,HOw95.out,hm.tail.tail⟩
          case measure=>simp [intOf];omega
         ·have HBU2:=HBU false ⟨(fun h=>by cases h),fun h=>absurd h hsy⟩
          have HOK2:Hid (J.length=K.length→∀j z,j<i+1→J[j]?=some z→Okd J z):=fun hlen j z hj hz=>by
           by_cases h:j=i
           ·subst h
            rw [HGX.out] at hz
            rw [←Option.some.inj hz]
            exact okd_of3 HL.out.2 HL.out.1 fun h9=>absurd h9 hsy
           ·exact HOK.out hlen j z (by omega) hz
          clear HIN HBU hyk hsy
          go_wp2_with (first
           | ((with_reducible refine af (some 46) (.indexAddr 22 (.tmp 44) (.tmp 45)) ?_);go_must (refine aa (.pointer (some ⟨b,o+i * 3,none⟩)) rfl (ak i rfl rfl rfl hlt) ?_))
           | ((with_reducible refine af (some 47) (.load 24 (.tmp 46)) ?_);go_must (refine aa (.agg (tcs x (.slice (some ⟨b2,o2,none⟩) 2 cx)).toArray) rfl (am rfl a0 a1 a2) ?_))
           | ((with_reducible refine af (some 7) (.alloc 24) ?_);go_must (refine bG _ ax hm ?_);clear hm;intro w7 g7 hb hg hm;have HB7:Hid (Below wr.heap.size wr w7∧wr.heap.size≤g7):=⟨hb,hg⟩;clear hb hg)
           | ((with_reducible refine af none (.store 24 (.tmp 7) (.tmp 47)) ?_);go_must (refine bq 0 (tcs x (.slice (some ⟨b2,o2,none⟩) 2 cx)) hm rfl rfl rfl 3 aj rfl rfl (aY _ _ _ _) ?_);clear hm;intro w8 hu hm;have HB8:Hid (Below wr.heap.size wr w8):=Below.updN HB7.out.1 hu HB7.out.2 HB7.out.1.size;have HO8:Hid (OT w.heap.size w8 (.slice (some ⟨b,o,none⟩) nj cj) J):=HO.out.below HB8.out;have HX8:Hid (SlT (FO w8 (.slice (some ⟨b,o,none⟩) nj cj)) w8 (.slice (some ⟨b2,o2,none⟩) 2 cx) x.l):=HXS.out.keep (bA HB8.out);clear hu)
           | ((with_reducible refine af (some 49) (.load 3 (.tmp 48)) ?_);go_must (refine aa (.int .i64 x.k) rfl (ad (.int .i64 x.k) (Mem.cell hm 0 rfl 0) rfl ag) ?_))
           | ((with_reducible refine af (some 76) (.load 22 (.tmp 75)) ?_);go_must (refine aa (.slice (some ⟨b2,o2,none⟩) 2 cx) rfl (ad (.slice (some ⟨b2,o2,none⟩) 2 cx) (Mem.cell hm 0 rfl 2) rfl ah) ?_))
           | ((with_reducible refine af (some 77) (.indexAddr 22 (.tmp 76) (.const (.int .i64 1))) ?_);go_must (refine aa (.pointer (some ⟨b2,o2+1 * 3,none⟩)) rfl (ak 1 rfl rfl rfl (by omega)) ?_))
           | ((with_reducible refine af (some 78) (.load 24 (.tmp 77)) ?_);go_must (refine aa (.agg (tcs yb (.slice pb mb cb)).toArray) rfl (am rfl (HCB.out _ HB8.out).1 (HCB.out _ HB8.out).2.1 (HCB.out _ HB8.out).2.2) ?_))
           | (go_at_call 20;go_must (refine (HIN2.out _ HB8.out).mono ?_);rintro e w79 ⟨he,hb⟩;subst he;have HB79:Hid (Below wr.heap.size wr w79):=HB8.out.trans (hb.mono HB8.out.size);replace hm:=hm.call hb;clear hb)
           | ((with_reducible refine aC (some 84) (.load 22 (.tmp 83)) (some (7,true)) ?_);go_must (refine aa (.slice (some ⟨b2,o2,none⟩) 2 cx) rfl (ad (.slice (some ⟨b2,o2,none⟩) 2 cx) (Mem.cell hm 0 rfl 2) rfl ah) ?_))
           | ((with_reducible refine aC (some 85) (.indexAddr 22 (.tmp 84) (.const (.int .i64 0))) (some (7,true)) ?_);go_must (refine aa (.pointer (some ⟨b2,o2+0 * 3,none⟩)) rfl (ak 0 rfl rfl rfl (by omega)) ?_))
           | ((with_reducible refine aC (some 86) (.load 24 (.tmp 85)) (some (7,true)) ?_);go_must (refine aa (.agg (tcs ya (.slice pa ma ca)).toArray) rfl (am rfl (HCA.out _ HB79.out).1 (HCA.out _ HB79.out).2.1 (HCA.out _ HB79.out).2.2) ?_))
           | (go_at_call 30;go_must (refine (HBU2.out _ HB79.out).mono ?_);rintro e w87 ⟨he,hb⟩;subst he;have HB87:Hid (Below wr.heap.size wr w87):=HB79.out.trans (hb.mono HB79.out.size);replace hm:=hm.call hb;clear hb))
          go_roundw
          case rel=>exact ⟨i+1,J,by go_num,by rw [HJ.out];omega,HKI.out,HEX.out,HOK2.out,HO.out.below HB87.out,hm.tail⟩
          case measure=>simp [intOf];omega
       ·have hkb:(x.k==4)=false:=beq_eq_false_iff_ne.2 hk4
        have hkc:(x.k==3)=false:=beq_eq_false_iff_ne.2 hk3
        have HOK2:Hid (J.length=K.length→∀j z,j<i+1→J[j]?=some z→Okd J z):=fun hlen j z hj hz=>by
         by_cases h:j=i
         ·subst h
          rw [HGX.out] at hz
          rw [←Option.some.inj hz]
          exact okd_else hk3 hk4
         ·exact HOK.out hlen j z (by omega) hz
        clear hkr hkl
        go_wp2_with (first
         | ((with_reducible refine af (some 46) (.indexAddr 22 (.tmp 44) (.tmp 45)) ?_);go_must (refine aa (.pointer (some ⟨b,o+i * 3,none⟩)) rfl (ak i rfl rfl rfl hlt) ?_))
         | ((with_reducible refine af (some 47) (.load 24 (.tmp 46)) ?_);go_must (refine aa (.agg (tcs x (.slice px mx cx)).toArray) rfl (am rfl a0 a1 a2) ?_))
         | ((with_reducible refine af (some 7) (.alloc 24) ?_);go_must (refine bG _ ax hm ?_);clear hm;intro w7 g7 hb hg hm;have HB7:Hid (Below wr.heap.size wr w7∧wr.heap.size≤g7):=⟨hb,hg⟩;clear hb hg)
         | ((with_reducible refine af none (.store 24 (.tmp 7) (.tmp 47)) ?_);go_must (refine bq 0 (tcs x (.slice px mx cx)) hm rfl rfl rfl 3 aj rfl rfl (aY _ _ _ _) ?_);clear hm;intro w8 hu hm;have HB8:Hid (Below wr.heap.size wr w8):=Below.updN HB7.out.1 hu HB7.out.2 HB7.out.1.size;have HO8:Hid (OT w.heap.size w8 (.slice (some ⟨b,o,none⟩) nj cj) J):=HO.out.below HB8.out;have HX8:Hid (SlT (FO w8 (.slice (some ⟨b,o,none⟩) nj cj)) w8 (.slice px mx cx) x.l):=HXS.out.keep (bA HB8.out);clear hu)
         | ((with_reducible refine af (some 49) (.load 3 (.tmp 48)) ?_);go_must (refine aa (.int .i64 x.k) rfl (ad (.int .i64 x.k) (Mem.cell hm 0 rfl 0) rfl ag) ?_)))
        go_roundw
        case rel=>exact ⟨i+1,J,by go_num,by rw [HJ.out];omega,HKI.out,HEX.out,HOK2.out,HO8.out,hm.tail⟩
        case measure=>simp [intOf];omega
     ·have hni:¬(i:Int)<(nj:Int):=by omega
      have HALL:Hid (J.length=K.length→∀x∈J,Okd J x):=fun hlen x hx=>by
       obtain ⟨j,hj,he⟩:=List.getElem_of_mem hx
       exact HOK.out hlen j x (by have:=HNK.out ();omega) (by rw [List.getElem?_eq_getElem hj,he])
      have HBJ:Hid (∀x∈bl,isT x=true→x∈J):=fun x hx hi=>HEX.out.sub (HIB.out x hx hi)
      have hge:nk≤nj:=by have h1:=HEX.out.len;have h2:=HK0.out;have h3:=HNK.out ();omega
      clear HMM
      by_cases heq:nj=nk
      ·have HTK:Hid (Taken bl J):=⟨fun x hx=>HBJ.out x hx.1 hx.2,HALL.out (by have h2:=HK0.out;have h3:=HNK.out ();omega),HKI.out.der⟩
       subst heq
       go_wp2_with fail
       go_ret
       exact ⟨_,rfl,J,HTK.out,fun x hx=>HKI.out.is9 hx,HKL.out,HO.out.slt,hm.below⟩
      ·have hne:((nj:Int)==(nk:Int))=false:=beq_eq_false_iff_ne.2 (by omega)
       have hne2:¬(nj:Int)=(nk:Int):=by omega
       go_wp2_with fail
       go_roundw
       case rel=>exact ⟨J,HKI.out,HBJ.out,HO.out,hm⟩
       case measure=>simp [lenV];omega
end Go.Proofs.YtcibhfcjbokdlaaGreatDoor
