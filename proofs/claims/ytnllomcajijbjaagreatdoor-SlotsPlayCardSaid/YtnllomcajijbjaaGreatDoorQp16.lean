import Derived.Test.YtnllomcajijbjaaGreatDoorQp15
set_option maxRecDepth 100000
set_option maxHeartbeats 4000000
namespace Go.Proofs.YtnllomcajijbjaaGreatDoor
open Go Go.RowKit Go.Maps
theorem cw {d:Dk} {l:List (Nat×List Int)} {ls:List (List (Nat×List Int))} (h:(phs d l).2=true):kps d (l::ls)=kps (phs d l).1 ls:=by rw [kps,if_pos h]
theorem cX {d:Dk} {l:List (Nat×List Int)} {ls:List (List (Nat×List Int))} (h:(phs d l).2=false):kps d (l::ls)=phs d l:=by rw [kps,if_neg (by rw [h];simp)]
theorem phs_cut {d e:Dk} {l:List (Nat×List Int)} (h:wrs d l=(e,false)):phs d l=(e,false):=by
 unfold phs
 rw [h]
 rfl
theorem phs_off {d e:Dk} {l:List (Nat×List Int)} (h:wrs d l=(e,true)) (ho:e.step.off=true):phs d l=(e.step,false):=by
 unfold phs
 rw [h]
 simp [ho]
theorem phs_on {d e:Dk} {l:List (Nat×List Int)} (h:wrs d l=(e,true)) (ho:e.step.off=false):phs d l=(e.step.flushed,true):=by
 unfold phs
 rw [h]
 simp [ho]
theorem over_whole {old l:List Int} (ho:old.length=64) (hl:l.length=64):over old l=l:=by
 unfold over
 rw [List.drop_of_length_le (by omega),List.append_nil]
theorem drop_at {α:Type} {l:List α} {j:Nat} {x:α} (h:l[j]?=some x):l.drop j=x::l.drop (j+1):=by
 obtain ⟨hj,hx⟩:=List.getElem?_eq_some_iff.1 h
 rw [List.drop_eq_getElem_cons hj,hx]
theorem phL_at {p:Nat→Option (List Int)} {n j i:Nat} {c:List Int} (h:(pensP p n)[j]?=some i) (hc:p i=some c):(phL p n)[j]?=some (i,c):=by
 unfold phL
 rw [List.getElem?_map,h,Option.map_some,hc]
 rfl
theorem fX (p:Nat→Option (List Int)) (n:Nat):(phL p n).length=(pensP p n).length:=by simp [phL]
def lsOf (p:Nat→Nat→Option (List Int)) (n K:Nat):List (List (Nat×List Int)):=(List.range K).map fun j=>phL (p j) n
theorem lsOf_at {p:Nat→Nat→Option (List Int)} {n K k:Nat} (h:k<K):(lsOf p n K)[k]?=some (phL (p k) n):=by
 unfold lsOf
 rw [List.getElem?_map,List.getElem?_range h]
 rfl
theorem e8 (p:Nat→Nat→Option (List Int)) (n K:Nat):(lsOf p n K).length=K:=by simp [lsOf]
def kcode (b:Bool):Int:=if b=true then 0 else 61
theorem jw (g mb:Nat) (kv:Value) (d:Dk) (K k0 bs:Nat) (m:Nat→Nat) (p:Nat→Nat→Option (List Int)) (hK:K≤3) (hk0:k0≤1000000) (hn:d.n≤200) (hp:∀j,j<K→PhOk d.n (p j)) (hnu:d.Nm k0) (w:World) (hd:DkAt w g mb kv d) (hbs:bs ∉ foot g mb kv) (hbl:bs<w.heap.size)
  (hc:∀j,j<K→w.cell? ⟨bs,0+j,none⟩=some (.map (some (m j)))) (hph:∀j,j<K→PhM w (m j) (p j)∧m j ∉ foot g mb kv) :
  Calls Tryz.prog 22 #[.pointer (some ⟨g,0,none⟩),.slice (some ⟨bs,0,none⟩) K K] w fun e w'=>e=.returned (.int .i64 (kcode (kps d (lsOf p d.n K)).2))∧DkAt w' g mb kv (kps d (lsOf p d.n K)).1∧UpdS (foot g mb kv) w w':=by
 have HP:Hid (∀j,j<K→PhOk d.n (p j)):=hp
 have HC:Hid (∀j,j<K→w.cell? ⟨bs,0+j,none⟩=some (.map (some (m j)))):=hc
 have HPH:Hid (∀j,j<K→PhM w (m j) (p j)∧m j ∉ foot g mb kv):=hph
 have HBS:Hid (bs ∉ foot g mb kv):=hbs
 have HBL:Hid (bs<w.heap.size):=hbl
 obtain ⟨ls,hls⟩:∃ls,ls=lsOf p d.n K:=⟨_,rfl⟩
 have HLS:Hid (∀k,k<K→ls[k]?=some (phL (p k) d.n)):=fun k hk=>by rw [hls];exact lsOf_at hk
 have HLL:Hid (ls.length=K):=by show _=_;rw [hls];exact e8 _ _ _
 rw [←hls]
 have HST:Hid (DkAt w g mb kv d):=hd
 have HNM:Hid (d.Nm k0):=hnu
 have hFT:∀q∈foot g mb kv,q<w.heap.size:=hd.lt
 have HFT:Hid (∀q∈foot g mb kv,q<w.heap.size):=hFT
 obtain ⟨n,hn0⟩:∃n,n=d.n:=⟨_,rfl⟩
 have HN:Hid (∀_:Unit,d.n=n):=fun _=>hn0.symm
 have hn2:n≤200:=by omega
 clear hp hc hph hbs hbl hls hd hnu hFT hn0 hn
 go_enter Tryz.func22,Tryz.ntmps22
 go_wp2_with fail
 go_loopw [14] (fun vi wr=>∃(k:Nat) (dk:Dk),k≤K∧vi=.int .i64 (k:Int)∧Hid (DkAt wr g mb kv dk∧UpdS (foot g mb kv) w wr∧dk.n=d.n∧dk.Nm (k0+300 * k)∧kps d ls=kps dk (ls.drop k))) (fun vi _=>K - (intOf vi).toNat)
 case atStart=>exact ⟨0,d,by omega,rfl,⟨HST.out,UpdS.refl _ w,rfl,HNM.out,rfl⟩⟩
 case round =>
  clear HST
  obtain ⟨k,dk,hk,rfl,HI⟩:=hrel
  by_cases hlt:k<K
  ·have hki:(k:Int)<(K:Int):=by omega
   have HCK:Hid (wr.cell? ⟨bs,0+k,none⟩=some (.map (some (m k)))):=by
    show _=_
    rw [World.cell?_of_block (w:=w) (a:=⟨bs,0+k,none⟩) (HI.out.2.1.block bs HBL.out HBS.out)]
    exact HC.out k hlt
   have HPK:Hid (PhM wr (m k) (p k)):=(HPH.out k hlt).1.updS HI.out.2.1 (HPH.out k hlt).2
   have HPO:Hid (PhOk d.n (p k)):=HP.out k hlt
   obtain ⟨B,hB⟩:∃B,B=wr.heap.size:=⟨_,rfl⟩
   have HB0:Hid (∀_:Unit,wr.heap.size=B):=fun _=>hB.symm
   have HFB:Hid (∀q∈foot g mb kv,q<B):=fun q hq=>by rw [hB];exact Nat.lt_of_lt_of_le (HFT.out q hq) HI.out.2.1.size
   clear hB
   have HLK:Hid (ls.drop k=phL (p k) d.n::ls.drop (k+1)):=drop_at (HLS.out k hlt)
   obtain ⟨l,hl⟩:∃l,l=phL (p k) d.n:=⟨_,rfl⟩
   have HL:Hid (∀_:Unit,phL (p k) d.n=l):=fun _=>hl.symm
   obtain ⟨J,hJ⟩:∃J,J=(pensP (p k) d.n).length:=⟨_,rfl⟩
   have HJ:Hid (∀_:Unit,(pensP (p k) d.n).length=J):=fun _=>hJ.symm
   have hJn:J≤n:=by rw [hJ,←HN.out ()];exact eT _ _
   have HLJ:Hid (l.length=J):=by show _=_;rw [hl,hJ,fX]
   clear hl hJ
   go_wp2_with (first
    | ((with_reducible refine aa (some 16) (.indexAddr 90 (.tmp 12) (.tmp 14)) ?_);go_must (refine ae (.pointer (some ⟨bs,0+k,none⟩)) rfl (cC un_phs sz_pmap k rfl rfl rfl hlt) ?_))
    | ((with_reducible refine aa (some 17) (.load 55 (.tmp 16)) ?_);go_must (refine aQ (.map (some (m k))) HCK.out rfl ag_pmap ?_))
    | (go_at_call 37;refine (keysB_call (some (m k)) _).mono ?_;rintro e w1 ⟨rfl,rfl⟩)
    | (go_at_call 30;refine (sorted_ph (m k) d.n (p k) (by rw [HN.out ()];omega) HPO.out _ HPK.out).mono ?_;rintro e w2 ⟨v2,rfl,hin,hb⟩;rw [HB0.out ()] at hin;have HIN0:Hid (Ints w2 B v2 (pensP (p k) d.n)):=hin;have HB2:Hid (Below wr.heap.size wr w2):=hb;clear hin hb;obtain ⟨pv,cv,hv2,hpv⟩:=HIN0.out;rw [HJ.out ()] at hv2;subst hv2;clear hpv))
   have HS2:Hid (DkAt w2 g mb kv dk∧UpdS (foot g mb kv) w w2):=⟨HI.out.1.below HB2.out,HI.out.2.1.trans (UpdS.of_below HB2.out)⟩
   go_loopw [22] (fun vj wr=>∃(j:Nat) (dj:Dk),j≤J∧vj=.int .i64 (j:Int)∧Hid (DkAt wr g mb kv dj∧UpdS (foot g mb kv) w wr∧dj.n=d.n∧dj.Nm (k0+300 * k+j)∧wrs dk l=wrs dj (l.drop j))∧Hid (Ints wr B (.slice pv J cv) (pensP (p k) d.n))) (fun vj _=>J - (intOf vj).toNat)
   case atStart=>exact ⟨0,dk,by omega,rfl,⟨HS2.out.1,HS2.out.2,HI.out.2.2.1,HI.out.2.2.2.1,rfl⟩,HIN0.out⟩
   case round =>
    clear HS2 HIN0
    obtain ⟨j,dj,hj,rfl,HQ,HIN⟩:=hrel
    by_cases hjt:j<J
    ·have hji:(j:Int)<(J:Int):=by omega
     obtain ⟨i,hi0⟩:∃i,(pensP (p k) d.n)[j]?=some i:=⟨_,List.getElem?_eq_getElem (by rw [HJ.out ()];exact hjt)⟩
     have hmem:=(eF (p k) d.n i).1 (List.mem_of_getElem? hi0)
     obtain ⟨c,hpc⟩:=Option.isSome_iff_exists.1 hmem.2
     have hok:=HPO.out.at_ i c hpc
     have HPI:Hid (p k i=some c):=hpc
     have HIN2:Hid (i<dj.n):=by show _<_;rw [HQ.out.2.2.1];exact hok.1
     have HI4:Hid (i≤4000):=by have:=hok.1;rw [HN.out ()] at this;show i≤4000;omega
     have HCL:Hid (c.length=64):=hok.2.1
     have HCB:Hid (Bytes c):=hok.2.2
     have HCU:Hid ((u8s c).length=64):=by show _=_;rw [ab,hok.2.1]
     have HLD:Hid (l.drop j=(i,c)::l.drop (j+1)):=by rw [←HL.out ()];exact drop_at (phL_at hi0 hpc)
     obtain ⟨pv',cv',hv',hp2⟩:=HIN.out
     have hp3:=hp2 (by rw [HJ.out ()];omega)
     simp only [Value.slice.injEq] at hv'
     have hv1:=hv'.1
     clear hv'
     obtain ⟨b,hpb,_,_,hcells⟩:=hp3
     rw [hpb] at hv1
     have HCI:Hid (wr.cell? ⟨b,j,none⟩=some (.int .i64 (i:Int))):=hcells j i hi0
     subst hv1
     have HPM:Hid (PhM wr (m k) (p k)):=(HPH.out k hlt).1.updS HQ.out.2.1 (HPH.out k hlt).2
     have hm:=Mem.start wr
     clear hi0 hmem hpc hok hp2 hpb hcells
     by_cases ho:dj.step.off=true
     ·have HO:Hid (dj.step.off=true):=ho
      have HRES:Hid (kps d ls=(dj.step,false)):=by
       have h1:wrs dk l=(dj.step,false):=by rw [HQ.out.2.2.2.2,HLD.out,wrs,if_pos ho]
       show _=_
       rw [HI.out.2.2.2.2,HLK.out,HL.out (),cX (by rw [phs_cut h1]),phs_cut h1]
      clear ho
      go_wp2_with (first
       | ((with_reducible refine aa (some 24) (.indexAddr 48 (.tmp 20) (.tmp 22)) ?_);go_must (refine ae (.pointer (some ⟨b,0+j,none⟩)) rfl (cC cM fo j rfl rfl rfl hjt) ?_))
       | ((with_reducible refine aa (some 25) (.load 3 (.tmp 24)) ?_);go_must (refine aQ (.int .i64 (i:Int)) (by rw [Nat.zero_add];exact HCI.out) rfl ak ?_))
       | ((with_reducible refine aa (some 28) (.lookup 55 (.tmp 26) (.tmp 27) false) ?_);go_must (refine ae (.agg (u8s c).toArray) rfl (bG (PhM.look1 HPM.out i HI4.out HPI.out) rfl rfl) ?_))
       | ((with_reducible refine aa (some 9) (.alloc 64) ?_);refine aj _ bP hm ?_;clear hm;intro w5 g9 hm)
       | ((with_reducible refine aa none (.store 64 (.tmp 9) (.tmp 28)) ?_);refine ap 0 (u8s c) hm rfl rfl rfl 64 br (by simp [ab]) (HCU.out) (aq _) ?_;clear hm;intro w6 hm)
       | (go_at_call 38;have HD2:Hid (DkAt w6 g mb kv dj):=HQ.out.1.below hm.below;go_must (refine (write_anyD g mb kv dj (i:Int) c _ HCB.out (HQ.out.2.2.2.1.num (by omega)) _ HD2.out (SlA.of_row (hm.get 0 rfl) 64 HCL.out.symm (fun hk=>by have h8:=HQ.out.1.lt _ hk;have h9:=hm.fresh _ (List.mem_cons_self ..);simp at h9;omega) 64 (Nat.le_refl _))).mono ?_);rintro e w7 ⟨he,hd7,hu7⟩;rw [show dj.wcode (i:Int) c=61 by unfold Dk.wcode;rw [if_pos HO.out]] at he;subst he;rw [show dj.write (i:Int) c=dj.step by unfold Dk.write;rw [if_neg (by rw [HO.out];simp)]] at hd7;have HD7:Hid (DkAt w7 g mb kv dj.step):=hd7;have HU7:Hid (UpdS (foot g mb kv) w w7):=(HQ.out.2.1.trans (UpdS.of_below hm.below)).trans hu7;clear hd7 hu7))
      go_ret
      exact ⟨by rw [HRES.out];rfl,by rw [HRES.out];exact HD7.out,HU7.out⟩
     ·have HO:Hid (dj.step.off=false):=by show _=_;simpa using ho
      have HNX:Hid (wrs dk l=wrs (dj.step.put i c) (l.drop (j+1))):=by
       show _=_
       rw [HQ.out.2.2.2.2,HLD.out,wrs,if_neg ho]
      clear ho
      go_wp2_with (first
       | ((with_reducible refine aa (some 24) (.indexAddr 48 (.tmp 20) (.tmp 22)) ?_);go_must (refine ae (.pointer (some ⟨b,0+j,none⟩)) rfl (cC cM fo j rfl rfl rfl hjt) ?_))
       | ((with_reducible refine aa (some 25) (.load 3 (.tmp 24)) ?_);go_must (refine aQ (.int .i64 (i:Int)) (by rw [Nat.zero_add];exact HCI.out) rfl ak ?_))
       | ((with_reducible refine aa (some 28) (.lookup 55 (.tmp 26) (.tmp 27) false) ?_);go_must (refine ae (.agg (u8s c).toArray) rfl (bG (PhM.look1 HPM.out i HI4.out HPI.out) rfl rfl) ?_))
       | ((with_reducible refine aa (some 9) (.alloc 64) ?_);refine aj _ bP hm ?_;clear hm;intro w5 g9 hm)
       | ((with_reducible refine aa none (.store 64 (.tmp 9) (.tmp 28)) ?_);refine ap 0 (u8s c) hm rfl rfl rfl 64 br (by simp [ab]) (HCU.out) (aq _) ?_;clear hm;intro w6 hm)
       | (go_at_call 38;have HD2:Hid (DkAt w6 g mb kv dj):=HQ.out.1.below hm.below;go_must (refine (iR g mb kv dj i c _ HO.out HIN2.out (by rw [HCL.out];omega) HCB.out (HQ.out.2.2.2.1.num (by omega)) _ HD2.out (SlA.of_row (hm.get 0 rfl) 64 HCL.out.symm (fun hk=>by have h8:=HQ.out.1.lt _ hk;have h9:=hm.fresh _ (List.mem_cons_self ..);simp at h9;omega) 64 (Nat.le_refl _))).mono ?_);rintro e w7 ⟨rfl,hd7,hu7⟩;rw [over_whole (HD2.out.ok.now HIN2.out) HCL.out] at hd7;have HD7:Hid (DkAt w7 g mb kv (dj.step.put i c)):=hd7;have HU7:Hid (UpdS (foot g mb kv) w w7):=(HQ.out.2.1.trans (UpdS.of_below hm.below)).trans hu7;have HI7:Hid (Ints w7 B (.slice (some ⟨b,0,none⟩) J cv) (pensP (p k) d.n)):=(Ints.upd (L:=foot g mb kv) HIN.out (UpdS.of_below hm.below) HFB.out).upd hu7 HFB.out;clear hd7 hu7))
      go_roundw
      case rel=>exact ⟨j+1,dj.step.put i c,by omega,by go_num,⟨HD7.out,HU7.out,HQ.out.2.2.1,⟨HQ.out.2.2.2.1.step.s0,by have h9:=HQ.out.2.2.2.1.step.s1;show dj.step.steps≤_;omega,HQ.out.2.2.2.1.step.l0,HQ.out.2.2.2.1.step.l1⟩,HNX.out⟩,HI7.out⟩
      case measure=>simp [intOf];omega
    ·have hjJ:j=J:=by omega
     have hji:¬(j:Int)<(J:Int):=by omega
     have HW:Hid (wrs dk l=(dj,true)):=by
      show _=_
      rw [HQ.out.2.2.2.2,List.drop_of_length_le (by rw [HLJ.out];omega)]
      rfl
     have HPN:=phs_nm l dk _ HI.out.2.2.2.1
     have HPN2:Hid ((phs dk l).1.Nm (k0+300 * (k+1))):=HPN.mono (by rw [HLJ.out];omega)
     clear HPN
     by_cases ho:dj.step.off=true
     ·have HRES:Hid (kps d ls=(dj.step,false)):=by
       show _=_
       rw [HI.out.2.2.2.2,HLK.out,HL.out (),cX (by rw [phs_off HW.out ho]),phs_off HW.out ho]
      have HFC:Hid (dj.fcode=61∧dj.flush=dj.step):=⟨by unfold Dk.fcode;rw [if_pos ho],by unfold Dk.flush;rw [if_pos ho]⟩
      clear ho
      go_wp2_with (first
       | (go_at_call 39;refine (flush_any g mb kv dj (HQ.out.2.2.2.1.num (by omega)) _ HQ.out.1).mono ?_;rintro e w7 ⟨he,hd7,hu7⟩;rw [HFC.out.1] at he;subst he;rw [HFC.out.2] at hd7;have HD7:Hid (DkAt w7 g mb kv dj.step):=hd7;have HU7:Hid (UpdS (foot g mb kv) w w7):=HQ.out.2.1.trans hu7;clear hd7 hu7))
      go_ret
      exact ⟨by rw [HRES.out];rfl,by rw [HRES.out];exact HD7.out,HU7.out⟩
     ·have ho2:dj.step.off=false:=by simpa using ho
      have HPE:Hid (phs dk l=(dj.step.flushed,true)):=phs_on HW.out ho2
      have HNX:Hid (kps d ls=kps dj.step.flushed (ls.drop (k+1))):=by
       show _=_
       rw [HI.out.2.2.2.2,HLK.out,HL.out (),cw (by rw [HPE.out]),HPE.out]
      have HFC:Hid (dj.fcode=0∧dj.flush=dj.step.flushed):=⟨by unfold Dk.fcode;rw [if_neg ho],by unfold Dk.flush;rw [if_neg ho]⟩
      have HPN3:Hid (dj.step.flushed.Nm (k0+300 * (k+1))):=by have h9:=HPN2.out;rw [HPE.out] at h9;exact h9
      clear ho ho2
      go_wp2_with (first
       | (go_at_call 39;refine (flush_any g mb kv dj (HQ.out.2.2.2.1.num (by omega)) _ HQ.out.1).mono ?_;rintro e w7 ⟨he,hd7,hu7⟩;rw [HFC.out.1] at he;subst he;rw [HFC.out.2] at hd7;have HD7:Hid (DkAt w7 g mb kv dj.step.flushed):=hd7;have HU7:Hid (UpdS (foot g mb kv) w w7):=HQ.out.2.1.trans hu7;clear hd7 hu7))
      go_roundw
      case rel=>exact ⟨k+1,dj.step.flushed,by omega,by go_num,⟨HD7.out,HU7.out,HQ.out.2.2.1,HPN3.out,HNX.out⟩⟩
      case measure=>simp [intOf];omega
  ·have hkK:k=K:=by omega
   have hki:¬(k:Int)<(K:Int):=by omega
   have HRES:Hid (kps d ls=(dk,true)):=by
    show _=_
    rw [HI.out.2.2.2.2,List.drop_of_length_le (by rw [HLL.out];omega)]
    rfl
   go_wp2_with fail
   go_ret
   exact ⟨by rw [HRES.out];rfl,by rw [HRES.out];exact HI.out.1,HI.out.2.1⟩
open Go Go.RowKit Go.Maps
theorem marked_any (x:Ent) (i:Nat) (hi:i<24) (hx:x.2.length=48) (w:World) (ht:Tab w) :
  Calls Tryz.prog 26 #[.agg (entL x).toArray,.int .i64 (i:Int)] w fun e w'=>e=.returned (.agg (u8s (mkC i x)).toArray)∧Below w.heap.size w w':=by
 have hm:=Mem.start w
 have HT:Hid (Tab w):=ht
 have HX:Hid (x.2.length=48):=hx
 have HEL:Hid ((entL x).length=49):=aI hx
 have HUU:Hid ((u8s (unE x)).length=64):=by show _=_;rw [ab,d8 hx]
 have HUL:Hid ((unE x).length=64):=d8 hx
 obtain ⟨M,hM⟩:∃M,M=mkOf (2+i) (x.1:Int):=⟨_,rfl⟩
 have HMM:Hid (∀_:Unit,mkOf (2+i) (x.1:Int)=M):=fun _=>hM.symm
 have HML:Hid (M.length=16):=by show _=_;rw [hM,bh]
 have HMU:Hid ((u8s M).length=16):=by show _=_;rw [ab,hM,bh]
 have HCC:Hid (splice (u8s (unE x)) 48 (u8s (M.take 16))=u8s (mkC i x)):=by
  show _=_
  rw [List.take_of_length_le (by rw [hM,bh];omega),show u8s (unE x)=u8s x.2++u8s (List.replicate 16 0) by simp [unE,u8s],gT (u8s x.2) _ _ 48 (by rw [ab,hx]),List.drop_of_length_le (by rw [ab,ab,hM,bh];simp),List.append_nil,hM]
  simp [mkC,u8s]
 have HCU:Hid ((u8s (mkC i x)).length=64):=by show _=_;rw [ab,gf hx]
 clear ht hx hM
 go_enter Tryz.func26,Tryz.ntmps26
 go_wp2_with (first
  | ((with_reducible refine aa (some 2) (.box 67 (.tmp 0)) ?_);refine aB (entL x) rfl hm ?_;clear hm;intro w1 g2 hm)
  | ((with_reducible refine aa (some 4) (.alloc 64) ?_);refine aj _ bP hm ?_;clear hm;intro w2 g4 hm)
  | ((with_reducible refine aa (some 7) (.load 67 (.tmp 2)) ?_);refine ay 1 hm rfl rfl _ Tryz.underlying67 rfl 49 bY (HEL.out) ?_)
  | (go_at_call 20;refine (dI x HX.out _).mono ?_;rintro e w3 ⟨rfl,hb⟩;replace hm:=hm.call hb;clear hb)
  | ((with_reducible refine aa (some 5) (.alloc 64) ?_);refine aj _ bP hm ?_;clear hm;intro w4 g5 hm)
  | ((with_reducible refine aa none (.store 64 (.tmp 5) (.tmp 8)) ?_);refine ap 0 (u8s (unE x)) hm rfl rfl rfl 64 br (by simp [ab]) (HUU.out) (aq _) ?_;clear hm;intro w5 hm))
 refine au ?_
 refine a6 (T:=fun W=>Mem w [] W [(g5,u8s (unE x),64),(g4,u8s (List.replicate 64 0),64),(g2,entL x,67)]) (by kernel_rfl) hm ?_
 clear hm
 intro w6 hm
 refine aT 0 (v:=.int .i64 (i:Int)) rfl (by kernel_rfl) rfl (fun W _=>by go_simp) hm ?_
 go_simp
 refine aT 2 (v:=.pointer (some ⟨g2,0,none⟩)) rfl (by kernel_rfl) rfl (fun W _=>by go_simp) hm ?_
 go_simp
 refine aT 3 (v:=.int .u64 (x.1:Int)) rfl (by kernel_rfl) rfl (fun W hW=>dX 0 _ (Mem.get hW 2 rfl) rfl gI rfl) hm ?_
 go_simp
 refine wpAnyH_all (rs:=[1,5]) (by kernel_rfl) (by simp) ?_
 intro i hi
 simp only [List.mem_cons,List.not_mem_nil,or_false] at hi
 rcases hi with rfl|rfl
 ·refine aF 1 rfl rfl ?_
  intro K hK
  go_wp2_with (go_at_call 21;refine (bD i (by omega) _).mono ?_;rintro e w7 ⟨rfl,rfl⟩)
  refine hK _ _ hm ?_
  clear hK K
  go_simp
  refine wpAnyH_all (rs:=[4,5]) (by kernel_rfl) (by simp) ?_
  intro i hi
  simp only [List.mem_cons,List.not_mem_nil,or_false] at hi
  rcases hi with rfl|rfl
  ·refine aF 4 rfl rfl ?_
   intro K hK
   go_wp2_with (go_at_call 42;refine (dY (2+i) (x.1:Int) (by omega) _ (Tab.mem HT.out hm (by simp))).mono ?_;rintro e w8 ⟨he,hb⟩;rw [HMM.out ()] at he;subst he;replace hm:=hm.call hb;clear hb)
   refine hK _ _ hm ?_
   clear hK K
   go_simp
   refine aP 5 (by kernel_rfl) rfl rfl ?_
   intro K hK
   refine aj _ eZ hm ?_
   clear hm
   intro w9 g6 hm
   refine wpList_nil ?_
   refine hK _ _ hm.tail ?_
   clear hK K
   go_simp
   refine aP 6 (by kernel_rfl) rfl rfl ?_
   intro K hK
   refine ap 0 (u8s M) hm rfl rfl rfl 16 dE (by simp [ab]) HMU.out (aq _) ?_
   clear hm
   intro wb hm
   refine wpList_nil ?_
   refine hK _ _ hm.tail ?_
   clear hK K
   go_simp
   refine wpAnyH_done (by kernel_rfl) ?_ _
   simp only [endsIn]
   replace hm:=hm.swap
   go_wp2_with fail
   refine au ?_
   refine a6 (T:=fun W=>Mem w [] W [(g6,u8s M,99),(g4,u8s (List.replicate 64 0),64),(g2,entL x,67)]) (by kernel_rfl) hm ?_
   clear hm
   intro wc hm
   refine aT 0 (v:=.slice (some ⟨g5,48,none⟩) 16 16) rfl (by kernel_rfl) rfl (fun W _=>by go_simp) hm.tail ?_
   go_simp
   refine aT 1 (v:=.slice (some ⟨g6,0,none⟩) 16 16) rfl (by kernel_rfl) rfl (fun W _=>by go_simp) hm.tail ?_
   go_simp
   refine aO 2 (by kernel_rfl) rfl rfl ?_
   intro K hK
   go_must (refine cZ 0 M 16 (u8s (mkC i x)) hm rfl rfl rfl _ aU be (bB (hm.get 1 rfl) HML.out (Nat.le_refl _)) rfl (by rw [HUU.out];omega) HCC.out ?_)
   clear hm
   intro wz hm
   refine wpList_nil ?_
   refine hK _ _ hm.tail ?_
   clear hK K
   go_simp
   refine wpAnyH_done (by kernel_rfl) ?_ _
   simp only [endsIn]
   go_wp2_with (first
    | ((with_reducible refine aa (some 17) (.load 64 (.tmp 5)) ?_);refine ay 0 hm rfl rfl _ b7 rfl 64 br (HCU.out) ?_)
    | ((with_reducible refine aa none (.store 64 (.tmp 4) (.tmp 17)) ?_);refine ap 2 (u8s (mkC i x)) hm rfl rfl rfl 64 br (by simp [ab]) (HCU.out) (aq _) ?_;clear hm;intro w8 hm))
   exact aJ 2 hm rfl Tryz.results26 rfl _ b7 rfl 64 br HCU.out rfl ⟨rfl,hm.below⟩
  ·refine aF 5 rfl rfl ?_
   intro K hK
   refine aj _ eZ hm ?_
   clear hm
   intro w9 g6 hm
   refine wpList_nil ?_
   refine hK _ _ hm.tail ?_
   clear hK K
   go_simp
   refine aP 4 (by kernel_rfl) rfl rfl ?_
   intro K hK
   go_wp2_with (go_at_call 42;refine (dY (2+i) (x.1:Int) (by omega) _ (Tab.mem HT.out hm (by simp))).mono ?_;rintro e w8 ⟨he,hb⟩;rw [HMM.out ()] at he;subst he;replace hm:=hm.call hb;clear hb)
   refine hK _ _ hm.tail ?_
   clear hK K
   go_simp
   refine aP 6 (by kernel_rfl) rfl rfl ?_
   intro K hK
   refine ap 0 (u8s M) hm rfl rfl rfl 16 dE (by simp [ab]) HMU.out (aq _) ?_
   clear hm
   intro wb hm
   refine wpList_nil ?_
   refine hK _ _ hm.tail ?_
   clear hK K
   go_simp
   refine wpAnyH_done (by kernel_rfl) ?_ _
   simp only [endsIn]
   replace hm:=hm.swap
   go_wp2_with fail
   refine au ?_
   refine a6 (T:=fun W=>Mem w [] W [(g6,u8s M,99),(g4,u8s (List.replicate 64 0),64),(g2,entL x,67)]) (by kernel_rfl) hm ?_
   clear hm
   intro wc hm
   refine aT 0 (v:=.slice (some ⟨g5,48,none⟩) 16 16) rfl (by kernel_rfl) rfl (fun W _=>by go_simp) hm.tail ?_
   go_simp
   refine aT 1 (v:=.slice (some ⟨g6,0,none⟩) 16 16) rfl (by kernel_rfl) rfl (fun W _=>by go_simp) hm.tail ?_
   go_simp
   refine aO 2 (by kernel_rfl) rfl rfl ?_
   intro K hK
   go_must (refine cZ 0 M 16 (u8s (mkC i x)) hm rfl rfl rfl _ aU be (bB (hm.get 1 rfl) HML.out (Nat.le_refl _)) rfl (by rw [HUU.out];omega) HCC.out ?_)
   clear hm
   intro wz hm
   refine wpList_nil ?_
   refine hK _ _ hm.tail ?_
   clear hK K
   go_simp
   refine wpAnyH_done (by kernel_rfl) ?_ _
   simp only [endsIn]
   go_wp2_with (first
    | ((with_reducible refine aa (some 17) (.load 64 (.tmp 5)) ?_);refine ay 0 hm rfl rfl _ b7 rfl 64 br (HCU.out) ?_)
    | ((with_reducible refine aa none (.store 64 (.tmp 4) (.tmp 17)) ?_);refine ap 2 (u8s (mkC i x)) hm rfl rfl rfl 64 br (by simp [ab]) (HCU.out) (aq _) ?_;clear hm;intro w8 hm))
   exact aJ 2 hm rfl Tryz.results26 rfl _ b7 rfl 64 br HCU.out rfl ⟨rfl,hm.below⟩
 ·refine aF 5 rfl rfl ?_
  intro K hK
  refine aj _ eZ hm ?_
  clear hm
  intro w9 g6 hm
  refine wpList_nil ?_
  refine hK _ _ hm.tail ?_
  clear hK K
  go_simp
  refine aP 1 (by kernel_rfl) rfl rfl ?_
  intro K hK
  go_wp2_with (go_at_call 21;refine (bD i (by omega) _).mono ?_;rintro e w7 ⟨rfl,rfl⟩)
  refine hK _ _ hm.tail ?_
  clear hK K
  go_simp
  refine aP 4 (by kernel_rfl) rfl rfl ?_
  intro K hK
  go_wp2_with (go_at_call 42;refine (dY (2+i) (x.1:Int) (by omega) _ (Tab.mem HT.out hm (by simp))).mono ?_;rintro e w8 ⟨he,hb⟩;rw [HMM.out ()] at he;subst he;replace hm:=hm.call hb;clear hb)
  refine hK _ _ hm.tail ?_
  clear hK K
  go_simp
  refine aP 6 (by kernel_rfl) rfl rfl ?_
  intro K hK
  refine ap 0 (u8s M) hm rfl rfl rfl 16 dE (by simp [ab]) HMU.out (aq _) ?_
  clear hm
  intro wb hm
  refine wpList_nil ?_
  refine hK _ _ hm.tail ?_
  clear hK K
  go_simp
  refine wpAnyH_done (by kernel_rfl) ?_ _
  simp only [endsIn]
  replace hm:=hm.swap
  go_wp2_with fail
  refine au ?_
  refine a6 (T:=fun W=>Mem w [] W [(g6,u8s M,99),(g4,u8s (List.replicate 64 0),64),(g2,entL x,67)]) (by kernel_rfl) hm ?_
  clear hm
  intro wc hm
  refine aT 0 (v:=.slice (some ⟨g5,48,none⟩) 16 16) rfl (by kernel_rfl) rfl (fun W _=>by go_simp) hm.tail ?_
  go_simp
  refine aT 1 (v:=.slice (some ⟨g6,0,none⟩) 16 16) rfl (by kernel_rfl) rfl (fun W _=>by go_simp) hm.tail ?_
  go_simp
  refine aO 2 (by kernel_rfl) rfl rfl ?_
  intro K hK
  go_must (refine cZ 0 M 16 (u8s (mkC i x)) hm rfl rfl rfl _ aU be (bB (hm.get 1 rfl) HML.out (Nat.le_refl _)) rfl (by rw [HUU.out];omega) HCC.out ?_)
  clear hm
  intro wz hm
  refine wpList_nil ?_
  refine hK _ _ hm.tail ?_
  clear hK K
  go_simp
  refine wpAnyH_done (by kernel_rfl) ?_ _
  simp only [endsIn]
  go_wp2_with (first
   | ((with_reducible refine aa (some 17) (.load 64 (.tmp 5)) ?_);refine ay 0 hm rfl rfl _ b7 rfl 64 br (HCU.out) ?_)
   | ((with_reducible refine aa none (.store 64 (.tmp 4) (.tmp 17)) ?_);refine ap 2 (u8s (mkC i x)) hm rfl rfl rfl 64 br (by simp [ab]) (HCU.out) (aq _) ?_;clear hm;intro w8 hm))
  exact aJ 2 hm rfl Tryz.results26 rfl _ b7 rfl 64 br HCU.out rfl ⟨rfl,hm.below⟩
open Go Go.RowKit Go.Maps
def hvK (held:Nat→Option Ent):Value→Value→Prop:=fun k v=>∃(i:Nat) (x:Ent),held i=some x∧k=.int .i64 (i:Int)∧v=.agg (entL x).toArray
structure SltOk (t:Slt):Prop where
 held:∀i x,t.held i=some x→i<24∧EntOk x
 puts:t.puts≤200
theorem SltOk.ent {t:Slt} (h:SltOk t) (i:Nat):∀y,t.held i=some y→EntOk y:=fun y hy=>(h.held i y hy).2
theorem SltOk.len {t:Slt} (h:SltOk t) (i:Nat):((t.held i).getD noEnt).2.length=48:=by
 cases hx:t.held i with
 | none=>simp [noEnt]
 | some x=>exact (h.held i x hx).2.len
def footS (g mb:Nat) (kv:Value) (sb hb:Nat):List Nat:=sb::hb::foot g mb kv
structure SlAt (w:World) (g mb:Nat) (kv:Value) (sb hb:Nat) (d:Dk) (t:Slt):Prop where
 dk:DkAt w g mb kv d
 row:Row w sb [.pointer (some ⟨g,0,none⟩),.map (some hb),.int .u64 (t.puts:Int),.bool t.dead] 62
 map:∃q,q≤t.puts+24∧KM Tryz.prog 3 w hb q (hvK t.held)
 ok:SltOk t
 ns:sb ∉ foot g mb kv
 nh:hb ∉ foot g mb kv
 two:∀k∈footS g mb kv sb hb,2≤k
theorem Tab.updS {w w':World} {L:List Nat} (h:Tab w) (hu:UpdS L w w') (hL:∀q∈L,2≤q):Tab w':=Tab.mem h (⟨hu.os,hu.tape,hu.output,hu.size,hu.block,fun r hr=>(by cases hr),(by simp),fun r hr=>(by cases hr)⟩:Mem w L w' []) (fun hh=>by have:=hL _ hh;omega)
theorem QTab.updS {w w':World} {L:List Nat} (h:QTab w) (hu:UpdS L w w') (hL:∀q∈L,2≤q):QTab w':=QTab.mem h (⟨hu.os,hu.tape,hu.output,hu.size,hu.block,fun r hr=>(by cases hr),(by simp),fun r hr=>(by cases hr)⟩:Mem w L w' []) (fun hh=>by have:=hL _ hh;omega)
section
variable {w w':World} {g mb:Nat} {kv:Value} {sb hb:Nat} {d d':Dk} {t:Slt}
theorem SlAt.nsh (h:SlAt w g mb kv sb hb d t):sb≠hb:=by
 obtain ⟨q,_,hk⟩:=h.map
 obtain ⟨es,c,hm⟩:=hk.isMap
 exact bK h.row hm
theorem SlAt.lt (h:SlAt w g mb kv sb hb d t):∀k∈footS g mb kv sb hb,k<w.heap.size:=by
 intro k hk
 simp only [footS,List.mem_cons] at hk
 rcases hk with rfl|rfl|hk
 ·exact h.row.lt
 ·obtain ⟨q,_,hm⟩:=h.map
  exact hm.lt
 ·exact h.dk.lt k hk
theorem SlAt.keep (h:SlAt w g mb kv sb hb d t) (hk:∀k∈footS g mb kv sb hb,w'.heap[k]?=w.heap[k]?):SlAt w' g mb kv sb hb d t:=by
 refine ⟨h.dk.keep (fun k hh=>hk k (by simp [footS,hh])),?_,?_,h.ok,h.ns,h.nh,h.two⟩
 ·unfold Row;rw [hk sb (by simp [footS])];exact h.row
 ·obtain ⟨q,hq,hm⟩:=h.map
  exact ⟨q,hq,hm.keep (hk hb (by simp [footS]))⟩
theorem SlAt.below (h:SlAt w g mb kv sb hb d t) (hbb:Below w.heap.size w w'):SlAt w' g mb kv sb hb d t:=h.keep (fun k hk=>hbb.block k (h.lt k hk))
theorem SlAt.updS {L:List Nat} (h:SlAt w g mb kv sb hb d t) (hu:UpdS L w w') (hL:∀k∈footS g mb kv sb hb,k ∉ L):SlAt w' g mb kv sb hb d t:=h.keep (fun k hk=>hu.block k (h.lt k hk) (hL k hk))
theorem SlAt.disk (h:SlAt w g mb kv sb hb d t) (hd:DkAt w' g mb kv d') (hu:UpdS (foot g mb kv) w w'):SlAt w' g mb kv sb hb d' t:=by
 refine ⟨hd,hu.row h.row h.ns,?_,h.ok,h.ns,h.nh,h.two⟩
 obtain ⟨q,hq,hm⟩:=h.map
 exact ⟨q,hq,hm.keep (hu.block hb hm.lt h.nh)⟩
theorem SlAt.cell (h:SlAt w g mb kv sb hb d t) (j:Nat):w.cell? ⟨sb,j,none⟩=[.pointer (some ⟨g,0,none⟩),.map (some hb),.int .u64 (t.puts:Int),.bool t.dead][j]?:=h.row.cell j
theorem SlAt.look (h:SlAt w g mb kv sb hb d t) (i:Nat) (hi:i≤4000):(Instr.lookup 60 (.map (some hb)) (.int .i64 (i:Int)) true).run Tryz.prog w=.ok (.tuple #[.agg (entL ((t.held i).getD noEnt)).toArray,.bool (t.held i).isSome]) w:=by
 obtain ⟨q,_,hm⟩:=h.map
 cases hx:t.held i with
 | none=>exact hm.lookNo cg eb (bF w) (dF i hi) (by rintro v ⟨j,x,h1,h2,_⟩;simp only [Value.int.injEq,true_and] at h2;have e:j=i:=(by omega);subst e;rw [hx] at h1;cases h1)
 | some x=>exact hm.look cg eb (bF w) (dF i hi) ⟨i,x,hx,rfl,rfl⟩
theorem SlAt.look1 (h:SlAt w g mb kv sb hb d t) (i:Nat) (hi:i≤4000):(Instr.lookup 60 (.map (some hb)) (.int .i64 (i:Int)) false).run Tryz.prog w=.ok (.agg (entL ((t.held i).getD noEnt)).toArray) w:=by
 obtain ⟨q,_,hm⟩:=h.map
 cases hx:t.held i with
 | none=>exact hm.look1No cg eb (bF w) (dF i hi) (by rintro v ⟨j,x,h1,h2,_⟩;simp only [Value.int.injEq,true_and] at h2;have e:j=i:=(by omega);subst e;rw [hx] at h1;cases h1)
 | some x=>exact hm.look1 cg eb (bF w) (dF i hi) ⟨i,x,hx,rfl,rfl⟩
end
theorem hvK_put (held:Nat→Option Ent) (i:Nat) (x:Ent) (k v:Value):putK (hvK held) (.int .i64 (i:Int)) (.agg (entL x).toArray) k v↔hvK (upf held i (some x)) k v:=by
 constructor
 ·rintro (⟨rfl,rfl⟩|⟨hne,j,y,h1,rfl,rfl⟩)
  ·exact ⟨i,x,by rw [bo],rfl,rfl⟩
  ·exact ⟨j,y,by rw [aR _ _ (fun e=>hne (by rw [e]))];exact h1,rfl,rfl⟩
 ·rintro ⟨j,y,h1,rfl,rfl⟩
  by_cases he:j=i
  ·subst he
   rw [bo] at h1
   simp only [Option.some.injEq] at h1
   subst h1
   exact Or.inl ⟨rfl,rfl⟩
  ·rw [aR _ _ he] at h1
   exact Or.inr ⟨by simp only [ne_eq,Value.int.injEq,true_and];omega,j,y,h1,rfl,rfl⟩
theorem hvK_del (held:Nat→Option Ent) (i:Nat) (k v:Value):delK (hvK held) (.int .i64 (i:Int)) k v↔hvK (upf held i none) k v:=by
 constructor
 ·rintro ⟨hne,j,y,h1,rfl,rfl⟩
  exact ⟨j,y,by rw [aR _ _ (fun e=>hne (by rw [e]))];exact h1,rfl,rfl⟩
 ·rintro ⟨j,y,h1,rfl,rfl⟩
  by_cases he:j=i
  ·subst he;rw [bo] at h1;cases h1
  ·rw [aR _ _ he] at h1
   exact ⟨by simp only [ne_eq,Value.int.injEq,true_and];omega,j,y,h1,rfl,rfl⟩
theorem hvK_none (k v:Value):(fun _ _=>False:Value→Value→Prop) k v↔hvK (fun _=>none) k v:=by
 constructor
 ·intro h;exact h.elim
 ·rintro ⟨j,y,h1,_⟩;cases h1
theorem dead_any (g mb:Nat) (kv:Value) (sb hb:Nat) (d:Dk) (t:Slt) (w:World) (h:SlAt w g mb kv sb hb d t) :
  Calls Tryz.prog 12 #[.pointer (some ⟨sb,0,none⟩)] w fun e w'=>e=.returned (.bool t.dead)∧w'=w:=by
 have HC:Hid (w.cell? ⟨sb,3,none⟩=some (.bool t.dead)):=h.cell 3
 clear h
 go_enter Tryz.func12,Tryz.ntmps12
 go_wp2_with (first
  | ((with_reducible refine aa (some 6) (.load 4 (.tmp 5)) ?_);go_must (refine aQ (.bool t.dead) HC.out rfl bj ?_)))
 go_ret
 exact ⟨rfl,rfl⟩
def refI (t:Slt) (i:Int):Int:=if t.dead=true then 260 else if okI i=true then 0 else 70
theorem cV (g mb:Nat) (kv:Value) (sb hb:Nat) (d:Dk) (t:Slt) (i:Int) (w:World) (h:SlAt w g mb kv sb hb d t) :
  Calls Tryz.prog 23 #[.pointer (some ⟨sb,0,none⟩),.int .i64 i] w fun e w'=>e=.returned (.int .i64 (refI t i))∧w'=w:=by
 have HC:Hid (w.cell? ⟨sb,3,none⟩=some (.bool t.dead)):=h.cell 3
 unfold refI
 clear h
 cases hd:t.dead with
 | true =>
  rw [hd] at HC
  simp only [if_true]
  have HO:Hid (okI i=okI i):=rfl
  go_enter Tryz.func23,Tryz.ntmps23
  go_wp2_with (first
   | ((with_reducible refine aa (some 9) (.load 4 (.tmp 8)) ?_);go_must (refine aQ (.bool true) HC.out rfl bj ?_))
   | (go_at_call 28;refine (dq i _).mono ?_;rintro e w1 ⟨he,rfl⟩;rw [HO.out] at he;subst he))
  go_ret
  exact ⟨rfl,rfl⟩
 | false =>
  rw [hd] at HC
  simp only [Bool.false_eq_true,if_false]
  cases ho:okI i with
  | true =>
   have HO:Hid (okI i=true):=ho
   simp only [if_true]
   go_enter Tryz.func23,Tryz.ntmps23
   go_wp2_with (first
    | ((with_reducible refine aa (some 9) (.load 4 (.tmp 8)) ?_);go_must (refine aQ (.bool false) HC.out rfl bj ?_))
    | (go_at_call 28;refine (dq i _).mono ?_;rintro e w1 ⟨he,rfl⟩;rw [HO.out] at he;subst he))
   go_ret
   exact ⟨rfl,rfl⟩
  | false =>
   have HO:Hid (okI i=false):=ho
   simp only [Bool.false_eq_true,if_false]
   go_enter Tryz.func23,Tryz.ntmps23
   go_wp2_with (first
    | ((with_reducible refine aa (some 9) (.load 4 (.tmp 8)) ?_);go_must (refine aQ (.bool false) HC.out rfl bj ?_))
    | (go_at_call 28;refine (dq i _).mono ?_;rintro e w1 ⟨he,rfl⟩;rw [HO.out] at he;subst he))
   go_ret
   exact ⟨rfl,rfl⟩
theorem died_any (g mb:Nat) (kv:Value) (sb hb:Nat) (d:Dk) (t:Slt) (x:Int) (w:World) (h:SlAt w g mb kv sb hb d t) :
  Calls Tryz.prog 27 #[.pointer (some ⟨sb,0,none⟩),.int .i64 x] w fun e w'=>e=.returned (.int .i64 x)∧SlAt w' g mb kv sb hb d {t with dead:=true}∧Upd sb w w':=by
 have HA:Hid (SlAt w g mb kv sb hb d t):=h
 have hm:=Mem.enter h.row
 clear h
 go_enter Tryz.func27,Tryz.ntmps27
 go_wp2_with (first
  | ((with_reducible refine aa none (.store 4 (.tmp 7) (.const (.bool true))) ?_);go_must (refine bm 0 3 (.bool true) hm rfl rfl rfl iC (by simp) rfl rfl ?_);clear hm;intro w1 hm))
 go_ret
 have hr:=hm.get 0 rfl
 have hu:=hm.toUpd
 refine ⟨rfl,⟨HA.out.dk.keep (fun k hk=>hu.block k (HA.out.dk.lt k hk) (fun e=>HA.out.ns (e▸hk))),hr,?_,⟨HA.out.ok.held,HA.out.ok.puts⟩,HA.out.ns,HA.out.nh,HA.out.two⟩,hu⟩
 obtain ⟨q,hq,hk⟩:=HA.out.map
 exact ⟨q,hq,hk.upd hu HA.out.nsh⟩
open Go Go.RowKit Go.Maps
section
variable {a:Act} {w:World} {dst:Option Tmp} {typ:TypeId} {pos:String} {aft:Array Edge} {gd:Option (Nat×Bool)}
theorem exec_maxU {x y:Operand} {i j:Int} (c:Int) (hx:a.eval x=.int .u64 i) (hy:a.eval y=.int .u64 j) (hc:(if i<j then j else i)=c) :
  (execOp a.eval {dst:=dst,op:=.call {callee:=.builtin .max,args:=#[x,y],argTypes:=#[59,59]},type:=typ,pos:=pos,after:=aft,guard:=gd}).run Tryz.prog w=.ok (.value (.int .u64 c)) w:=by
 subst hc
 unfold execOp
 simp only [resolve,invoke,builtin,Sem.run_bind,Sem.run_pure,Result.andThen_ok,List.map_toArray,List.map_cons,List.map_nil,hx,hy]
 simp [Builtin.max_,Builtin.max2]
end
def cntUp (d:Dk):Nat→Nat
 | 0=>0
 | k+1=>max (cntUp d k) ((numOf k ((d.now k).take 16)).getD 0)
theorem cntUp_two (d:Dk):cntUp d 2=cntOf d:=by
 show max (max 0 _) _=max _ _
 rw [Nat.zero_max]
theorem jG (g mb:Nat) (kv:Value) (d:Dk) (ho:d.off=false) (hn:2≤d.n) (w:World) (ht:Tab w) (hd:DkAt w g mb kv d) :
  Calls Tryz.prog 34 #[.pointer (some ⟨g,0,none⟩)] w fun e w'=>e=.returned (.tuple #[.int .u64 (cntOf d:Int),.int .i64 0])∧Below w.heap.size w w':=by
 have HD:Hid (DkAt w g mb kv d):=hd
 have HO:Hid (d.off=false):=ho
 have HT:Hid (Tab w):=ht
 have HN2:Hid (2≤d.n):=hn
 clear hd ho ht hn
 go_enter Tryz.func34,Tryz.ntmps34
 go_wp2_with fail
 go_loopw [4,10] (fun vn vi wr=>∃k:Nat,k≤2∧vi=.int .i64 (k:Int)∧(∃c:Nat,vn=.int .u64 (c:Int)∧Hid (c=cntUp d k))∧Hid (Below w.heap.size w wr)) (fun _ vi _=>2 - (intOf vi).toNat)
 case atStart=>exact ⟨0,by omega,rfl,⟨0,rfl,rfl⟩,Below.refl _ _⟩
 case round =>
  obtain ⟨k,hk,rfl,⟨c,rfl,HC⟩,HB⟩:=hrel
  by_cases hlt:k<2
  ·have hki:(k:Int)<2:=by omega
   have HKN:Hid (k<d.n):=by have:=HN2.out;show k<d.n;omega
   obtain ⟨C,hC⟩:∃C,C=d.now k:=⟨_,rfl⟩
   have HCC:Hid (∀_:Unit,d.now k=C):=fun _=>hC.symm
   have hCL:C.length=64:=by rw [hC];exact HD.out.ok.now HKN.out
   have HCU:Hid ((u8s C).length=64):=by show _=_;rw [ab,hCL]
   obtain ⟨M,hM⟩:∃M,M=C.take 16:=⟨_,rfl⟩
   have HML:Hid (M.length=16):=by show _=_;rw [hM,List.length_take,hCL];rfl
   have HMB:Hid (Bytes M):=by rw [hM,hC];exact (HD.out.ok.nowB HKN.out).take 16
   have HMS:Hid (((u8s C).drop 0).take 16=u8s M):=by show _=_;rw [hM,List.drop_zero];simp [u8s,List.map_take]
   obtain ⟨N,hN⟩:∃N,N=numL (M.take 8):=⟨_,rfl⟩
   have HN:Hid (∀_:Unit,numL (M.take 8)=N):=fun _=>hN.symm
   have hm:=Mem.start wr
   have hstep:cntUp d (k+1)=max c ((numOf k M).getD 0):=by rw [cntUp,HC.out,hM,hC]
   cases hok:numOk k M with
   | true =>
    have HOK:Hid (numOk k M=true):=hok
    have hnum:numOf k M=some N.toNat:=by unfold numOf;rw [if_pos hok,hN]
    have hN0:0≤N:=by rw [hN];exact hZ (HMB.out.take 8)
    obtain ⟨c2,hc2⟩:∃c2:Nat,c2=max c N.toNat:=⟨_,rfl⟩
    have HMX:Hid ((if (c:Int)<N then N else (c:Int))=(c2:Int)):=by show _=_;rw [hc2];split<;>omega
    have HC2:Hid (c2=cntUp d (k+1)):=by show _=_;rw [hstep,hnum,hc2];rfl
    clear hC hM hN hok hnum hN0 hc2 hstep hCL
    go_wp2_with (first
     | (go_at_call 35;refine (dR g mb kv d k HO.out HKN.out _ (HD.out.below HB.out)).mono ?_;rintro e w1 ⟨he,hb⟩;rw [HCC.out ()] at he;subst he;replace hm:=hm.call hb;clear hb)
     | ((with_reducible refine aa (some 6) (.alloc 64) ?_);refine aj _ bP hm ?_;clear hm;intro w3 g6 hm)
     | ((with_reducible refine aa none (.store 64 (.tmp 6) (.tmp 17)) ?_);refine ap 0 (u8s C) hm rfl rfl rfl 64 br (by simp [ab]) (HCU.out) (aq _) ?_;clear hm;intro w4 hm)
     | ((with_reducible refine aa (some 25) (.sliceToArrayPointer 99 (.tmp 24)) ?_);go_must (refine cN 16 dp (by omega) rfl ?_))
     | ((with_reducible refine aa (some 26) (.load 99 (.tmp 25)) ?_);refine eO 0 0 (u8s M) hm rfl rfl _ dp rfl 16 dE (by rw [HCU.out];omega) (HMS.out) ?_)
     | (go_at_call 47;refine (dN k M (by omega) HML.out HMB.out _ (Tab.mem (HT.out.below HB.out) hm (by simp))).mono ?_;rintro e w5 ⟨he,hb⟩;rw [HN.out (),HOK.out] at he;subst he;replace hm:=hm.call hb;clear hb)
     | ((with_reducible refine aa (some 33) (.call {callee:=.builtin .max,args:=#[.tmp 31,.tmp 32],argTypes:=#[59,59]}) ?_);go_must (refine ae (.int .u64 (c2:Int)) rfl (exec_maxU _ rfl rfl HMX.out) ?_)))
    go_roundw
    case rel=>exact ⟨k+1,by omega,by go_num,⟨c2,rfl,HC2.out⟩,HB.out.trans (hm.below.mono HB.out.size)⟩
    case measure=>simp [intOf];omega
   | false =>
    have HOK:Hid (numOk k M=false):=hok
    have HC2:Hid (c=cntUp d (k+1)):=by
     have hnum:numOf k M=none:=by unfold numOf;rw [if_neg (by rw [hok];simp)]
     show _=_
     rw [hstep,hnum]
     simp
    clear hC hM hN hok hstep hCL
    go_wp2_with (first
     | (go_at_call 35;refine (dR g mb kv d k HO.out HKN.out _ (HD.out.below HB.out)).mono ?_;rintro e w1 ⟨he,hb⟩;rw [HCC.out ()] at he;subst he;replace hm:=hm.call hb;clear hb)
     | ((with_reducible refine aa (some 6) (.alloc 64) ?_);refine aj _ bP hm ?_;clear hm;intro w3 g6 hm)
     | ((with_reducible refine aa none (.store 64 (.tmp 6) (.tmp 17)) ?_);refine ap 0 (u8s C) hm rfl rfl rfl 64 br (by simp [ab]) (HCU.out) (aq _) ?_;clear hm;intro w4 hm)
     | ((with_reducible refine aa (some 25) (.sliceToArrayPointer 99 (.tmp 24)) ?_);go_must (refine cN 16 dp (by omega) rfl ?_))
     | ((with_reducible refine aa (some 26) (.load 99 (.tmp 25)) ?_);refine eO 0 0 (u8s M) hm rfl rfl _ dp rfl 16 dE (by rw [HCU.out];omega) (HMS.out) ?_)
     | (go_at_call 47;refine (dN k M (by omega) HML.out HMB.out _ (Tab.mem (HT.out.below HB.out) hm (by simp))).mono ?_;rintro e w5 ⟨he,hb⟩;rw [HN.out (),HOK.out] at he;subst he;replace hm:=hm.call hb;clear hb))
    go_roundw
    case rel=>exact ⟨k+1,by omega,by go_num,⟨c,rfl,HC2.out⟩,HB.out.trans (hm.below.mono HB.out.size)⟩
    case measure=>simp [intOf];omega
  ·have hk2:k=2:=by omega
   have hki:¬(k:Int)<2:=by omega
   have HC2:Hid (c=cntOf d):=by show _=_;rw [HC.out,hk2,cntUp_two]
   clear hk2
   go_wp2_with fail
   go_ret2
   exact ⟨by rw [←HC2.out];rfl,HB.out⟩
end Go.Proofs.YtnllomcajijbjaaGreatDoor
