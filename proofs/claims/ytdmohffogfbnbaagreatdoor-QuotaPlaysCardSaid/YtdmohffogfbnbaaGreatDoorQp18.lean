import Derived.Test.YtdmohffogfbnbaaGreatDoorQp17
import Derived.Test.YtdmohffogfbnbaaGreatDoorQp16
import Derived.Test.YtdmohffogfbnbaaGreatDoorQp14
import Derived.Test.YtdmohffogfbnbaaGreatDoorQp04
import Derived.Test.YtdmohffogfbnbaaGreatDoorQp10
set_option maxRecDepth 100000
set_option maxHeartbeats 4000000
namespace Go.Proofs.YtdmohffogfbnbaaGreatDoor
open Go Go.RowKit Go.Maps
def StR (B:Nat) (w:World) (v:Value) (L:List ByteArray):Prop :=
 ∃p cap,v=.slice p L.length cap∧(0<L.length→∃b tl,p=some ⟨b,0,none⟩∧B≤b∧Row w b (strs L++tl) 9)
theorem str_of_own {w:World} {B N:Nat} {v:Value} {l:List ByteArray} (h:w.ownsRow B 9 1 v N (strs l)) (hN:N=l.length):StR B w v l:=by
 obtain ⟨_,h2⟩:=h
 rcases h2 with ⟨rfl,h3⟩|⟨g,cap,cur,rfl,hb,hg,hn,_,_,ht⟩
 ·exact ⟨none,0,by rw [←hN,h3],fun h0=>by omega⟩
 ·refine ⟨some ⟨g,0,none⟩,cap,by rw [hN],fun _=>⟨g,cur.toList.drop (N * 1),rfl,hb,?_⟩⟩
  rw [←ht,List.take_append_drop]
  unfold Row
  rw [hg]
theorem StR.st {B:Nat} {w:World} {v:Value} {L:List ByteArray} (h:StR B w v L):StN B w v L:=by
 obtain ⟨p,cap,hv,hc⟩:=h
 refine ⟨p,cap,hv,fun h0=>?_⟩
 obtain ⟨b,tl,h1,h2,h3⟩:=hc h0
 refine ⟨b,h1,h2,Row.lt h3,fun i x hx=>?_⟩
 rw [h3.cell]
 have h4:(strs L)[i]?=some (.string x):=by unfold strs;rw [List.getElem?_map,hx];rfl
 rw [List.getElem?_append_left (List.getElem?_eq_some_iff.1 h4).1]
 exact h4
theorem StR.upd {B:Nat} {w w':World} {v:Value} {L:List ByteArray} {g:Nat} {l:List Value} {t:TypeId} (h:StR B w v L) (hr:Row w g l t) (ht:t≠9) (hu:Upd g w w'):StR B w' v L:=by
 obtain ⟨p,cap,hv,hc⟩:=h
 refine ⟨p,cap,hv,fun h0=>?_⟩
 obtain ⟨b,tl,h1,h2,h3⟩:=hc h0
 exact ⟨b,tl,h1,h2,hu.row h3 (fun e=>by subst e;exact ht (cZ hr h3))⟩
theorem StR.base {B B':Nat} {w:World} {v:Value} {L:List ByteArray} (h:StR B w v L) (hb:B'≤B):StR B' w v L:=by
 obtain ⟨p,cap,hv,hc⟩:=h
 refine ⟨p,cap,hv,fun h0=>?_⟩
 obtain ⟨b,tl,h1,h2,h3⟩:=hc h0
 exact ⟨b,tl,h1,Nat.le_trans hb h2,h3⟩
theorem upd_fresh {g b:Nat} {w w1 w2:World} (h:Upd g w w1) (hb:w.heap.size≤b) (hu:Upd b w1 w2):Upd g w w2 :=
 ⟨hu.os.trans h.os,hu.tape.trans h.tape,hu.output.trans h.output,Nat.le_trans h.size hu.size,fun k hk hn=>(hu.block k (Nat.lt_of_lt_of_le hk h.size) (by omega)).trans (h.block k hk hn)⟩
def RmX (w w':World) (rb:Nat) (v:Value) (L:List ByteArray) (q:Nms):Prop :=
 ∃b2 cap tl,StR w.heap.size w' v L∧w.heap.size≤b2∧Row w' rb [.slice (some ⟨b2,0,none⟩) q.length cap] 71∧q.length≤cap∧Row w' b2 (q.flatMap spv++tl) 50∧Upd rb w w'
theorem remR_x {w:World} {B rb:Nat} {p:Nms} (h:RfAt B w rb p) (hok:NmOk p) (hpl:p.length≤80000) (s:ByteArray) (hs:s.size≤1000) (e0:Int) (he0:e0=remE p s) (hez:e0=0) (hnz:e0=0→0<(delN p (segsB s)).length) :
  Calls Tryz.prog 44 #[.pointer (some ⟨rb,0,none⟩),.string s] w fun e_ w'=>∃v,e_=.returned (.tuple #[v,.int .i64 0])∧RmX w w' rb v (remL p s 0) (delN p (segsB s)):=by
 have hm:=Mem.start w
 have HR:Hid (RfAt B w rb p):=h
 have HOK:Hid (NmOk p):=hok
 have HSZ:Hid (s.size≤1000):=hs
 have hrb:=h.lt
 obtain ⟨N,hN⟩:∃N,N=p.length:=⟨_,rfl⟩
 have HNP:Hid (N=p.length):=hN
 have hN9:N≤90000:=by omega
 obtain ⟨b,cap,hrow,hcap,hcell⟩:=h.cells
 rw [←hN] at hrow hcap
 have HROW:Hid (Row w rb [.slice (some ⟨b,0,none⟩) N cap] 71):=hrow
 have HCELL:Hid (∀i x,p[i]?=some x→∀j u,(spv x)[j]?=some u→b<w.heap.size∧w.cell? ⟨b,i * 5+j,none⟩=some u):=hcell
 have HNONE:Hid (∀z:Int,z≠0→remL p s z=[]):=fun z hz=>by unfold remL;rw [if_neg hz]
 clear hrow hcell
 obtain ⟨d,hd⟩:∃d,d=mkS (parOf (bs s)):=⟨_,rfl⟩
 obtain ⟨b0,hb0⟩:∃b,b=parOk (bs s):=⟨_,rfl⟩
 have HPA:Hid (Calls Tryz.prog 39 #[.string s] w fun e w'=>e=.returned (.tuple #[.string d,.bool b0])∧Below w.heap.size w w'):=by
  have h9:=bH s w hs
  rw [←hb0,←hd] at h9
  exact h9
 obtain ⟨z1,hz1⟩:∃z,z=atN p s:=⟨_,rfl⟩
 have HAT:Hid (∀W,Below w.heap.size w W→Calls Tryz.prog 40 #[.pointer (some ⟨rb,0,none⟩),.string s] W fun e w'=>e=.returned (.int .i64 z1)∧Below W.heap.size W w'):=fun W hW=>atR_n (HR.out.below hW) (by omega) s z1 hz1
 clear hd
 have hcase:(b0=false∧e0=110)∨(b0=true∧isP (bs s)=true∧e0=if hasN p (segsB s)=false then 100 else 0):=by
  rw [hb0,he0]
  unfold remE
  cases hp:isP (bs s) with
  | false=>exact Or.inl ⟨(dj hp).1,rfl⟩
  | true =>
   have hsb:segsOf (bs s)=(segsB s).map bs:=(bm _).symm
   by_cases hq:segsB s=[]
   ·exact Or.inl ⟨(cI (by rw [hsb,hq];rfl)).1,by simp [hq]⟩
   ·exact Or.inr ⟨(cm hp (by rw [hsb];simpa using hq)).1,rfl,by simp [hq]⟩
 rcases hcase with ⟨_,h110⟩|⟨rfl,hP,hE⟩
 ·omega
 ·have hgb:getB p s=hasN p (segsB s):=by unfold getB;rw [hP,Bool.true_and]
  rcases cV hok s with ⟨g1,g2⟩|⟨g1,i0,x0,_,g2,_⟩
  ·have e1:e0=100:=by rw [hE,if_pos (by rw [←hgb,g1])]
   have hz:z1 = -1:=by rw [hz1,g2]
   omega
  ·have e1:e0=0:=by rw [hE,if_neg (by rw [←hgb,g1];simp)]
   have hzi:z1=(i0:Int):=by rw [hz1,g2]
   subst e1
   subst hzi
   obtain ⟨ks,hks⟩:∃ks,ks=segsB s:=⟨_,rfl⟩
   have HKS:Hid (PlOk ks):=by rw [hks];exact aR s
   have HST:Hid (s=tx ks):=by
    have e:s=tx ks:=by rw [hks,bE hP]
    exact e
   have HNZ:Hid (0<(delN p ks).length):=by rw [hks];exact hnz rfl
   have HRL:Hid (remL p s 0=(undN p ks).map fun x=>tx x.1):=by
    have e:remL p s 0=(undN p ks).map fun x=>tx x.1:=by rw [hks];rfl
    exact e
   rw [HRL.out,←hks]
   have hi0:¬(i0:Int)<0:=by omega
   clear hz1 hb0 he0 hez hnz hs hN hpl hok hgb g1 g2 hE hP hks HNONE
   go_enter Tryz.func44,Tryz.ntmps44
   go_wp2_with (first
    | (go_at_call 39;refine (HPA.out).mono ?_;rintro e w' ⟨he,hb⟩;subst he;replace hm:=hm.call hb;clear hb)
    | (go_at_call 40;refine (HAT.out _ hm.below).mono ?_;rintro e w4 ⟨he,hb⟩;subst he;replace hm:=hm.call hb;clear hb))
   have HM0:Hid (Mem w [] w4 []):=hm
   have HG0:Hid (w4.ownsRow w.heap.size 9 1 (.slice none 0 0) 0 (strs ((undN (p.take 0) ks).map fun x=>tx x.1))):=⟨rfl,Or.inl ⟨rfl,rfl⟩⟩
   have HL0:Hid (w4.ownsRow w.heap.size 50 5 (.slice none 0 0) 0 ((delN (p.take 0) ks).flatMap spv)):=⟨rfl,Or.inl ⟨rfl,rfl⟩⟩
   clear hm HPA HAT
   go_loopw [10,8,9] (fun vi vl vg wr=>∃i:Nat,i≤N∧vi=.int .i64 (i:Int)∧∃va vb nl ng,va=vl∧vb=vg∧nl≤i∧ng≤i∧Hid (nl=(delN (p.take i) ks).length∧ng=(undN (p.take i) ks).length)∧Hid (Mem w [] wr [])∧Hid (wr.ownsRow w.heap.size 50 5 va nl ((delN (p.take i) ks).flatMap spv))∧Hid (wr.ownsRow w.heap.size 9 1 vb ng (strs ((undN (p.take i) ks).map fun x=>tx x.1)))) (fun vi _ _ _=>match vi with | .int _ q=>N - q.toNat|_=>0)
   case atStart=>exact ⟨0,by omega,rfl,_,_,0,0,rfl,rfl,Nat.le_refl _,Nat.le_refl _,⟨rfl,rfl⟩,HM0,HL0,HG0⟩
   case round =>
    obtain ⟨i,hi,rfl,va,vb,nl,ng,rfl,rfl,hnl,hng,HLN,HMM,HOL,HOG⟩:=hrel
    have HB:Hid (Below w.heap.size w wr):=HMM.out.below
    have hzw:=HMM.out.size
    by_cases hlt:i<N
    ·have hki:(i:Int)<(N:Int):=by omega
     have hw:IntKind.i64.wrap ((i:Int)+1)=(i:Int)+1:=bO _ (by omega) (by omega)
     have hl9:nl≤100000:=by omega
     have hg9:ng≤100000:=by omega
     obtain ⟨x,hx⟩:∃x,p[i]?=some x:=⟨p[i]'(by have:=HNP.out;omega),by simp [show i<p.length by have:=HNP.out;omega]⟩
     have HX:Hid (p[i]?=some x):=hx
     obtain ⟨y,hy⟩:∃y,y=tx x.1:=⟨_,rfl⟩
     have HYT:Hid (y=tx x.1):=hy
     have HY:Hid (wr.cell? ⟨b,i * 5,none⟩=some (.string y)):=by
      have h1:=HCELL.out i x hx 0 (.string y) (by rw [hy];rfl)
      exact (HB.out.cell (p:=⟨b,i * 5,none⟩) h1.1).trans h1.2
     have HRW:Hid (Row wr rb [.slice (some ⟨b,0,none⟩) N cap] 71):=Row.bel HROW.out HB.out
     have okx:PlOk x.1:=HOK.out.ok x (List.mem_of_getElem? hx)
     have hys:y.size≤1000:=by rw [hy];have:=aX okx;omega
     obtain ⟨u,hu⟩:∃u,u=undB x.1 ks:=⟨_,rfl⟩
     have HUN:Hid (Calls Tryz.prog 32 #[.string y,.string s] wr fun e w'=>e=.returned (.bool u)∧Below wr.heap.size wr w'):=by
      have h9:=cx y s wr hys HSZ.out
      have h8:undOf (bs y) (bs s)=u:=by rw [hy,HST.out,dg okx HKS.out,hu]
      rw [h8] at h9
      exact h9
     have hm:=Mem.start wr
     cases u with
     | true =>
      have hud:undN (p.take (i+1)) ks=undN (p.take i) ks++[x]:=by rw [dv hx,if_pos hu.symm]
      have hdd:delN (p.take (i+1)) ks=delN (p.take i) ks:=by rw [dp hx,if_pos hu.symm,List.append_nil]
      have HUD:Hid (undN (p.take (i+1)) ks=undN (p.take i) ks++[x]):=hud
      have HDD:Hid (delN (p.take (i+1)) ks=delN (p.take i) ks):=hdd
      clear hx hy okx hys hu hud hdd
      go_wp2_with (first
       | ((with_reducible refine ab (some 26) (.load 46 (.tmp 25)) ?_);go_must (refine aa (.slice (some ⟨b,0,none⟩) N cap) rfl (ad 0 (.slice (some ⟨b,0,none⟩) N cap) HRW.out rfl ak rfl) ?_))
       | ((with_reducible refine ab (some 34) (.load 46 (.tmp 33)) ?_);go_must (refine aa (.slice (some ⟨b,0,none⟩) N cap) rfl (ad 0 (.slice (some ⟨b,0,none⟩) N cap) HRW.out rfl ak rfl) ?_))
       | ((with_reducible refine ab (some 36) (.indexAddr 46 (.tmp 34) (.tmp 35)) ?_);go_must (refine aa (.pointer (some ⟨b,i * 5,none⟩)) rfl (ap 5 i ay ao rfl rfl rfl hlt) ?_))
       | ((with_reducible refine ab (some 38) (.load 9 (.tmp 37)) ?_);go_must (refine aa (.string y) rfl (ar (.string y) HY.out rfl aj) ?_))
       | (go_at_call 32;refine (HUN.out).mono ?_;rintro e w' ⟨he,hb⟩;subst he;replace hm:=hm.call hb;clear hb)
       | ((with_reducible refine ab (some 45) (.load 46 (.tmp 44)) ?_);go_must (refine aa (.slice (some ⟨b,0,none⟩) N cap) rfl (ad 0 (.slice (some ⟨b,0,none⟩) N cap) (Row.bel HRW.out hm.below) rfl ak rfl) ?_))
       | ((with_reducible refine ab (some 47) (.indexAddr 46 (.tmp 45) (.tmp 46)) ?_);go_must (refine aa (.pointer (some ⟨b,i * 5,none⟩)) rfl (ap 5 i ay ao rfl rfl rfl hlt) ?_))
       | ((with_reducible refine ab (some 49) (.load 9 (.tmp 48)) ?_);go_must (refine aa (.string y) rfl (ar (.string y) ((hm.below.cell (p:=⟨b,i * 5,none⟩) (block_lt_of_cell HY.out)).trans HY.out) rfl aj) ?_))
       | ((with_reducible refine ab (some 50) (.buildSlice 37 1 #[(0,.tmp 49)]) ?_);go_must (refine bK rfl (.string noStr) (.string y) aW bL rfl rfl rfl hm ?_);clear hm;intro w6 g8 hb6 hm;clear hb6)
       | ((with_reducible refine ab (some 51) (.call {callee:=.builtin .append,args:=#[.tmp 41,.tmp 50],argTypes:=#[37,37]}) ?_);go_must (refine bg (.string noStr) 1 16 rfl aW bD rfl (by omega) (by omega) (aq HOG.out hm.below) (Nat.le_trans hzw hm.size) rfl rfl (hm.get 0 rfl) rfl (cP y) hg9 ?_);intro v9 w9 ho9 hgr9 hl9;have H9:Hid (w9.ownsRow w.heap.size 9 1 v9 (ng+1) (strs ((undN (p.take i) ks).map fun x=>tx x.1)++[.string y])):=ho9;have HL9:Hid (w9.ownsRow w.heap.size 50 5 va nl ((delN (p.take i) ks).flatMap spv)):=cX (aq HOL.out hm.below) (aq HOG.out hm.below) (by decide) hgr9;replace hm:=(Mem.link HMM.out hm.tail).grownT hgr9 (aq HOG.out hm.below) (by simp) (Nat.le_refl _);clear ho9 hgr9 hl9))
      go_roundw
      case rel=>exact ⟨i+1,by omega,by go_num,va,v9,nl,ng+1,rfl,rfl,by omega,by omega,⟨by rw [HDD.out];exact HLN.out.1,by rw [HUD.out,List.length_append,←HLN.out.2];rfl⟩,hm,by rw [HDD.out];exact HL9,by rw [HUD.out];have h9:=H9.out;unfold strs at h9 ⊢;rw [List.map_append,List.map_append];rw [HYT.out] at h9;exact h9⟩
      case measure=>show N - ((i:Int)+1).toNat<N - (i:Int).toNat;omega
     | false =>
      have hud:undN (p.take (i+1)) ks=undN (p.take i) ks:=by rw [dv hx,if_neg (by rw [←hu];simp),List.append_nil]
      have hdd:delN (p.take (i+1)) ks=delN (p.take i) ks++[x]:=by rw [dp hx,if_neg (by rw [←hu];simp)]
      have HUD:Hid (undN (p.take (i+1)) ks=undN (p.take i) ks):=hud
      have HDD:Hid (delN (p.take (i+1)) ks=delN (p.take i) ks++[x]):=hdd
      have HC:Hid (∀j u,(spv x)[j]?=some u→b<wr.heap.size∧wr.cell? ⟨b,i * 5+j,none⟩=some u):=fun j u hu=>⟨Nat.lt_of_lt_of_le (HCELL.out i x hx j u hu).1 HB.out.size,(HB.out.cell (p:=⟨b,i * 5+j,none⟩) (HCELL.out i x hx j u hu).1).trans (HCELL.out i x hx j u hu).2⟩
      clear hx hy okx hys hu hud hdd
      go_wp2_with (first
       | ((with_reducible refine ab (some 26) (.load 46 (.tmp 25)) ?_);go_must (refine aa (.slice (some ⟨b,0,none⟩) N cap) rfl (ad 0 (.slice (some ⟨b,0,none⟩) N cap) HRW.out rfl ak rfl) ?_))
       | ((with_reducible refine ab (some 34) (.load 46 (.tmp 33)) ?_);go_must (refine aa (.slice (some ⟨b,0,none⟩) N cap) rfl (ad 0 (.slice (some ⟨b,0,none⟩) N cap) HRW.out rfl ak rfl) ?_))
       | ((with_reducible refine ab (some 36) (.indexAddr 46 (.tmp 34) (.tmp 35)) ?_);go_must (refine aa (.pointer (some ⟨b,i * 5,none⟩)) rfl (ap 5 i ay ao rfl rfl rfl hlt) ?_))
       | ((with_reducible refine ab (some 38) (.load 9 (.tmp 37)) ?_);go_must (refine aa (.string y) rfl (ar (.string y) HY.out rfl aj) ?_))
       | (go_at_call 32;refine (HUN.out).mono ?_;rintro e w' ⟨he,hb⟩;subst he;replace hm:=hm.call hb;clear hb)
       | ((with_reducible refine ab (some 56) (.load 46 (.tmp 55)) ?_);go_must (refine aa (.slice (some ⟨b,0,none⟩) N cap) rfl (ad 0 (.slice (some ⟨b,0,none⟩) N cap) (Row.bel HRW.out hm.below) rfl ak rfl) ?_))
       | ((with_reducible refine ab (some 58) (.indexAddr 46 (.tmp 56) (.tmp 57)) ?_);go_must (refine aa (.pointer (some ⟨b,i * 5,none⟩)) rfl (ap 5 i ay ao rfl rfl rfl hlt) ?_))
       | ((with_reducible refine ab (some 59) (.load 50 (.tmp 58)) ?_);go_must (refine aa (.agg (spv x).toArray) rfl (aA (i * 5) 5 (spv x) _ rfl (fun j u hu=>(hm.below.cell (p:=⟨b,i * 5+j,none⟩) (HC.out j u hu).1).trans (HC.out j u hu).2) bf rfl ao rfl) ?_))
       | ((with_reducible refine ab (some 60) (.buildSlice 46 1 #[(0,.tmp 59)]) ?_);go_must (refine cn (spv x) rfl rfl rfl hm ?_);clear hm;intro w6 g8 hm hb6;clear hb6)
       | ((with_reducible refine ab (some 61) (.call {callee:=.builtin .append,args:=#[.tmp 52,.tmp 60],argTypes:=#[46,46]}) ?_);go_must (refine bg (.agg spZ.toArray) 5 48 rfl ay dn rfl (by omega) (by omega) (aq HOL.out hm.below) (Nat.le_trans hzw hm.size) rfl rfl (hm.get 0 rfl) rfl (bS x) hl9 ?_);intro v9 w9 ho9 hgr9 hx9;have H9:Hid (w9.ownsRow w.heap.size 50 5 v9 (nl+1) ((delN (p.take i) ks).flatMap spv++spv x)):=ho9;have HG9:Hid (w9.ownsRow w.heap.size 9 1 vb ng (strs ((undN (p.take i) ks).map fun x=>tx x.1))):=cX (aq HOG.out hm.below) (aq HOL.out hm.below) (by decide) hgr9;replace hm:=(Mem.link HMM.out hm.tail).grownT hgr9 (aq HOL.out hm.below) (by simp) (Nat.le_refl _);clear ho9 hgr9 hx9))
      go_roundw
      case rel=>exact ⟨i+1,by omega,by go_num,v9,vb,nl+1,ng,rfl,rfl,by omega,by omega,⟨by rw [HDD.out,List.length_append,←HLN.out.1];rfl,by rw [HUD.out];exact HLN.out.2⟩,hm,by rw [HDD.out,List.flatMap_append];have h9:=H9.out;show World.ownsRow _ _ _ _ _ _ _;simpa using h9,by rw [HUD.out];exact HG9⟩
      case measure=>show N - ((i:Int)+1).toNat<N - (i:Int).toNat;omega
    ·have hin:i=N:=by omega
     have hki:¬(i:Int)<(N:Int):=by omega
     have HRW:Hid (Row wr rb [.slice (some ⟨b,0,none⟩) N cap] 71):=Row.bel HROW.out HB.out
     have ht:p.take i=p:=List.take_of_length_le (by rw [hin,HNP.out];exact Nat.le_refl _)
     have h1:=HOL.out
     have h2:=HOG.out
     have h3:=HLN.out
     rw [ht] at h1 h2 h3
     obtain ⟨b2,cap2,tl2,rfl,hc2,hb2,hcc2⟩:=own_atS h1 h3.1 HNZ.out
     have HC2:Hid ((delN p ks).length≤cap2∧w.heap.size≤b2∧Row wr b2 ((delN p ks).flatMap spv++tl2) 50):=⟨hc2,hb2,hcc2⟩
     have HS2:Hid (StR w.heap.size wr vb ((undN p ks).map fun x=>tx x.1)):=str_of_own h2 (by rw [List.length_map];exact h3.2)
     clear ht h1 h2 h3 hc2 hb2 hcc2
     go_wp2_with (first
      | ((with_reducible refine ab (some 26) (.load 46 (.tmp 25)) ?_);go_must (refine aa (.slice (some ⟨b,0,none⟩) N cap) rfl (ad 0 (.slice (some ⟨b,0,none⟩) N cap) HRW.out rfl ak rfl) ?_))
      | ((with_reducible refine ab none (.store 46 (.tmp 65) (.tmp 63)) ?_);refine bi 0 0 (.slice (some ⟨b2,0,none⟩) (delN p ks).length cap2) (Mem.enter HRW.out) rfl rfl rfl sz_sps (by simp) rfl rfl ?_;intro w9 hm9))
     go_ret2
     have hu9:=hm9.toUpd
     exact ⟨vb,rfl,b2,cap2,tl2,HS2.out.upd HRW.out (by decide) hu9,HC2.out.2.1,hm9.get 0 rfl,HC2.out.1,hu9.row HC2.out.2.2 (by have:=HC2.out.2.1;show b2≠rb;omega),(Upd.of_below HB.out).trans hu9⟩
theorem StN.base {B B':Nat} {w:World} {v:Value} {L:List ByteArray} (h:StN B w v L) (hb:B'≤B):StN B' w v L:=by
 obtain ⟨p,cap,hv,hc⟩:=h
 refine ⟨p,cap,hv,fun h0=>?_⟩
 obtain ⟨b,h1,h2,h3⟩:=hc h0
 exact ⟨b,h1,Nat.le_trans hb h2,h3⟩
theorem dropR_n {w:World} {B rb:Nat} {p:Nms} {oB oE:List ByteArray→Int} (h:RfAt B w rb p) (hB:B≤w.heap.size) (hQ:QtOk p oB oE) (hpl:p.length≤80000) (s:ByteArray) (hs:s.size≤1000) (r:Int) (hr:r=remE p s) :
  Calls Tryz.prog 18 #[.pointer (some ⟨rb,0,none⟩),.string s] w fun e_ w'=>∃v,e_=.returned (.tuple #[v,.int .i64 r])∧StN w.heap.size w' v (remL p s r)∧RfAt B w' rb (if r=0 then dropP p (segsB s) else p)∧Upd rb w w':=by
 have HR:Hid (RfAt B w rb p):=h
 have HOK:Hid (NmOk p):=hQ.tr.ok
 have HUS:Hid (∀x∈p,(0≤usB x∧usB x≤1000000)∧0≤usE x∧usE x≤1000000):=hQ.use
 have HSZ:Hid (s.size≤1000):=hs
 have HP0:Hid (0<p.length):=hQ.tr.pos
 have hrb:=h.lt
 obtain ⟨N,hN⟩:∃N,N=p.length:=⟨_,rfl⟩
 have HNP:Hid (N=p.length):=hN
 have hN9:N≤90000:=by omega
 obtain ⟨b,cap,hrow,hcap,hcell⟩:=h.cells
 rw [←hN] at hrow hcap
 have HROW:Hid (Row w rb [.slice (some ⟨b,0,none⟩) N cap] 71):=hrow
 have HCELL:Hid (∀i x,p[i]?=some x→∀j u,(spv x)[j]?=some u→b<w.heap.size∧w.cell? ⟨b,i * 5+j,none⟩=some u):=hcell
 obtain ⟨z1,hz1⟩:∃z,z=atN p s:=⟨_,rfl⟩
 have HAT:Hid (∀W,Below w.heap.size w W→Calls Tryz.prog 40 #[.pointer (some ⟨rb,0,none⟩),.string s] W fun e w'=>e=.returned (.int .i64 z1)∧Below W.heap.size W w'):=fun W hW=>atR_n (HR.out.below hW) (by omega) s z1 hz1
 have HRW:Hid (Row w rb [.slice (some ⟨b,0,none⟩) N cap] 71):=hrow
 have hm:=Mem.start w
 by_cases h0:r=0
 ·have hg:=cV hQ.tr.ok s
  obtain ⟨hP,hne,x1,hgx,hxm1,hx1⟩:=eb (hr.symm.trans h0)
  have hgb:getB p s=true:=(getB_tx hQ.tr.ok s).2 ⟨x1,hxm1,by rw [hx1];exact bE hP⟩
  rcases hg with ⟨g1,_⟩|⟨g1,i0,x0,hx0,g2,g3⟩
  ·rw [hgb] at g1;cases g1
  ·have hzi:z1=(i0:Int):=by rw [hz1,g2]
   subst hzi
   have hm0:x0∈p:=List.mem_of_getElem? hx0
   have hst:tx x0.1=s:=atN_tx g2 hx0
   have hlt0:i0<N:=by rw [hN];exact (List.getElem?_eq_some_iff.1 hx0).1
   have hi0:(0:Int)≤(i0:Int):=by omega
   have hk0:x0.1=segsB s:=by
    have h9:=((dq (hQ.tr.ok.ok x0 hm0) s).1 hst).2
    exact h9.symm
   have hgx0:getN p (segsB s)=some x0:=by rw [←hk0];exact hQ.tr.ok.get hm0
   have HDP:Hid (dropP p (segsB s)=(delN p (segsB s)).map (chg (segsB s) (- usB x0) (- usE x0))):=by
    have e:dropP p (segsB s)=(delN p (segsB s)).map (chg (segsB s) (- usB x0) (- usE x0)):=by
     unfold dropP
     rw [hgx0]
     show dropN p x0=_
     unfold dropN chgN
     rw [hk0]
    exact e
   obtain ⟨R0,hR0⟩:∃l,l=spv x0:=⟨_,rfl⟩
   obtain ⟨b3,hb3⟩:∃z,z=usB x0:=⟨_,rfl⟩
   obtain ⟨b4,hb4⟩:∃z,z=usE x0:=⟨_,rfl⟩
   have hbd:=HUS.out x0 hm0
   rw [←hb3,←hb4] at hbd HDP
   have HR3:Hid (R0[3]?=some (.int .i64 b3)):=by show R0[3]?=some (.int .i64 b3);rw [hR0,hb3];exact (cf x0).2.1
   have HR4:Hid (R0[4]?=some (.int .i64 b4)):=by show R0[4]?=some (.int .i64 b4);rw [hR0,hb4];exact (cf x0).2.2
   have HR5:Hid (R0.length=5):=by show R0.length=5;rw [hR0];rfl
   have HRO:Hid (∀v∈R0,v.oneCell'=true):=by show ∀v∈R0,v.oneCell'=true;rw [hR0];exact bS x0
   have HC0:Hid (∀j u,R0[j]?=some u→b<w.heap.size∧w.cell? ⟨b,i0 * 5+j,none⟩=some u):=fun j u hu=>HCELL.out i0 x0 hx0 j u (by rw [←hR0];exact hu)
   obtain ⟨ks,hks⟩:∃ks,ks=segsB s:=⟨_,rfl⟩
   have HST:Hid (s=tx ks):=by
    have e:s=tx ks:=by rw [hks,bE hP]
    exact e
   have HPK:Hid (PlOk ks):=by rw [hks];exact aR s
   have hnz:0<(delN p (segsB s)).length:=by
    have h9:=(hQ.tr.delIf s).pos
    rw [if_pos (hr.symm.trans h0)] at h9
    exact h9
   obtain ⟨q,hq⟩:∃q,q=delN p ks:=⟨_,rfl⟩
   have HQM:Hid (∀x∈q,x∈p):=fun x hx=>by rw [hq] at hx;exact (List.mem_filter.1 hx).1
   have HQ0:Hid (0<q.length∧q.length≤90000):=by
    have e:0<q.length∧q.length≤90000:=by
     refine ⟨by rw [hq,hks];exact hnz,?_⟩
     have:q.length≤p.length:=by rw [hq];exact List.length_filter_le _ _
     omega
    exact e
   have HRM:Hid (∀W,Below w.heap.size w W→Calls Tryz.prog 44 #[.pointer (some ⟨rb,0,none⟩),.string s] W fun e_ w'=>∃v,e_=.returned (.tuple #[v,.int .i64 0])∧RmX W w' rb v (remL p s 0) q):=fun W hW=>by
    rw [hq,hks]
    exact remR_x (HR.out.below hW) hQ.tr.ok (by omega) s hs 0 ((h0.symm.trans hr)) rfl (fun _=>hnz)
   rw [if_pos h0,HDP.out,←hks,←hq]
   subst h0
   clear hz1 g1 g2 g3 hx0 hm0 hst hk0 hgx0 hR0 hb3 hb4 hgb hgx hxm1 hx1 hne hP hr hs hks hq hnz HDP HCELL hpl h hN hrow hcell hcap
   go_enter Tryz.func18,Tryz.ntmps18
   go_wp2_with (first
    | (go_at_call 40;refine (HAT.out _ hm.below).mono ?_;rintro e w' ⟨he,hb⟩;subst he;replace hm:=hm.call hb;clear hb)
    | ((with_reducible refine ab (some 7) (.alloc 50) ?_);refine ae _ aS hm ?_;clear hm;intro w3 g7 hm)
    | ((with_reducible refine ab (some 14) (.build 50 #[]) ?_);refine az spZ [] rfl (by kernel_rfl) ?_)
    | ((with_reducible refine ab none (.store 50 (.tmp 7) (.tmp 14)) ?_);refine af 0 spZ hm rfl rfl rfl 5 ao rfl rfl (bl [] 0 0) ?_;clear hm;intro w4 hm)
    | ((with_reducible refine ab (some 20) (.load 46 (.tmp 19)) ?_);go_must (refine aa (.slice (some ⟨b,0,none⟩) N cap) rfl (ad 0 (.slice (some ⟨b,0,none⟩) N cap) (Row.bel HRW.out hm.below) rfl ak rfl) ?_))
    | ((with_reducible refine ab (some 22) (.indexAddr 46 (.tmp 20) (.tmp 21)) ?_);go_must (refine aa (.pointer (some ⟨b,i0 * 5,none⟩)) rfl (ap 5 i0 ay ao rfl rfl rfl hlt0) ?_))
    | ((with_reducible refine ab (some 23) (.load 50 (.tmp 22)) ?_);go_must (refine aa (.agg R0.toArray) rfl (aA (i0 * 5) 5 R0 _ rfl (fun j u hu=>(hm.below.cell (p:=⟨b,i0 * 5+j,none⟩) (HC0.out j u hu).1).trans (HC0.out j u hu).2) bf rfl ao HR5.out) ?_))
    | ((with_reducible refine ab none (.store 50 (.tmp 7) (.tmp 23)) ?_);refine af 0 R0 hm rfl rfl rfl 5 ao rfl HR5.out HRO.out ?_;clear hm;intro w5 hm)
    | (go_at_call 44;refine (HRM.out _ hm.below).mono ?_;rintro e w6 ⟨v,he,b2,cap2,tl2,hst,hb2,hr1,hc2,hr2,hu⟩;subst he;have HST2:Hid (StR w.heap.size w6 v (remL p s 0)):=hst.base hm.size;have HG70:Hid (Row w5 g7 R0 50):=hm.get 0 rfl;have hw5:w.heap.size≤b2:=Nat.le_trans hm.size hb2;have HU6:Hid (Upd rb w w6):=(Upd.of_below hm.below).trans hu;have hg7b:g7≠b2:=(by have:=Row.lt HG70.out;omega);have HG76:Hid (Row w6 g7 R0 50):=hu.row HG70.out (rb_ne (Row.bel HRW.out hm.below) HG70.out).symm;have HRA:Hid (Row w6 rb [.slice (some ⟨b2,0,none⟩) q.length cap2] 71∧q.length≤cap2∧Row w6 b2 (q.flatMap spv++tl2) 50):=⟨hr1,hc2,hr2⟩;clear hm hst hr1 hc2 hr2 hu hb2 HG70))
   clear HRM HAT HRW hlt0 hN9 HNP HROW HC0
   obtain ⟨N,hN⟩:∃N,N=q.length:=⟨_,rfl⟩
   have HNP:Hid (N=q.length):=hN
   have hN9:N≤90000:=by have:=HQ0.out;omega
   have HK0:Hid (RfK w6 rb b2 cap2 N q (chg ks (-b3) (-b4)) 0 tl2):=by rw [hN];exact RfK.start HRA.out.1 HRA.out.2.2
   have HU0:Hid (Upd b2 w6 w6):=Upd.refl _ _
   clear hN
   obtain ⟨b,hbb⟩:∃b,b=b2:=⟨_,rfl⟩
   obtain ⟨cap,hcc⟩:∃c,c=cap2:=⟨_,rfl⟩
   rw [←hbb,←hcc] at HK0
   rw [←hbb] at HU0 hg7b
   rw [←hbb] at hw5
   rw [←hbb,←hcc] at HRA
   clear hbb hcc b2 cap2
   go_loopw [10] (fun vi wr=>∃i:Nat,i≤N∧vi=.int .i64 (i:Int)∧Hid (RfK wr rb b cap N q (chg ks (-b3) (-b4)) i tl2)∧Hid (Upd b w6 wr)∧Hid (Row wr g7 R0 50)) (fun vi _=>match vi with | .int _ q=>N - q.toNat|_=>0)
   case atStart=>exact ⟨0,by omega,rfl,HK0,HU0,HG76⟩
   case round =>
    clear HK0 HU0 HG76
    obtain ⟨i,hi,rfl,HK,HU,HG7⟩:=hrel
    have HRW:Hid (Row wr rb [.slice (some ⟨b,0,none⟩) N cap] 71):=HK.out.1
    by_cases hlt:i<N
    ·have hki:(i:Int)<(N:Int):=by omega
     have hw:IntKind.i64.wrap ((i:Int)+1)=(i:Int)+1:=bO _ (by omega) (by omega)
     obtain ⟨x,hx⟩:∃x,q[i]?=some x:=⟨q[i]'(by have:=HNP.out;omega),by simp [show i<q.length by have:=HNP.out;omega]⟩
     have hxm:x∈p:=HQM.out x (List.mem_of_getElem? hx)
     have okx:PlOk x.1:=HOK.out.ok x hxm
     have HX:Hid (q[i]?=some x):=hx
     obtain ⟨y,hy⟩:∃y,y=tx x.1:=⟨_,rfl⟩
     obtain ⟨a3,ha3⟩:∃z,z=usB x:=⟨_,rfl⟩
     obtain ⟨a4,ha4⟩:∃z,z=usE x:=⟨_,rfl⟩
     have HY:Hid (wr.cell? ⟨b,i * 5,none⟩=some (.string y)):=(HK.out.cell hx 0 _ (by rw [hy];exact (cf x).1)).2
     have HC3:Hid (b<wr.heap.size∧wr.cell? ⟨b,i * 5+3,none⟩=some (.int .i64 a3)):=HK.out.cell hx 3 _ (by rw [ha3];exact (cf x).2.1)
     have HC4:Hid (b<wr.heap.size∧wr.cell? ⟨b,i * 5+4,none⟩=some (.int .i64 a4)):=HK.out.cell hx 4 _ (by rw [ha4];exact (cf x).2.2)
     have hub:=HUS.out x hxm
     rw [←ha3,←ha4] at hub
     obtain ⟨un,hun⟩:∃z,z=undB ks x.1:=⟨_,rfl⟩
     have HUN:Hid (∀W,Calls Tryz.prog 32 #[.string s,.string y] W fun e w'=>e=.returned (.bool un)∧Below W.heap.size W w'):=fun W=>by
      have h9:=cx s y W HSZ.out (by rw [hy];have:=aX okx;omega)
      have h8:undOf (bs s) (bs y)=un:=by rw [hy,HST.out,dg HPK.out okx,hun]
      rw [h8] at h9
      exact h9
     have hm:=Mem.start wr
     cases un with
     | false =>
      have HKN:Hid (RfK wr rb b cap N q (chg ks (-b3) (-b4)) (i+1) tl2):=HK.out.keep hx (chg_not hun.symm (-b3) (-b4))
      clear hx hxm okx hy ha3 ha4 hub hun HC3 HC4
      go_wp2_with (first
       | ((with_reducible refine ab (some 34) (.load 46 (.tmp 33)) ?_);go_must (refine aa (.slice (some ⟨b,0,none⟩) N cap) rfl (ad 0 (.slice (some ⟨b,0,none⟩) N cap) HRW.out rfl ak rfl) ?_))
       | ((with_reducible refine ab (some 47) (.load 46 (.tmp 46)) ?_);go_must (refine aa (.slice (some ⟨b,0,none⟩) N cap) rfl (ad 0 (.slice (some ⟨b,0,none⟩) N cap) HRW.out rfl ak rfl) ?_))
       | ((with_reducible refine ab (some 49) (.indexAddr 46 (.tmp 47) (.tmp 48)) ?_);go_must (refine aa (.pointer (some ⟨b,i * 5,none⟩)) rfl (ap 5 i ay ao rfl rfl rfl hlt) ?_))
       | ((with_reducible refine ab (some 51) (.load 9 (.tmp 50)) ?_);go_must (refine aa (.string y) rfl (ar (.string y) HY.out rfl aj) ?_))
       | (go_at_call 32;refine (HUN.out _).mono ?_;rintro e w' ⟨he,hb⟩;subst he;replace hm:=hm.call hb;clear hb))
      go_roundw
      case rel=>exact ⟨i+1,by omega,by go_num,HKN.out.below hm.below,HU.out.trans (Upd.of_below hm.below),Row.bel HG7.out hm.below⟩
      case measure=>show N - ((i:Int)+1).toNat<N - (i:Int).toNat;omega
     | true =>
      obtain ⟨s3,hs3⟩:∃z,z=a3 - b3:=⟨_,rfl⟩
      obtain ⟨s4,hs4⟩:∃z,z=a4 - b4:=⟨_,rfl⟩
      have hw3:IntKind.i64.wrap (a3 - b3)=s3:=(bt _ (by omega) (by omega)).trans hs3.symm
      have hw4:IntKind.i64.wrap (a4 - b4)=s4:=(bt _ (by omega) (by omega)).trans hs4.symm
      have HNX:Hid (undB ks x.1=true∧s3=usB x+(-b3)∧s4=usE x+(-b4)):=⟨hun.symm,by rw [hs3,ha3];rfl,by rw [hs4,ha4];rfl⟩
      obtain ⟨CS,hCS⟩:∃l,l=(chK (chg ks (-b3) (-b4)) q i).flatMap spv++tl2:=⟨_,rfl⟩
      have HCS:Hid (CS=(chK (chg ks (-b3) (-b4)) q i).flatMap spv++tl2):=hCS
      have HRB:Hid (Row wr b CS 50):=by rw [hCS];exact HK.out.2
      have HLN3:Hid (i * 5+3<CS.length):=by have h9:i * 5+3<CS.length:=(by rw [hCS];exact eD hx tl2 (by omega));exact h9
      have HLN4:Hid (i * 5+4<(CS.set (i * 5+3) (.int .i64 s3)).length):=by have h9:i * 5+4<(CS.set (i * 5+3) (.int .i64 s3)).length:=(by rw [List.length_set,hCS];exact eD hx tl2 (by omega));exact h9
      have HNE:Hid (rb≠b):=rb_ne HK.out.1 HK.out.2
      have hne4:i * 5+3≠i * 5+4:=by omega
      have HI4:Hid ((CS.set (i * 5+3) (.int .i64 s3))[i * 5+4]?=some (.int .i64 a4)):=by
       have h9:(CS.set (i * 5+3) (.int .i64 s3))[i * 5+4]?=some (.int .i64 a4):=by
        rw [List.getElem?_set_ne hne4,←HRB.out.cell]
        exact HC4.out.2
       exact h9
      clear hx hxm okx hy ha3 ha4 hub hun hs3 hs4 hCS hne4
      go_wp2_with (first
       | ((with_reducible refine ab (some 34) (.load 46 (.tmp 33)) ?_);go_must (refine aa (.slice (some ⟨b,0,none⟩) N cap) rfl (ad 0 (.slice (some ⟨b,0,none⟩) N cap) HRW.out rfl ak rfl) ?_))
       | ((with_reducible refine ab (some 47) (.load 46 (.tmp 46)) ?_);go_must (refine aa (.slice (some ⟨b,0,none⟩) N cap) rfl (ad 0 (.slice (some ⟨b,0,none⟩) N cap) HRW.out rfl ak rfl) ?_))
       | ((with_reducible refine ab (some 49) (.indexAddr 46 (.tmp 47) (.tmp 48)) ?_);go_must (refine aa (.pointer (some ⟨b,i * 5,none⟩)) rfl (ap 5 i ay ao rfl rfl rfl hlt) ?_))
       | ((with_reducible refine ab (some 51) (.load 9 (.tmp 50)) ?_);go_must (refine aa (.string y) rfl (ar (.string y) HY.out rfl aj) ?_))
       | (go_at_call 32;refine (HUN.out _).mono ?_;rintro e w' ⟨he,hb⟩;subst he;replace hm:=hm.call hb;clear hb))
      refine am ?_
      refine cT (T:=fun W=>Mem wr [] W []) (T2:=fun _=>True) 18 (by kernel_rfl) hm ?_
      clear hm
      intro wc hm
      refine ai 0 (v:=.pointer (some ⟨rb,0,none⟩)) rfl (by kernel_rfl) (by kernel_rfl) (by kernel_rfl) rfl rfl (fun W _=>by go_simp) hm ?_
      go_simp
      refine ai 1 (v:=.pointer (some ⟨rb,0,none⟩)) rfl (by kernel_rfl) (by kernel_rfl) (by kernel_rfl) rfl rfl (fun W _=>by go_simp) hm ?_
      go_simp
      refine ai 2 (v:=.pointer (some ⟨rb,0,none⟩)) rfl (by kernel_rfl) (by kernel_rfl) (by kernel_rfl) rfl rfl (fun W _=>by go_simp) hm ?_
      go_simp
      refine ba 3 (v:=.slice (some ⟨b,0,none⟩) N cap) rfl (by kernel_rfl) (by kernel_rfl) (by kernel_rfl) rfl rfl (by kernel_rfl) rfl (fun W hW=>ad 0 (.slice (some ⟨b,0,none⟩) N cap) (Row.bel HRW.out hW.below) rfl ak rfl) hm ?_
      go_simp
      refine ai 4 (v:=.int .i64 (i:Int)) rfl (by kernel_rfl) (by kernel_rfl) (by kernel_rfl) rfl rfl (fun W _=>by go_simp) hm ?_
      go_simp
      refine ai 5 (v:=.pointer (some ⟨rb,0,none⟩)) rfl (by kernel_rfl) (by kernel_rfl) (by kernel_rfl) rfl rfl (fun W _=>by go_simp) hm ?_
      go_simp
      refine ai 6 (v:=.pointer (some ⟨rb,0,none⟩)) rfl (by kernel_rfl) (by kernel_rfl) (by kernel_rfl) rfl rfl (fun W _=>by go_simp) hm ?_
      go_simp
      refine ai 7 (v:=.pointer (some ⟨rb,0,none⟩)) rfl (by kernel_rfl) (by kernel_rfl) (by kernel_rfl) rfl rfl (fun W _=>by go_simp) hm ?_
      go_simp
      refine ba 8 (v:=.slice (some ⟨b,0,none⟩) N cap) rfl (by kernel_rfl) (by kernel_rfl) (by kernel_rfl) rfl rfl (by kernel_rfl) rfl (fun W hW=>ad 0 (.slice (some ⟨b,0,none⟩) N cap) (Row.bel HRW.out hW.below) rfl ak rfl) hm ?_
      go_simp
      refine ai 9 (v:=.int .i64 (i:Int)) rfl (by kernel_rfl) (by kernel_rfl) (by kernel_rfl) rfl rfl (fun W _=>by go_simp) hm ?_
      go_simp
      refine ai 10 (v:=.pointer (some ⟨b,i * 5,none⟩)) rfl (by kernel_rfl) (by kernel_rfl) (by kernel_rfl) rfl rfl (fun W _=>ap 5 i ay ao rfl rfl rfl hlt) hm ?_
      go_simp
      refine ai 11 (v:=.pointer (some ⟨b,i * 5+3,none⟩)) rfl (by kernel_rfl) (by kernel_rfl) (by kernel_rfl) rfl rfl (fun W _=>by go_simp) hm ?_
      go_simp
      refine ba 12 (v:=.int .i64 a3) rfl (by kernel_rfl) (by kernel_rfl) (by kernel_rfl) rfl rfl (by kernel_rfl) rfl (fun W hW=>ar (.int .i64 a3) ((hW.below.cell (p:=⟨b,i * 5+3,none⟩) HC3.out.1).trans HC3.out.2) rfl ah) hm ?_
      go_simp
      refine ai 13 (v:=.pointer (some ⟨g7,3,none⟩)) rfl (by kernel_rfl) (by kernel_rfl) (by kernel_rfl) rfl rfl (fun W _=>by go_simp) hm ?_
      go_simp
      refine ba 14 (v:=.int .i64 b3) rfl (by kernel_rfl) (by kernel_rfl) (by kernel_rfl) rfl rfl (by kernel_rfl) rfl (fun W hW=>ad 3 (.int .i64 b3) (Row.bel HG7.out hW.below) rfl ah HR3.out) hm ?_
      go_simp
      refine ai 15 (v:=.int .i64 s3) rfl (by kernel_rfl) (by kernel_rfl) (by kernel_rfl) rfl rfl (fun W _=>by go_simp<;>exact hw3) hm ?_
      go_simp
      refine ai 16 (v:=.pointer (some ⟨b,i * 5,none⟩)) rfl (by kernel_rfl) (by kernel_rfl) (by kernel_rfl) rfl rfl (fun W _=>ap 5 i ay ao rfl rfl rfl hlt) hm ?_
      go_simp
      refine ai 17 (v:=.pointer (some ⟨b,i * 5+3,none⟩)) rfl (by kernel_rfl) (by kernel_rfl) (by kernel_rfl) rfl rfl (fun W _=>by go_simp) hm ?_
      go_simp
      refine dt (by kernel_rfl) rfl rfl ?_
      intro K hK
      refine bi 0 (i * 5+3) (.int .i64 s3) (Mem.enter (Row.bel HRB.out hm.below)) rfl rfl rfl eJ HLN3.out rfl rfl ?_
      intro w9 hm9
      refine wpList_nil ?_
      refine hK _ _ trivial ?_
      clear hK K
      refine wpAnyH_done (by kernel_rfl) ?_ _
      simp only [endsIn]
      have HRB9:Hid (Row w9 b (CS.set (i * 5+3) (.int .i64 s3)) 50):=hm9.get 0 rfl
      have HRW9:Hid (Row w9 rb [.slice (some ⟨b,0,none⟩) N cap] 71):=hm9.toUpd.row (Row.bel HRW.out hm.below) HNE.out
      have HG79:Hid (Row w9 g7 R0 50):=hm9.toUpd.row (Row.bel HG7.out hm.below) hg7b
      have HU9:Hid (Upd b w6 w9):=(HU.out.trans (Upd.of_below hm.below)).trans hm9.toUpd
      have HC49:Hid (b<w9.heap.size∧w9.cell? ⟨b,i * 5+4,none⟩=some (.int .i64 a4)):=⟨Row.lt HRB9.out,by rw [HRB9.out.cell];exact HI4.out⟩
      clear hm hm9 HRW HRB HC4 HC3 HY HG7
      have HRW:=HRW9
      have HRB:=HRB9
      have HC4:=HC49
      have HG7:=HG79
      clear HRW9 HRB9 HC49 HG79
      have hm:=Mem.start w9
      go_wp2_with fail
      refine am ?_
      refine cT (T:=fun W=>Mem w9 [] W []) (T2:=fun _=>True) 18 (by kernel_rfl) hm ?_
      clear hm
      intro wc hm
      refine ai 0 (v:=.pointer (some ⟨rb,0,none⟩)) rfl (by kernel_rfl) (by kernel_rfl) (by kernel_rfl) rfl rfl (fun W _=>by go_simp) hm ?_
      go_simp
      refine ai 1 (v:=.pointer (some ⟨rb,0,none⟩)) rfl (by kernel_rfl) (by kernel_rfl) (by kernel_rfl) rfl rfl (fun W _=>by go_simp) hm ?_
      go_simp
      refine ai 2 (v:=.pointer (some ⟨rb,0,none⟩)) rfl (by kernel_rfl) (by kernel_rfl) (by kernel_rfl) rfl rfl (fun W _=>by go_simp) hm ?_
      go_simp
      refine ba 3 (v:=.slice (some ⟨b,0,none⟩) N cap) rfl (by kernel_rfl) (by kernel_rfl) (by kernel_rfl) rfl rfl (by kernel_rfl) rfl (fun W hW=>ad 0 (.slice (some ⟨b,0,none⟩) N cap) (Row.bel HRW.out hW.below) rfl ak rfl) hm ?_
      go_simp
      refine ai 4 (v:=.int .i64 (i:Int)) rfl (by kernel_rfl) (by kernel_rfl) (by kernel_rfl) rfl rfl (fun W _=>by go_simp) hm ?_
      go_simp
      refine ai 5 (v:=.pointer (some ⟨rb,0,none⟩)) rfl (by kernel_rfl) (by kernel_rfl) (by kernel_rfl) rfl rfl (fun W _=>by go_simp) hm ?_
      go_simp
      refine ai 6 (v:=.pointer (some ⟨rb,0,none⟩)) rfl (by kernel_rfl) (by kernel_rfl) (by kernel_rfl) rfl rfl (fun W _=>by go_simp) hm ?_
      go_simp
      refine ai 7 (v:=.pointer (some ⟨rb,0,none⟩)) rfl (by kernel_rfl) (by kernel_rfl) (by kernel_rfl) rfl rfl (fun W _=>by go_simp) hm ?_
      go_simp
      refine ba 8 (v:=.slice (some ⟨b,0,none⟩) N cap) rfl (by kernel_rfl) (by kernel_rfl) (by kernel_rfl) rfl rfl (by kernel_rfl) rfl (fun W hW=>ad 0 (.slice (some ⟨b,0,none⟩) N cap) (Row.bel HRW.out hW.below) rfl ak rfl) hm ?_
      go_simp
      refine ai 9 (v:=.int .i64 (i:Int)) rfl (by kernel_rfl) (by kernel_rfl) (by kernel_rfl) rfl rfl (fun W _=>by go_simp) hm ?_
      go_simp
      refine ai 10 (v:=.pointer (some ⟨b,i * 5,none⟩)) rfl (by kernel_rfl) (by kernel_rfl) (by kernel_rfl) rfl rfl (fun W _=>ap 5 i ay ao rfl rfl rfl hlt) hm ?_
      go_simp
      refine ai 11 (v:=.pointer (some ⟨b,i * 5+4,none⟩)) rfl (by kernel_rfl) (by kernel_rfl) (by kernel_rfl) rfl rfl (fun W _=>by go_simp) hm ?_
      go_simp
      refine ba 12 (v:=.int .i64 a4) rfl (by kernel_rfl) (by kernel_rfl) (by kernel_rfl) rfl rfl (by kernel_rfl) rfl (fun W hW=>ar (.int .i64 a4) ((hW.below.cell (p:=⟨b,i * 5+4,none⟩) HC4.out.1).trans HC4.out.2) rfl ah) hm ?_
      go_simp
      refine ai 13 (v:=.pointer (some ⟨g7,4,none⟩)) rfl (by kernel_rfl) (by kernel_rfl) (by kernel_rfl) rfl rfl (fun W _=>by go_simp) hm ?_
      go_simp
      refine ba 14 (v:=.int .i64 b4) rfl (by kernel_rfl) (by kernel_rfl) (by kernel_rfl) rfl rfl (by kernel_rfl) rfl (fun W hW=>ad 4 (.int .i64 b4) (Row.bel HG7.out hW.below) rfl ah HR4.out) hm ?_
      go_simp
      refine ai 15 (v:=.int .i64 s4) rfl (by kernel_rfl) (by kernel_rfl) (by kernel_rfl) rfl rfl (fun W _=>by go_simp<;>exact hw4) hm ?_
      go_simp
      refine ai 16 (v:=.pointer (some ⟨b,i * 5,none⟩)) rfl (by kernel_rfl) (by kernel_rfl) (by kernel_rfl) rfl rfl (fun W _=>ap 5 i ay ao rfl rfl rfl hlt) hm ?_
      go_simp
      refine ai 17 (v:=.pointer (some ⟨b,i * 5+4,none⟩)) rfl (by kernel_rfl) (by kernel_rfl) (by kernel_rfl) rfl rfl (fun W _=>by go_simp) hm ?_
      go_simp
      refine dt (by kernel_rfl) rfl rfl ?_
      intro K hK
      refine bi 0 (i * 5+4) (.int .i64 s4) (Mem.enter (Row.bel HRB.out hm.below)) rfl rfl rfl eJ HLN4.out rfl rfl ?_
      intro w10 hm9
      refine wpList_nil ?_
      refine hK _ _ trivial ?_
      clear hK K
      refine wpAnyH_done (by kernel_rfl) ?_ _
      simp only [endsIn]
      have HRB9:Hid (Row w10 b ((CS.set (i * 5+3) (.int .i64 s3)).set (i * 5+4) (.int .i64 s4)) 50):=hm9.get 0 rfl
      have HRW9:Hid (Row w10 rb [.slice (some ⟨b,0,none⟩) N cap] 71):=hm9.toUpd.row (Row.bel HRW.out hm.below) HNE.out
      have HG79:Hid (Row w10 g7 R0 50):=hm9.toUpd.row (Row.bel HG7.out hm.below) hg7b
      have HU10:Hid (Upd b w6 w10):=(HU9.out.trans (Upd.of_below hm.below)).trans hm9.toUpd
      clear hm hm9
      go_wp2_with fail
      go_roundw
      case rel=>exact ⟨i+1,by omega,by go_num,rf_next HX.out HNX.out.1 HNX.out.2.1 HNX.out.2.2 HRW9.out (by rw [←HCS.out];exact HRB9.out),HU10,HG79⟩
      case measure=>show N - ((i:Int)+1).toNat<N - (i:Int).toNat;omega
    ·have hin:i=N:=by omega
     have hki:¬(i:Int)<(N:Int):=by omega
     have hm:=Mem.start wr
     go_wp2_with (first
      | ((with_reducible refine ab (some 34) (.load 46 (.tmp 33)) ?_);go_must (refine aa (.slice (some ⟨b,0,none⟩) N cap) rfl (ad 0 (.slice (some ⟨b,0,none⟩) N cap) HRW.out rfl ak rfl) ?_)))
     go_ret2
     have h9:=HK.out
     rw [hin] at h9
     exact ⟨v,rfl,(HST2.out.upd HRA.out.2.2 (by decide) HU.out).st,h9.all HNP.out (by rw [HNP.out];exact HRA.out.2.1) (Nat.le_trans hB hw5),upd_fresh HU6.out hw5 HU.out⟩
 ·have HRM:Hid (∀W,Below w.heap.size w W→Calls Tryz.prog 44 #[.pointer (some ⟨rb,0,none⟩),.string s] W fun e_ w'=>∃v,e_=.returned (.tuple #[v,.int .i64 r])∧StN W.heap.size w' v []∧RfAt B w' rb p∧Upd rb W w'):=fun W hW=>by
   have h9:=remR_n (HR.out.below hW) (Nat.le_trans hB hW.size) hQ.tr.ok (by omega) s hs r hr (fun e=>absurd e h0)
   rw [if_neg h0] at h9
   unfold remL at h9
   rw [if_neg h0] at h9
   exact h9
  have hrl:remL p s r=[]:=by unfold remL;rw [if_neg h0]
  rw [if_neg h0,hrl]
  have hb0:(r==0)=false:=by simpa using h0
  rcases cV hQ.tr.ok s with ⟨_,g2⟩|⟨_,i0,x0,hx0,g2,_⟩
  ·have hz:z1 = -1:=by rw [hz1,g2]
   subst hz
   clear hz1 g2 h hQ hpl hrow hcell hN hr hs hrl h0
   go_enter Tryz.func18,Tryz.ntmps18
   go_wp2_with (first
    | (go_at_call 40;refine (HAT.out _ hm.below).mono ?_;rintro e w' ⟨he,hb⟩;subst he;replace hm:=hm.call hb;clear hb)
    | ((with_reducible refine ab (some 7) (.alloc 50) ?_);refine ae _ aS hm ?_;clear hm;intro w3 g7 hm)
    | ((with_reducible refine ab (some 14) (.build 50 #[]) ?_);refine az spZ [] rfl (by kernel_rfl) ?_)
    | ((with_reducible refine ab none (.store 50 (.tmp 7) (.tmp 14)) ?_);refine af 0 spZ hm rfl rfl rfl 5 ao rfl rfl (bl [] 0 0) ?_;clear hm;intro w4 hm)
    | (go_at_call 44;refine (HRM.out _ hm.below).mono ?_;rintro e w6 ⟨v,he,hst,hrf,hu⟩;subst he;have HST2:Hid (StN w.heap.size w6 v []):=hst.base hm.size;have HRF:Hid (RfAt B w6 rb p):=hrf;have HU6:Hid (Upd rb w w6):=(Upd.of_below hm.below).trans hu;clear hm hst hrf hu))
   clear HRM HAT
   go_loopw [10] (fun vi wr=>vi=.int .i64 0∧Hid (StN w.heap.size wr v []∧RfAt B wr rb p∧Upd rb w wr)) (fun _ _=>0)
   case atStart=>exact ⟨rfl,HST2.out,HRF.out,HU6.out⟩
   case round =>
    clear HST2 HRF HU6
    obtain ⟨rfl,HQ⟩:=hrel
    obtain ⟨b2,cap2,hrw2,_,_⟩:=HQ.out.2.1.cells
    have hki:(0:Int)<(p.length:Int):=by have:=HP0.out;omega
    have HRW2:Hid (Row wr rb [.slice (some ⟨b2,0,none⟩) p.length cap2] 71):=hrw2
    have hm:=Mem.start wr
    clear hrw2
    go_wp2_with (first
     | ((with_reducible refine ab (some 34) (.load 46 (.tmp 33)) ?_);go_must (refine aa (.slice (some ⟨b2,0,none⟩) p.length cap2) rfl (ad 0 (.slice (some ⟨b2,0,none⟩) p.length cap2) HRW2.out rfl ak rfl) ?_)))
    go_ret2
    exact ⟨v,rfl,HQ.out.1,HQ.out.2.1,HQ.out.2.2⟩
  ·have hzi:z1=(i0:Int):=by rw [hz1,g2]
   subst hzi
   have hlt0:i0<N:=by rw [hN];exact (List.getElem?_eq_some_iff.1 hx0).1
   have hi0:(0:Int)≤(i0:Int):=by omega
   obtain ⟨R0,hR0⟩:∃l,l=spv x0:=⟨_,rfl⟩
   have HR5:Hid (R0.length=5):=by show R0.length=5;rw [hR0];rfl
   have HRO:Hid (∀v∈R0,v.oneCell'=true):=by show ∀v∈R0,v.oneCell'=true;rw [hR0];exact bS x0
   have HC0:Hid (∀j u,R0[j]?=some u→b<w.heap.size∧w.cell? ⟨b,i0 * 5+j,none⟩=some u):=fun j u hu=>HCELL.out i0 x0 hx0 j u (by rw [←hR0];exact hu)
   clear hz1 g2 h hQ hpl hrow hcell hN hr hs hrl h0 hx0 hR0
   go_enter Tryz.func18,Tryz.ntmps18
   go_wp2_with (first
    | (go_at_call 40;refine (HAT.out _ hm.below).mono ?_;rintro e w' ⟨he,hb⟩;subst he;replace hm:=hm.call hb;clear hb)
    | ((with_reducible refine ab (some 7) (.alloc 50) ?_);refine ae _ aS hm ?_;clear hm;intro w3 g7 hm)
    | ((with_reducible refine ab (some 14) (.build 50 #[]) ?_);refine az spZ [] rfl (by kernel_rfl) ?_)
    | ((with_reducible refine ab none (.store 50 (.tmp 7) (.tmp 14)) ?_);refine af 0 spZ hm rfl rfl rfl 5 ao rfl rfl (bl [] 0 0) ?_;clear hm;intro w4 hm)
    | ((with_reducible refine ab (some 20) (.load 46 (.tmp 19)) ?_);go_must (refine aa (.slice (some ⟨b,0,none⟩) N cap) rfl (ad 0 (.slice (some ⟨b,0,none⟩) N cap) (Row.bel HRW.out hm.below) rfl ak rfl) ?_))
    | ((with_reducible refine ab (some 22) (.indexAddr 46 (.tmp 20) (.tmp 21)) ?_);go_must (refine aa (.pointer (some ⟨b,i0 * 5,none⟩)) rfl (ap 5 i0 ay ao rfl rfl rfl hlt0) ?_))
    | ((with_reducible refine ab (some 23) (.load 50 (.tmp 22)) ?_);go_must (refine aa (.agg R0.toArray) rfl (aA (i0 * 5) 5 R0 _ rfl (fun j u hu=>(hm.below.cell (p:=⟨b,i0 * 5+j,none⟩) (HC0.out j u hu).1).trans (HC0.out j u hu).2) bf rfl ao HR5.out) ?_))
    | ((with_reducible refine ab none (.store 50 (.tmp 7) (.tmp 23)) ?_);refine af 0 R0 hm rfl rfl rfl 5 ao rfl HR5.out HRO.out ?_;clear hm;intro w5 hm)
    | (go_at_call 44;refine (HRM.out _ hm.below).mono ?_;rintro e w6 ⟨v,he,hst,hrf,hu⟩;subst he;have HST2:Hid (StN w.heap.size w6 v []):=hst.base hm.size;have HRF:Hid (RfAt B w6 rb p):=hrf;have HU6:Hid (Upd rb w w6):=(Upd.of_below hm.below).trans hu;clear hm hst hrf hu))
   clear HRM HAT
   go_loopw [10] (fun vi wr=>vi=.int .i64 0∧Hid (StN w.heap.size wr v []∧RfAt B wr rb p∧Upd rb w wr)) (fun _ _=>0)
   case atStart=>exact ⟨rfl,HST2.out,HRF.out,HU6.out⟩
   case round =>
    clear HST2 HRF HU6
    obtain ⟨rfl,HQ⟩:=hrel
    obtain ⟨b2,cap2,hrw2,_,_⟩:=HQ.out.2.1.cells
    have hki:(0:Int)<(p.length:Int):=by have:=HP0.out;omega
    have HRW2:Hid (Row wr rb [.slice (some ⟨b2,0,none⟩) p.length cap2] 71):=hrw2
    have hm:=Mem.start wr
    clear hrw2
    go_wp2_with (first
     | ((with_reducible refine ab (some 34) (.load 46 (.tmp 33)) ?_);go_must (refine aa (.slice (some ⟨b2,0,none⟩) p.length cap2) rfl (ad 0 (.slice (some ⟨b2,0,none⟩) p.length cap2) HRW2.out rfl ak rfl) ?_)))
    go_ret2
    exact ⟨v,rfl,HQ.out.1,HQ.out.2.1,HQ.out.2.2⟩
open Go Go.ChangeShapes Go.WideShapes Go.ChangeAt Go.RowKit
theorem dl:Tryz.prog.underlying 22=some (.slice 31):=Tryz.underlying22
theorem un_stp:∃fs,Tryz.prog.underlying 31=some (.struct fs)∧(fs[0]?).map (fun f=>(f.type,f.offset))=some (3,0)∧(fs[1]?).map (fun f=>(f.type,f.offset))=some (9,1)∧(fs[2]?).map (fun f=>(f.type,f.offset))=some (3,2)∧(fs[3]?).map (fun f=>(f.type,f.offset))=some (3,3)∧fs.size=4 :=
 ⟨match Tryz.prog.underlying 31 with|some (.struct fs)=>fs|_=>#[],by kernel_rfl,by kernel_rfl,by kernel_rfl,by kernel_rfl,by kernel_rfl,by kernel_rfl⟩
theorem un_intS:Tryz.prog.underlying 3=some (.int .i64):=Tryz.underlying3
theorem cells_stp:Tryz.prog.cellsOf 31=4:=by kernel_rfl
theorem eh:Tryz.prog.cellsOf 3=1:=by kernel_rfl
theorem cells_strE:Tryz.prog.cellsOf 9=1:=by kernel_rfl
theorem info_stp:(Tryz.prog.info? 31).map (fun i=>(i.zero,i.size))=some (some (.agg [Value.int .i64 0,.string noStr,.int .i64 0,.int .i64 0].toArray),4):=by kernel_rfl
theorem dO:∀w,(zeroValue 31).run Tryz.prog w=.ok (.agg [Value.int .i64 0,.string noStr,.int .i64 0,.int .i64 0].toArray) w:=(zero_of_info info_stp).1
theorem cg:(Tryz.prog.info? 31).map (·.size)=some 4:=(zero_of_info info_stp).2
theorem eH:Tryz.prog.underlying 31=some (.struct (Tryz.prog.fieldsOf 31)):=by kernel_rfl
structure Stp where
 wh:Int
 path:ByteArray
 b:Int
 e:Int
def stp0:Stp:=⟨0,noStr,0,0⟩
def Stp.row (x:Stp):List Value:=[.int .i64 x.wh,.string x.path,.int .i64 x.b,.int .i64 x.e]
theorem Stp.one (x:Stp):∀v∈x.row,v.oneCell'=true:=by intro v hv;simp [Stp.row] at hv;rcases hv with rfl|rfl|rfl|rfl<;>rfl
structure Stp.Good (x:Stp) (_W:World):Prop where
 any:x.wh=x.wh
theorem open_stp {H:Type} {enc:TypeId×Value→H} {W:World} {cs:List Value} {n:Nat} {x:DataW H×List MemPlace} (hf:DataW.trod enc Tryz.prog W 0 (fun _=>true) true n 31 cs=some x):∃s:Stp,cs=s.row∧s.Good W:=by
 obtain ⟨fs,hu,h0,h1,h2,h3,hsz⟩:=un_stp
 obtain ⟨xs,m,rfl,_,hl,hxl,hget⟩:=DataW.trod_struct hu hf
 rw [cells_stp] at hl
 have key:∀(i:Nat) (T:TypeId),(fs[i]?).map (fun f=>(f.type,f.offset))=some (T,i)→Tryz.prog.cellsOf T=1→i<4→∃y c,cs[i]?=some c∧DataW.trod enc Tryz.prog W 0 (fun _=>true) true m T [c]=some y:=by
  intro i T hi hc hi5
  obtain ⟨f,hf1,hf2⟩:=Option.map_eq_some_iff.1 hi
  simp only [Prod.mk.injEq] at hf2
  obtain ⟨rfl,hfo⟩:=hf2
  have hg:=hget i f hf1
  rw [hc,hfo] at hg
  have hx:xs[i]?=some (xs[i]'(by omega)):=by simp [show i<xs.length by omega]
  rw [hx] at hg
  have hc1:cs[i]?=some (cs[i]'(by omega)):=by simp [show i<cs.length by omega]
  have hd:(cs.drop i).take 1=[cs[i]'(by omega)]:=by
   rw [List.drop_eq_getElem_cons (show i<cs.length by omega)]
   rfl
  rw [hd] at hg
  exact ⟨_,_,hc1,hg⟩
 obtain ⟨y0,c0,e0,t0⟩:=key 0 _ h0 eh (by omega)
 obtain ⟨y1,c1,e1,t1⟩:=key 1 _ h1 cells_strE (by omega)
 obtain ⟨y2,c2,e2,t2⟩:=key 2 _ h2 eh (by omega)
 obtain ⟨y3,c3,e3,t3⟩:=key 3 _ h3 eh (by omega)
 obtain ⟨z0,g0,_,_⟩:=DataW.trod_int un_intS t0
 obtain ⟨z1,g1,_,_⟩:=DataW.trod_string aF t1
 obtain ⟨z2,g2,_,_⟩:=DataW.trod_int un_intS t2
 obtain ⟨z3,g3,_,_⟩:=DataW.trod_int un_intS t3
 simp only [List.cons.injEq,and_true] at g0 g1 g2 g3
 subst g0 g1 g2 g3
 refine ⟨⟨z0,z1,z2,z3⟩,?_,⟨rfl⟩⟩
 match cs,hl,e0,e1,e2,e3 with
 | [a,b,c,d],_,e0,e1,e2,e3 =>
  simp only [List.getElem?_cons_zero,List.getElem?_cons_succ,Option.some.injEq] at e0 e1 e2 e3
  subst e0 e1 e2 e3
  rfl
theorem open_stps {H:Type} {enc:TypeId×Value→H} {W:World} {base:Nat} {v:Value} {d:DataW H} {ps:List MemPlace} (hok:Value.okWide Tryz.prog W .any base 22 v) (h:DataW.Trod enc Tryz.prog W 0 (fun _=>true) true 22 v d ps) :
  ∃(p:Option Addr) (len cap b o:Nat) (X:Nat→Stp),v=.slice p len cap∧(0<len→p=some ⟨b,o,none⟩) ∧
   ∀i,i<len→(∀j u,(X i).row[j]?=some u→W.cell? ⟨b,o+i * 4+j,none⟩=some u)∧(X i).Good W:=by
 obtain ⟨a,len,cap,rfl⟩:=okWide_slice dl hok
 obtain ⟨fuel,hf⟩:=h
 rcases Go.Deep.open_slice dl hf with ⟨hcs,_⟩|⟨x,l,c,m,n,D,Pl,hcs,_,hl,_,hm,_,hel⟩
 ·simp [Value.cells] at hcs
  obtain ⟨rfl,rfl,rfl⟩:=hcs
  exact ⟨none,0,0,0,0,fun _=>stp0,rfl,fun h=>absurd h (by omega),fun i hi=>absurd hi (by omega)⟩
 ·simp [Value.cells] at hcs
  obtain ⟨rfl,rfl,rfl⟩:=hcs
  have hm':m=cap:=by simpa using hm
  rw [cells_stp] at hel
  by_cases h0:0<len
  ·obtain ⟨b,o,spot⟩:=x
   have hspot:spot=none:=by
    obtain ⟨cs',h1,_⟩:=hel 0 (by omega)
    obtain ⟨_,h2,h3⟩:=World.cells?_some h1
    have h4:=h3 0 (by omega)
    rw [List.getElem?_eq_getElem (by omega)] at h4
    simpa [Addr.add] using World.cell?_spot h4
   subst hspot
   haveI:Inhabited Stp:=⟨stp0⟩
   obtain ⟨f,hf⟩:=Go.Deep.choose_lt (α:=Stp) (n:=len) (p:=fun i t=>(∀j u,t.row[j]?=some u→W.cell? ⟨b,o+i * 4+j,none⟩=some u)∧t.Good W)
    (fun i hi=>by
     obtain ⟨cs',h1,h2⟩:=hel i (by omega)
     obtain ⟨s,hs,hg⟩:=open_stp h2
     obtain ⟨_,h3,h4⟩:=World.cells?_some h1
     refine ⟨s,fun j u hu=>?_,hg⟩
     rw [←hs] at hu
     have hj:j<4:=by have:=(List.getElem?_eq_some_iff.1 hu).1;omega
     have h5:=h4 j hj
     rw [bn,bn] at h5
     rw [h5]
     exact hu)
   exact ⟨_,len,cap,b,o,f,rfl,fun _=>rfl,hf⟩
  ·exact ⟨some x,len,cap,0,0,fun _=>stp0,rfl,fun h=>absurd h h0,fun i hi=>absurd hi (by omega)⟩
open Go Go.RowKit Go.Maps
theorem QtS.updRow {w w':World} {lb nb m c g:Nat} {p:Nms} {oB oE:List ByteArray→Int} {l:List Value} {t:TypeId} (h:QtS w lb nb m c p oB oE) (hr:Row w g l t) (h1:t≠60) (h2:t≠69) (h0:0<g) (hu:Upd g w w'):QtS w' lb nb m c p oB oE:=by
 obtain ⟨es,cl,hes⟩:=h.isMap
 have hn:NmAt w' nb m c p:=by
  refine h.lg.nm.updO hu (fun e=>?_) (aB hr hes)
  subst e
  exact h2 (cZ hr h.lg.nm.row)
 have hl:Row w' lb [.pointer (some ⟨nb,0,none⟩)] 60:=hu.row h.lg.row (fun e=>by
  subst e
  exact h1 (cZ hr h.lg.row))
 exact ⟨⟨hl,hn⟩,h.qt,h.mx.upd0 h0 hu,h.m0⟩
structure QpS (w wr:World) (lb nb m rb c g:Nat) (p:Nms) (oB oE:List ByteArray→Int) (q:Nms) (R:List Value):Prop where
 bel:Below w.heap.size w wr
 st:QtS wr lb nb m c p oB oE
 ref:RfAt w.heap.size wr rb q
 row:Row wr g R 31
 hm:w.heap.size≤m
 hr:w.heap.size≤rb
 h0:0<w.heap.size
theorem QpS.below {w wr w':World} {lb nb m rb c g:Nat} {p q:Nms} {oB oE:List ByteArray→Int} {R:List Value} (h:QpS w wr lb nb m rb c g p oB oE q R) (hb:Below wr.heap.size wr w'):QpS w w' lb nb m rb c g p oB oE q R :=
 ⟨aD h.bel h.bel.size hb,h.st.below hb,h.ref.below hb,Row.bel h.row hb,h.hm,h.hr,h.h0⟩
theorem QpS.updM {w wr w':World} {lb nb m rb c c' g:Nat} {p p' q:Nms} {oB oE oB' oE':List ByteArray→Int} {R:List Value} (h:QpS w wr lb nb m rb c g p oB oE q R) (hn:QtS w' lb nb m c' p' oB' oE') (hu:Upd m wr w'):QpS w w' lb nb m rb c' g p' oB' oE' q R:=by
 obtain ⟨es,cl,hes⟩:=h.st.isMap
 exact ⟨be h.bel hu h.hm h.bel.size,hn,h.ref.updO hes hu,hu.row h.row (aB h.row hes),h.hm,h.hr,h.h0⟩
theorem QpS.updR {w wr w':World} {lb nb m rb c g:Nat} {p q q':Nms} {oB oE:List ByteArray→Int} {R:List Value} (h:QpS w wr lb nb m rb c g p oB oE q R) (hn:RfAt w.heap.size w' rb q') (hu:Upd rb wr w'):QpS w w' lb nb m rb c g p oB oE q' R:=by
 obtain ⟨b,cap,tl,_,h1,_⟩:=h.ref
 have hz:=h.h0
 have hr:=h.hr
 exact ⟨be h.bel hu h.hr h.bel.size,h.st.updRow h1 (by decide) (by decide) (by omega) hu,hn,hu.row h.row (fun e=>by
  subst e
  exact absurd (cZ h1 h.row) (by decide)),h.hm,h.hr,h.h0⟩
theorem QpS.updB {w wr w':World} {lb nb m rb c g b:Nat} {p q q':Nms} {oB oE:List ByteArray→Int} {R l:List Value} (h:QpS w wr lb nb m rb c g p oB oE q R) (hn:RfAt w.heap.size w' rb q') (hb:w.heap.size≤b) (h1:Row wr b l 50) (hu:Upd b wr w'):QpS w w' lb nb m rb c g p oB oE q' R:=by
 have hz:=h.h0
 exact ⟨be h.bel hu hb h.bel.size,h.st.updRow h1 (by decide) (by decide) (by omega) hu,hn,hu.row h.row (fun e=>by
  subst e
  exact absurd (cZ h1 h.row) (by decide)),h.hm,h.hr,h.h0⟩
end Go.Proofs.YtdmohffogfbnbaaGreatDoor
