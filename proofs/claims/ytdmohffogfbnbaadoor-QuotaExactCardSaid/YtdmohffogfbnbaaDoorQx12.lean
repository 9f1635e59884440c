import Derived.Test.YtdmohffogfbnbaaDoorQx11
import Derived.Test.YtdmohffogfbnbaaDoorQx07
import Derived.Test.YtdmohffogfbnbaaDoorQx04
set_option maxRecDepth 100000
set_option maxHeartbeats 4000000
namespace Go.Proofs.YtdmohffogfbnbaaDoor
open Go Go.RowKit Go.Maps
theorem aw {a:Act} {w:World} {dst:Option Tmp} {typ:TypeId} {pos:String} {aft:Array Edge} {gd:Option (Nat×Bool)} {x ix:Operand} {b n:Nat} {t e:TypeId} (i:Nat) {ii:Int} (ht:Tryd.prog.underlying t=some (.array n e)) (h3:(Tryd.prog.info? e).map (·.size)=some 1) (hx:a.eval x=.pointer (some ⟨b,0,none⟩)) (hix:a.eval ix=.int .i64 ii) (hii:ii=(i:Int)) (hi:i<n) :
  (execOp a.eval {dst:=dst,op:=.indexAddr t x ix,type:=typ,pos:=pos,after:=aft,guard:=gd}).run Tryd.prog w=.ok (.value (.pointer (some ⟨b,i,none⟩))) w:=by
 have h:=exec_ixArr (dst:=dst) (typ:=typ) (pos:=pos) (aft:=aft) (gd:=gd) (w:=w) i ht h3 hx hix hii hi
 rw [Nat.zero_add] at h
 exact h
theorem rootZ (l:Nat→Int):getV (pX l zX zX zX zX) ⟨#[]⟩=[.string noStr,.int .i64 (l 0),.int .i64 10,.int .i64 0,.int .i64 0]∧getB (pX l zX zX zX zX) ⟨#[]⟩=true:=rootX l zX zX zX zX
theorem qexact_walk (zs:List Int) (zsl:zs.length=3) (zsb:∀z∈zs,0≤z∧z<256) (kk:Int) (bk:0≤kk∧kk≤255) (x:Int) (bx:0≤x∧x≤255) (y:Int) (by9:0≤y∧y≤255) (w:World) (hM:MaxL w) :
  Calls Tryd.prog 3 #[.agg (zs.map (Value.int .u8)).toArray,.int .u8 kk,.int .u8 x,.int .u8 y] w fun e w'=>e=.returned (.bool true)∧Below w.heap.size w w':=by
 obtain ⟨l,e,hl⟩:∃l:Nat→Int,zs=[l 0,l 1,l 2]∧∀j,0≤l j∧l j≤255:=by
  match zs,zsl,zsb with
  | [a,b,c],_,h =>
   have h0:=h a (by simp)
   have h1:=h b (by simp)
   have h2:=h c (by simp)
   refine ⟨fun j=>if j=0 then a else if j=1 then b else c,rfl,fun j=>?_⟩
   show 0≤(if j=0 then a else if j=1 then b else c)∧(if j=0 then a else if j=1 then b else c)≤255
   split
   ·omega
   ·split<;>omega
 subst e
 obtain ⟨A,hA⟩:∃A,A=([l 0,l 1,l 2]:List Int).map (Value.int .u8):=⟨_,rfl⟩
 rw [←hA]
 have HA:Hid (∀j,j<3→A[j]?=some (.int .u8 (l j))):=fun j hj=>by
  rw [hA]
  match j,hj with
  | 0,_=>rfl
  | 1,_=>rfl
  | 2,_=>rfl
  | n+3,h=>exact absurd h (by omega)
 obtain ⟨K,hk⟩:∃K:Nat,kk.tmod 3=(K:Int):=⟨(kk % 3).toNat,by rw [Int.tmod_eq_emod_of_nonneg bk.1];omega⟩
 have hK3:K<3:=by
  have h1:=hk
  rw [Int.tmod_eq_emod_of_nonneg bk.1] at h1
  omega
 have hwK:wrap64 (K:Int)=(K:Int):=by unfold wrap64;omega
 obtain ⟨s,hs⟩:∃s,s=pthX K:=⟨_,rfl⟩
 have HBK:Hid (([Value.string ⟨#[]⟩,.string ⟨#[97]⟩,.string ⟨#[97,47,98]⟩])[K]?=some (.string s)):=by
  show ([Value.string ⟨#[]⟩,.string ⟨#[97]⟩,.string ⟨#[97,47,98]⟩])[K]?=some (.string s)
  rw [hs]
  match K,hK3 with
  | 0,_=>rfl
  | 1,_=>rfl
  | 2,_=>rfl
  | n+3,h=>exact absurd h (by omega)
 have hl0:=hl 0
 have hl1:=hl 1
 have hl2:=hl 2
 have HLB:Hid (∀j,0≤l j∧l j≤255):=hl
 have HP0:Hid (newN (l 0) 10=[([],l 0,10,0,0,0,0)]):=newX (l 0) (hl 0).1 (hl 0).2
 have HE1:Hid (addE [([],l 0,10,0,0,0,0)] ⟨#[97]⟩ (l 1) 10=0):=adE1 l (hl 1)
 have HP1:Hid (addN [([],l 0,10,0,0,0,0)] (segsB ⟨#[97]⟩,l 1,10,0,0,0,0)=([0,1].map fun k=>(ksX k,l k,10,0,0,0,0))):=adX1 l
 have HE2:Hid (addE ([0,1].map fun k=>(ksX k,l k,10,0,0,0,0)) ⟨#[97,47,98]⟩ (l 2) 10=0):=adE2 l (hl 2)
 have HP2:Hid (addN ([0,1].map fun k=>(ksX k,l k,10,0,0,0,0)) (segsB ⟨#[97,47,98]⟩,l 2,10,0,0,0,0)=(pX l zX zX zX zX)):=adX2 l
 have HQT:Hid (QtOk (pX l zX zX zX zX) o0X o0X):=qtX l hl
 have hwy:wrap64 y=y:=by unfold wrap64;omega
 have hwx:wrap64 x=x:=by unfold wrap64;omega
 have hw0:wrap64 (l 0)=l 0:=by unfold wrap64;omega
 have hw1:wrap64 (l 1)=l 1:=by unfold wrap64;omega
 have hw2:wrap64 (l 2)=l 2:=by unfold wrap64;omega
 have hwn:IntKind.i64.wrap (-x) = -x:=bw _ (by omega) (by omega)
 obtain ⟨u,hu⟩:∃u,u=x+y:=⟨_,rfl⟩
 have hwxy:IntKind.i64.wrap (x+y)=u:=(bw _ (by omega) (by omega)).trans hu.symm
 obtain ⟨vl,hvl⟩:∃v,v=leastX l K:=⟨_,rfl⟩
 have HVL:Hid (vl=leastX l K):=hvl
 have HR1:Hid (canE (pX l zX zX zX zX) o0X o0X s x 1=if x≤vl then 0 else 170):=by
  have h9:canE (pX l zX zX zX zX) o0X o0X s x 1=if x≤vl then 0 else 170:=by rw [hs,hvl];exact canX1 l K hK3 x bx (fun j=>(hl j).1)
  exact h9
 have HR2:Hid (canE (pX l (b1X K x) (b1X K 1) (c1X K x) (c1X K 1)) (upO o0X (segsB s) (heldC x)) (upO o0X (segsB s) (heldC 1)) s y 0=if y=0∨u≤vl then 0 else 170):=by
  have h9:=canX2 l K hK3 x y bx by9
  rw [←hs,←hvl,←hu] at h9
  exact h9
 have HC1:Hid (chgN (pX l zX zX zX zX) (segsB s) (heldC x) (heldC 1)=pX l (b1X K x) (b1X K 1) (c1X K x) (c1X K 1)):=by
  have h9:chgN (pX l zX zX zX zX) (segsB s) (heldC x) (heldC 1)=pX l (b1X K x) (b1X K 1) (c1X K x) (c1X K 1):=by rw [hs];exact chX1 l K hK3 x bx
  exact h9
 have HB1:Hid (x≤upO o0X (segsB s) (heldC x) (ksX K)∧1≤upO o0X (segsB s) (heldC 1) (ksX K)):=by
  have h9:=back1 K x bx
  rw [←hs] at h9
  exact h9
 have HB2:Hid (x≤upO (upO o0X (segsB s) (heldC x)) (segsB s) (heldC y) (ksX K)∧1≤upO (upO o0X (segsB s) (heldC 1)) (segsB s) (heldC 0) (ksX K)):=by
  have h9:=back2 K x y bx by9
  rw [←hs] at h9
  exact h9
 have HS_:Hid (s=pthX K):=hs
 have hm:=Mem.start w
 have HM:Hid (MaxL w):=hM
 have tk0:Nat:=0
 have tk1:Nat:=0
 have tk2:Nat:=0
 clear hM hA hs hvl zsl zsb hl hu
 go_enter Tryd.func3,Tryd.ntmps3
 go_wp2_with (first
  | ((with_reducible refine aa (some 4) (.box 22 (.tmp 0)) ?_);refine aE A rfl hm ?_;clear hm;intro w1 g4 hm)
  | (go_at_call 4;refine (known17_any _ (HM.out.below hm.below)).mono ?_;rintro e w2 ⟨he,hb⟩;subst he;replace hm:=hm.call hb;clear hb)
  | ((with_reducible refine aa (some 21) (.indexAddr 22 (.tmp 4) (.const (.int .i64 0))) ?_);go_must (refine ab (.pointer (some ⟨g4,0,none⟩)) rfl (aw 0 un_au3 sz_u8Q rfl rfl rfl (by omega)) ?_))
  | ((with_reducible refine aa (some 22) (.load 5 (.tmp 21)) ?_);go_must (refine ab (.int .u8 (l 0)) rfl (ae 0 (.int .u8 (l 0)) (hm.get 0 rfl) rfl ag_u8Q (HA.out 0 (by omega))) ?_))
  | (go_at_call 5;refine (new_n (l 0) 10 _).mono ?_;rintro e w3 ⟨nb,m,he,hwn,hwm,hn,hb⟩;subst he;rw [HP0.out] at hn;have HS:Hid (NwS w w3 nb m 1 [([],l 0,10,0,0,0,0)] g4 A 22 g4 A 22):=⟨hm.below.trans (hb.mono hm.size),Nat.le_trans hm.size hwm,hn,(HM.out.below hm.below).below hb,Nat.lt_of_lt_of_le HM.out.lt0 (Nat.le_trans hm.size hwm),Row.bel (hm.get 0 rfl) hb,Row.bel (hm.get 0 rfl) hb⟩;clear hm hwn hwm hn hb HM HP0)
  | ((with_reducible refine aa (some 26) (.indexAddr 22 (.tmp 4) (.const (.int .i64 1))) ?_);go_must (refine ab (.pointer (some ⟨g4,1,none⟩)) rfl (aw 1 un_au3 sz_u8Q rfl rfl rfl (by omega)) ?_))
  | ((with_reducible refine aa (some 27) (.load 5 (.tmp 26)) ?_);go_must (refine ab (.int .u8 (l 1)) rfl (ae 1 (.int .u8 (l 1)) (HS.out.ra) rfl ag_u8Q (HA.out 1 (by omega))) ?_))
  | (clear tk0;go_at_call 6;refine (add_k HS.out.nm (by omega) ⟨#[97]⟩ (by decide) HS.out.mx (l 1) 10 0 ([0,1].map fun k=>(ksX k,l k,10,0,0,0,0)) HE1.out (by rw [if_pos rfl];exact HP1.out)).mono ?_;rintro e w4 ⟨he,hn,hu⟩;subst he;replace HS:Hid (NwS w w4 nb m 2 ([0,1].map fun k=>(ksX k,l k,10,0,0,0,0)) g4 A 22 g4 A 22):=HS.out.upd hn hu;clear hn hu HE1 HP1)
  | ((with_reducible refine ay (some 33) (.indexAddr 22 (.tmp 4) (.const (.int .i64 2))) (some (6,false)) ?_);go_must (refine ab (.pointer (some ⟨g4,2,none⟩)) rfl (aw 2 un_au3 sz_u8Q rfl rfl rfl (by omega)) ?_))
  | ((with_reducible refine ay (some 34) (.load 5 (.tmp 33)) (some (6,false)) ?_);go_must (refine ab (.int .u8 (l 2)) rfl (ae 2 (.int .u8 (l 2)) (HS.out.ra) rfl ag_u8Q (HA.out 2 (by omega))) ?_))
  | (go_at_call 6;refine (add_k HS.out.nm (by omega) ⟨#[97,47,98]⟩ (by decide) HS.out.mx (l 2) 10 0 (pX l zX zX zX zX) HE2.out (by rw [if_pos rfl];exact HP2.out)).mono ?_;rintro e w5 ⟨he,hn,hu⟩;subst he;replace HS:Hid (NwS w w5 nb m 3 (pX l zX zX zX zX) g4 A 22 g4 A 22):=HS.out.upd hn hu;clear hn hu HE2 HP2)
  | (go_at_call 7;refine (newL_s _ HS.out.nm HQT.out HS.out.mx HS.out.m0).mono ?_;rintro e w6 ⟨lb,he,hs,hb⟩;subst he;replace HS:Hid (LwS w w6 lb nb m 3 (pX l zX zX zX zX) o0X o0X g4 A 22 g4 (A) 22):=HS.out.led hs hb;clear hs hb;have hm:=Mem.start w6)
  | ((with_reducible refine aa (some 41) (.build 30 #[(0,.const (.string {data:=#[]})),(1,.const (.string {data:=#[97]})),(2,.const (.string {data:=#[97,47,98]}))]) ?_);refine an [Value.string ⟨#[]⟩,.string ⟨#[97]⟩,.string ⟨#[97,47,98]⟩] [(0,.string ⟨#[]⟩),(1,.string ⟨#[97]⟩),(2,.string ⟨#[97,47,98]⟩)] rfl (built_as3 _ _ _) ?_)
  | ((with_reducible refine aa (some 11) (.alloc 30) ?_);refine ad _ zero_as3 hm ?_;clear hm;intro w7 g11 hm)
  | ((with_reducible refine aa none (.store 30 (.tmp 11) (.tmp 41)) ?_);refine af 0 [Value.string ⟨#[]⟩,.string ⟨#[97]⟩,.string ⟨#[97,47,98]⟩] hm rfl rfl rfl 3 sz_as3 rfl rfl (one_as3 _ _ _) ?_;clear hm;intro w8 hm;replace HS:Hid (LwS w w8 lb nb m 3 (pX l zX zX zX zX) o0X o0X g4 A 22 g11 ([Value.string ⟨#[]⟩,.string ⟨#[97]⟩,.string ⟨#[97,47,98]⟩]) 30):=(HS.out.below hm.below).setB (hm.get 0 rfl);clear hm)
  | ((with_reducible refine aa (some 45) (.indexAddr 22 (.tmp 4) (.const (.int .i64 0))) ?_);go_must (refine ab (.pointer (some ⟨g4,0,none⟩)) rfl (aw 0 un_au3 sz_u8Q rfl rfl rfl (by omega)) ?_))
  | ((with_reducible refine aa (some 46) (.load 5 (.tmp 45)) ?_);go_must (refine ab (.int .u8 (l 0)) rfl (ae 0 (.int .u8 (l 0)) (HS.out.ra) rfl ag_u8Q (HA.out 0 (by omega))) ?_)))
 clear HQT
 go_loopw [14,13] (fun vi v13 wr=>∃i:Nat,1≤i∧i≤K+1∧vi=.int .i64 (i:Int)∧∃z:Int,v13=.int .i64 z∧Hid (z=leastX l (i - 1))∧Hid (LwS w wr lb nb m 3 (pX l zX zX zX zX) o0X o0X g4 A 22 g11 ([Value.string ⟨#[]⟩,.string ⟨#[97]⟩,.string ⟨#[97,47,98]⟩]) 30)) (fun vi _ _=>match vi with | .int _ q=>(K+1) - q.toNat|_=>0)
 case atStart=>exact ⟨1,by omega,by omega,rfl,l 0,rfl,rfl,HS⟩
 case round =>
  clear HS
  obtain ⟨i,hi1,hi2,rfl,z,rfl,HZ,HS⟩:=hrel
  by_cases hik:i≤K
  ·have hki:(i:Int)≤(K:Int):=by omega
   have hi3:i<3:=by omega
   have hw:IntKind.i64.wrap ((i:Int)+1)=(i:Int)+1:=wrapi _ (by omega) (by omega)
   obtain ⟨li,hli⟩:∃z,z=l i:=⟨_,rfl⟩
   have HAI:Hid (A[i]?=some (.int .u8 li)):=by
    have h9:=HA.out i hi3
    rw [←hli] at h9
    exact h9
   have hlb:=HLB.out i
   rw [←hli] at hlb
   have hwi:wrap64 li=li:=by unfold wrap64;omega
   have HNX:Hid (min z li=leastX l (i+1 - 1)):=by
    have h9:min z li=leastX l (i+1 - 1):=by
     obtain ⟨i',rfl⟩:∃i',i=i'+1:=⟨i - 1,by omega⟩
     rw [hli,HZ.out]
     rfl
    exact h9
   clear hli
   go_wp2_with (first
    | ((with_reducible refine aa (some 55) (.indexAddr 22 (.tmp 4) (.tmp 54)) ?_);go_must (refine ab (.pointer (some ⟨g4,i,none⟩)) rfl (aw i un_au3 sz_u8Q rfl rfl rfl hi3) ?_))
    | ((with_reducible refine aa (some 56) (.load 5 (.tmp 55)) ?_);go_must (refine ab (.int .u8 li) rfl (ae i (.int .u8 li) HS.out.ra rfl ag_u8Q HAI.out) ?_)))
   go_roundw
   case rel=>exact ⟨i+1,by omega,by omega,by go_num,_,rfl,HNX,HS⟩
   case measure=>show (K+1) - ((i:Int)+1).toNat<(K+1) - (i:Int).toNat;omega
  ·have hiK:i=K+1:=by omega
   have hki:¬(i:Int)≤(K:Int):=by omega
   have hzv:z=vl:=by rw [HZ.out,HVL.out,hiK];rfl
   subst hzv
   clear HZ HVL hiK hw0 hw1 hw2 hl0 hl1 hl2
   by_cases hxv:x≤z
   ·have hr1:canE (pX l zX zX zX zX) o0X o0X s x 1=0:=by rw [HR1.out,if_pos hxv]
    have hR2:=HR2.out
    obtain ⟨b1,hb1⟩:∃b,b=b1X K x:=⟨_,rfl⟩
    obtain ⟨e1,he1⟩:∃b,b=b1X K 1:=⟨_,rfl⟩
    obtain ⟨c1,hc1⟩:∃b,b=c1X K x:=⟨_,rfl⟩
    obtain ⟨f1,hf1⟩:∃b,b=c1X K 1:=⟨_,rfl⟩
    rw [←hb1,←he1,←hc1,←hf1] at hR2
    have hC1:=HC1.out
    rw [←hb1,←he1,←hc1,←hf1] at hC1
    obtain ⟨oB1,hoB1⟩:∃b,b=upO o0X (segsB s) (heldC x):=⟨_,rfl⟩
    obtain ⟨oE1,hoE1⟩:∃b,b=upO o0X (segsB s) (heldC 1):=⟨_,rfl⟩
    have hB1:=HB1.out
    have hB2:=HB2.out
    rw [←hoB1,←hoE1] at hR2 hB1 hB2
    obtain ⟨x0,hx0⟩:∃v,v=b1 0:=⟨_,rfl⟩
    obtain ⟨y0,hy0⟩:∃v,v=e1 0:=⟨_,rfl⟩
    have HG1:Hid (getV (pX l b1 e1 c1 f1) ⟨#[]⟩=[.string noStr,.int .i64 (l 0),.int .i64 10,.int .i64 x0,.int .i64 y0]∧getB (pX l b1 e1 c1 f1) ⟨#[]⟩=true):=by
     have h9:=rootX l b1 e1 c1 f1
     rw [←hx0,←hy0] at h9
     exact h9
    have HP1:Hid ((if (0:Int)=0 then (chgN (pX l zX zX zX zX) (segsB s) (heldC x) (heldC 1),upO o0X (segsB s) (heldC x),upO o0X (segsB s) (heldC 1)) else ((pX l zX zX zX zX),o0X,o0X))=((pX l b1 e1 c1 f1),oB1,oE1)):=by
     have h9:(if (0:Int)=0 then (chgN (pX l zX zX zX zX) (segsB s) (heldC x) (heldC 1),upO o0X (segsB s) (heldC x),upO o0X (segsB s) (heldC 1)) else ((pX l zX zX zX zX),o0X,o0X))=((pX l b1 e1 c1 f1),oB1,oE1):=by rw [if_pos rfl,hC1,←hoB1,←hoE1]
     exact h9
    have HR1':Hid (canE (pX l zX zX zX zX) o0X o0X s x 1=0):=hr1
    clear HR1 HR2 HC1 HB1 HB2 hC1 hr1 hb1 he1 hc1 hf1 hoB1 hoE1 hx0 hy0
    by_cases hyv:y=0∨u≤z
    ·rw [if_pos hyv] at hR2
     have HR2':Hid (canE (pX l b1 e1 c1 f1) oB1 oE1 s y 0=0):=hR2
     obtain ⟨oB2,hoB2⟩:∃b,b=upO oB1 (segsB s) (heldC y):=⟨_,rfl⟩
     obtain ⟨oE2,hoE2⟩:∃b,b=upO oE1 (segsB s) (heldC 0):=⟨_,rfl⟩
     rw [←hoB2,←hoE2] at hB2
     obtain ⟨b2,e2,c2,f2,hq2⟩:∃b' e' c' f',chgN (pX l b1 e1 c1 f1) (segsB s) (heldC y) (heldC 0)=pX l b' e' c' f':=by
      rw [HS_.out];exact chX2 l b1 e1 c1 f1 K hK3 _ _
     have hr3:canE (pX l b2 e2 c2 f2) oB2 oE2 s (-x) (-1)=0:=by
      rw [HS_.out];exact canX3 l b2 e2 c2 f2 oB2 oE2 K hK3 x bx hB2.1 hB2.2
     obtain ⟨q2,hq2'⟩:∃q,q=pX l b2 e2 c2 f2:=⟨_,rfl⟩
     rw [←hq2'] at hr3 hq2
     have HR3:Hid (canE q2 oB2 oE2 s (-x) (-1)=0):=hr3
     have HP2:Hid ((if (0:Int)=0 then (chgN (pX l b1 e1 c1 f1) (segsB s) (heldC y) (heldC 0),upO oB1 (segsB s) (heldC y),upO oE1 (segsB s) (heldC 0)) else ((pX l b1 e1 c1 f1),oB1,oE1))=(q2,oB2,oE2)):=by
      have h9:(if (0:Int)=0 then (chgN (pX l b1 e1 c1 f1) (segsB s) (heldC y) (heldC 0),upO oB1 (segsB s) (heldC y),upO oE1 (segsB s) (heldC 0)) else ((pX l b1 e1 c1 f1),oB1,oE1))=(q2,oB2,oE2):=by rw [if_pos rfl,hq2,←hoB2,←hoE2]
      exact h9
     obtain ⟨q3,hq3⟩:∃q,q=chgN q2 (segsB s) (heldC (-x)) (heldC (-1)):=⟨_,rfl⟩
     obtain ⟨oB3,hoB3⟩:∃q,q=upO oB2 (segsB s) (heldC (-x)):=⟨_,rfl⟩
     obtain ⟨oE3,hoE3⟩:∃q,q=upO oE2 (segsB s) (heldC (-1)):=⟨_,rfl⟩
     have HP3:Hid ((if (0:Int)=0 then (chgN q2 (segsB s) (heldC (-x)) (heldC (-1)),upO oB2 (segsB s) (heldC (-x)),upO oE2 (segsB s) (heldC (-1))) else (q2,oB2,oE2))=(q3,oB3,oE3)):=by
      have h9:(if (0:Int)=0 then (chgN q2 (segsB s) (heldC (-x)) (heldC (-1)),upO oB2 (segsB s) (heldC (-x)),upO oE2 (segsB s) (heldC (-1))) else (q2,oB2,oE2))=(q3,oB3,oE3):=by rw [if_pos rfl,hq3,hoB3,hoE3]
      exact h9
     clear hR2 hB1 hB2 hoB2 hoE2 hq2 hr3 hq2' hq3 hoB3 hoE3
     by_cases hy0:y=0
     ·subst hy0
      go_wp2_with (first
       | ((with_reducible refine aa (some 61) (.indexAddr 30 (.tmp 11) (.tmp 60)) ?_);go_must (refine ab (.pointer (some ⟨g11,K,none⟩)) rfl (aw K bB bg rfl rfl rfl hK3) ?_))
       | ((with_reducible refine aa (some 62) (.load 9 (.tmp 61)) ?_);go_must (refine ab (.string s) rfl (ae K (.string s) HS.out.rb rfl bi HBK.out) ?_))
       | (clear tk1;go_at_call 8;refine (aL HS.out.st (by omega) s (x) (1) 0 HR1'.out (pX l b1 e1 c1 f1) oB1 oE1 HP1.out).mono ?_;rintro e_ w9 ⟨he_,hs_,hu_⟩;subst he_;replace HS:Hid (LwS w w9 lb nb m 3 (pX l b1 e1 c1 f1) oB1 oE1 g4 A 22 g11 ([Value.string ⟨#[]⟩,.string ⟨#[97]⟩,.string ⟨#[97,47,98]⟩]) 30):=HS.out.upd hs_ hu_;clear hs_ hu_)
       | (go_at_call 9;refine (ci _ HS.out.st.lg).mono ?_;rintro e wa ⟨he,hb⟩;subst he;replace HS:Hid (LwS w wa lb nb m 3 (pX l b1 e1 c1 f1) oB1 oE1 g4 A 22 g11 ([Value.string ⟨#[]⟩,.string ⟨#[97]⟩,.string ⟨#[97,47,98]⟩]) 30):=HS.out.below hb;clear hb)
       | (go_at_call 10;refine (get_k HS.out.st.lg.nm ⟨#[]⟩ (by decide) HS.out.st.mx [Value.string noStr,.int .i64 (l 0),.int .i64 10,.int .i64 (x0),.int .i64 (y0)] true (HG1.out).1 (HG1.out).2).mono ?_;rintro e wb ⟨he,hb⟩;subst he;replace HS:Hid (LwS w wb lb nb m 3 (pX l b1 e1 c1 f1) oB1 oE1 g4 A 22 g11 ([Value.string ⟨#[]⟩,.string ⟨#[97]⟩,.string ⟨#[97,47,98]⟩]) 30):=HS.out.below hb;clear hb;have hm:=Mem.start wb)
       | ((with_reducible refine aa (some 16) (.alloc 32) ?_);refine ad _ aN hm ?_;clear hm;intro wd g16 hm)
       | ((with_reducible refine aa none (.store 32 (.tmp 16) (.tmp 85)) ?_);refine af 0 [Value.string noStr,.int .i64 (l 0),.int .i64 10,.int .i64 (x0),.int .i64 (y0)] hm rfl rfl rfl 5 aJ rfl rfl (bX _ _ _ _ _) ?_;clear hm;intro we hm;replace HS:Hid (LwS w we lb nb m 3 (pX l b1 e1 c1 f1) oB1 oE1 g4 A 22 g11 ([Value.string ⟨#[]⟩,.string ⟨#[97]⟩,.string ⟨#[97,47,98]⟩]) 30):=HS.out.below hm.below;have HG:Hid (Row we g16 [Value.string noStr,.int .i64 (l 0),.int .i64 10,.int .i64 (x0),.int .i64 (y0)] 32):=hm.get 0 rfl;clear hm)
       | ((with_reducible refine aa (some 99) (.indexAddr 30 (.tmp 11) (.tmp 98)) ?_);go_must (refine ab (.pointer (some ⟨g11,K,none⟩)) rfl (aw K bB bg rfl rfl rfl hK3) ?_))
       | ((with_reducible refine aa (some 100) (.load 9 (.tmp 99)) ?_);go_must (refine ab (.string s) rfl (ae K (.string s) HS.out.rb rfl bi HBK.out) ?_))
       | (clear tk2;go_at_call 8;refine (aL HS.out.st (by omega) s (0) (0) 0 HR2'.out q2 oB2 oE2 HP2.out).mono ?_;rintro e_ wy ⟨he_,hs_,hu_⟩;subst he_;replace HS:Hid (LwS w wy lb nb m 3 q2 oB2 oE2 g4 A 22 g11 ([Value.string ⟨#[]⟩,.string ⟨#[97]⟩,.string ⟨#[97,47,98]⟩]) 30):=HS.out.upd hs_ hu_;clear hs_ hu_)
       | ((with_reducible refine ay (some 121) (.indexAddr 30 (.tmp 11) (.tmp 120)) (some (14,true)) ?_);go_must (refine ab (.pointer (some ⟨g11,K,none⟩)) rfl (aw K bB bg rfl rfl rfl hK3) ?_))
       | ((with_reducible refine ay (some 122) (.load 9 (.tmp 121)) (some (14,true)) ?_);go_must (refine ab (.string s) rfl (ae K (.string s) HS.out.rb rfl bi HBK.out) ?_))
       | (go_at_call 8;refine (aL HS.out.st (by omega) s (-x) (-1) 0 HR3.out q3 oB3 oE3 HP3.out).mono ?_;rintro e_ wz ⟨he_,hs_,hu_⟩;subst he_;replace HS:Hid (LwS w wz lb nb m 3 q3 oB3 oE3 g4 A 22 g11 ([Value.string ⟨#[]⟩,.string ⟨#[97]⟩,.string ⟨#[97,47,98]⟩]) 30):=HS.out.upd hs_ hu_;clear hs_ hu_))
      go_ret
      exact ⟨rfl,HS.out.bel⟩
     ·have hxy:u≤z:=hyv.resolve_left hy0
      have hy0b:(y==0)=false:=by simpa using hy0
      clear hyv
      go_wp2_with (first
       | ((with_reducible refine aa (some 61) (.indexAddr 30 (.tmp 11) (.tmp 60)) ?_);go_must (refine ab (.pointer (some ⟨g11,K,none⟩)) rfl (aw K bB bg rfl rfl rfl hK3) ?_))
       | ((with_reducible refine aa (some 62) (.load 9 (.tmp 61)) ?_);go_must (refine ab (.string s) rfl (ae K (.string s) HS.out.rb rfl bi HBK.out) ?_))
       | (clear tk1;go_at_call 8;refine (aL HS.out.st (by omega) s (x) (1) 0 HR1'.out (pX l b1 e1 c1 f1) oB1 oE1 HP1.out).mono ?_;rintro e_ w9 ⟨he_,hs_,hu_⟩;subst he_;replace HS:Hid (LwS w w9 lb nb m 3 (pX l b1 e1 c1 f1) oB1 oE1 g4 A 22 g11 ([Value.string ⟨#[]⟩,.string ⟨#[97]⟩,.string ⟨#[97,47,98]⟩]) 30):=HS.out.upd hs_ hu_;clear hs_ hu_)
       | (go_at_call 9;refine (ci _ HS.out.st.lg).mono ?_;rintro e wa ⟨he,hb⟩;subst he;replace HS:Hid (LwS w wa lb nb m 3 (pX l b1 e1 c1 f1) oB1 oE1 g4 A 22 g11 ([Value.string ⟨#[]⟩,.string ⟨#[97]⟩,.string ⟨#[97,47,98]⟩]) 30):=HS.out.below hb;clear hb)
       | (go_at_call 10;refine (get_k HS.out.st.lg.nm ⟨#[]⟩ (by decide) HS.out.st.mx [Value.string noStr,.int .i64 (l 0),.int .i64 10,.int .i64 (x0),.int .i64 (y0)] true (HG1.out).1 (HG1.out).2).mono ?_;rintro e wb ⟨he,hb⟩;subst he;replace HS:Hid (LwS w wb lb nb m 3 (pX l b1 e1 c1 f1) oB1 oE1 g4 A 22 g11 ([Value.string ⟨#[]⟩,.string ⟨#[97]⟩,.string ⟨#[97,47,98]⟩]) 30):=HS.out.below hb;clear hb;have hm:=Mem.start wb)
       | ((with_reducible refine aa (some 16) (.alloc 32) ?_);refine ad _ aN hm ?_;clear hm;intro wd g16 hm)
       | ((with_reducible refine aa none (.store 32 (.tmp 16) (.tmp 85)) ?_);refine af 0 [Value.string noStr,.int .i64 (l 0),.int .i64 10,.int .i64 (x0),.int .i64 (y0)] hm rfl rfl rfl 5 aJ rfl rfl (bX _ _ _ _ _) ?_;clear hm;intro we hm;replace HS:Hid (LwS w we lb nb m 3 (pX l b1 e1 c1 f1) oB1 oE1 g4 A 22 g11 ([Value.string ⟨#[]⟩,.string ⟨#[97]⟩,.string ⟨#[97,47,98]⟩]) 30):=HS.out.below hm.below;have HG:Hid (Row we g16 [Value.string noStr,.int .i64 (l 0),.int .i64 10,.int .i64 (x0),.int .i64 (y0)] 32):=hm.get 0 rfl;clear hm)
       | ((with_reducible refine aa (some 99) (.indexAddr 30 (.tmp 11) (.tmp 98)) ?_);go_must (refine ab (.pointer (some ⟨g11,K,none⟩)) rfl (aw K bB bg rfl rfl rfl hK3) ?_))
       | ((with_reducible refine aa (some 100) (.load 9 (.tmp 99)) ?_);go_must (refine ab (.string s) rfl (ae K (.string s) HS.out.rb rfl bi HBK.out) ?_))
       | (clear tk2;go_at_call 8;refine (aL HS.out.st (by omega) s (y) (0) 0 HR2'.out q2 oB2 oE2 HP2.out).mono ?_;rintro e_ wy ⟨he_,hs_,hu_⟩;subst he_;replace HS:Hid (LwS w wy lb nb m 3 q2 oB2 oE2 g4 A 22 g11 ([Value.string ⟨#[]⟩,.string ⟨#[97]⟩,.string ⟨#[97,47,98]⟩]) 30):=HS.out.upd hs_ hu_;clear hs_ hu_)
       | ((with_reducible refine ay (some 121) (.indexAddr 30 (.tmp 11) (.tmp 120)) (some (14,true)) ?_);go_must (refine ab (.pointer (some ⟨g11,K,none⟩)) rfl (aw K bB bg rfl rfl rfl hK3) ?_))
       | ((with_reducible refine ay (some 122) (.load 9 (.tmp 121)) (some (14,true)) ?_);go_must (refine ab (.string s) rfl (ae K (.string s) HS.out.rb rfl bi HBK.out) ?_))
       | (go_at_call 8;refine (aL HS.out.st (by omega) s (-x) (-1) 0 HR3.out q3 oB3 oE3 HP3.out).mono ?_;rintro e_ wz ⟨he_,hs_,hu_⟩;subst he_;replace HS:Hid (LwS w wz lb nb m 3 q3 oB3 oE3 g4 A 22 g11 ([Value.string ⟨#[]⟩,.string ⟨#[97]⟩,.string ⟨#[97,47,98]⟩]) 30):=HS.out.upd hs_ hu_;clear hs_ hu_))
      go_ret
      exact ⟨rfl,HS.out.bel⟩
    ·rw [if_neg hyv] at hR2
     have HR2':Hid (canE (pX l b1 e1 c1 f1) oB1 oE1 s y 0=170):=hR2
     have HP2:Hid ((if (170:Int)=0 then (chgN (pX l b1 e1 c1 f1) (segsB s) (heldC y) (heldC 0),upO oB1 (segsB s) (heldC y),upO oE1 (segsB s) (heldC 0)) else ((pX l b1 e1 c1 f1),oB1,oE1))=((pX l b1 e1 c1 f1),oB1,oE1)):=by
      have h9:(if (170:Int)=0 then (chgN (pX l b1 e1 c1 f1) (segsB s) (heldC y) (heldC 0),upO oB1 (segsB s) (heldC y),upO oE1 (segsB s) (heldC 0)) else ((pX l b1 e1 c1 f1),oB1,oE1))=((pX l b1 e1 c1 f1),oB1,oE1):=by rw [if_neg (by omega)]
      exact h9
     have hr3:canE (pX l b1 e1 c1 f1) oB1 oE1 s (-x) (-1)=0:=by
      rw [HS_.out];exact canX3 l b1 e1 c1 f1 oB1 oE1 K hK3 x bx hB1.1 hB1.2
     have HR3:Hid (canE (pX l b1 e1 c1 f1) oB1 oE1 s (-x) (-1)=0):=hr3
     obtain ⟨q3,hq3⟩:∃q,q=chgN (pX l b1 e1 c1 f1) (segsB s) (heldC (-x)) (heldC (-1)):=⟨_,rfl⟩
     obtain ⟨oB3,hoB3⟩:∃q,q=upO oB1 (segsB s) (heldC (-x)):=⟨_,rfl⟩
     obtain ⟨oE3,hoE3⟩:∃q,q=upO oE1 (segsB s) (heldC (-1)):=⟨_,rfl⟩
     have HP3:Hid ((if (0:Int)=0 then (chgN (pX l b1 e1 c1 f1) (segsB s) (heldC (-x)) (heldC (-1)),upO oB1 (segsB s) (heldC (-x)),upO oE1 (segsB s) (heldC (-1))) else ((pX l b1 e1 c1 f1),oB1,oE1))=(q3,oB3,oE3)):=by
      have h9:(if (0:Int)=0 then (chgN (pX l b1 e1 c1 f1) (segsB s) (heldC (-x)) (heldC (-1)),upO oB1 (segsB s) (heldC (-x)),upO oE1 (segsB s) (heldC (-1))) else ((pX l b1 e1 c1 f1),oB1,oE1))=(q3,oB3,oE3):=by rw [if_pos rfl,hq3,hoB3,hoE3]
      exact h9
     have hy0:y≠0:=fun h=>hyv (Or.inl h)
     have hxy:¬u≤z:=fun h=>hyv (Or.inr h)
     have HXY:Hid (decide (u≤z)=false):=decide_eq_false hxy
     have hy0b:(y==0)=false:=by simpa using hy0
     clear hR2 hB1 hB2 hr3 hq3 hoB3 hoE3 hyv
     go_wp2_with (first
      | ((with_reducible refine aa (some 61) (.indexAddr 30 (.tmp 11) (.tmp 60)) ?_);go_must (refine ab (.pointer (some ⟨g11,K,none⟩)) rfl (aw K bB bg rfl rfl rfl hK3) ?_))
      | ((with_reducible refine aa (some 62) (.load 9 (.tmp 61)) ?_);go_must (refine ab (.string s) rfl (ae K (.string s) HS.out.rb rfl bi HBK.out) ?_))
      | (clear tk1;go_at_call 8;refine (aL HS.out.st (by omega) s (x) (1) 0 HR1'.out (pX l b1 e1 c1 f1) oB1 oE1 HP1.out).mono ?_;rintro e_ w9 ⟨he_,hs_,hu_⟩;subst he_;replace HS:Hid (LwS w w9 lb nb m 3 (pX l b1 e1 c1 f1) oB1 oE1 g4 A 22 g11 ([Value.string ⟨#[]⟩,.string ⟨#[97]⟩,.string ⟨#[97,47,98]⟩]) 30):=HS.out.upd hs_ hu_;clear hs_ hu_)
      | (go_at_call 9;refine (ci _ HS.out.st.lg).mono ?_;rintro e wa ⟨he,hb⟩;subst he;replace HS:Hid (LwS w wa lb nb m 3 (pX l b1 e1 c1 f1) oB1 oE1 g4 A 22 g11 ([Value.string ⟨#[]⟩,.string ⟨#[97]⟩,.string ⟨#[97,47,98]⟩]) 30):=HS.out.below hb;clear hb)
      | (go_at_call 10;refine (get_k HS.out.st.lg.nm ⟨#[]⟩ (by decide) HS.out.st.mx [Value.string noStr,.int .i64 (l 0),.int .i64 10,.int .i64 (x0),.int .i64 (y0)] true (HG1.out).1 (HG1.out).2).mono ?_;rintro e wb ⟨he,hb⟩;subst he;replace HS:Hid (LwS w wb lb nb m 3 (pX l b1 e1 c1 f1) oB1 oE1 g4 A 22 g11 ([Value.string ⟨#[]⟩,.string ⟨#[97]⟩,.string ⟨#[97,47,98]⟩]) 30):=HS.out.below hb;clear hb;have hm:=Mem.start wb)
      | ((with_reducible refine aa (some 16) (.alloc 32) ?_);refine ad _ aN hm ?_;clear hm;intro wd g16 hm)
      | ((with_reducible refine aa none (.store 32 (.tmp 16) (.tmp 85)) ?_);refine af 0 [Value.string noStr,.int .i64 (l 0),.int .i64 10,.int .i64 (x0),.int .i64 (y0)] hm rfl rfl rfl 5 aJ rfl rfl (bX _ _ _ _ _) ?_;clear hm;intro we hm;replace HS:Hid (LwS w we lb nb m 3 (pX l b1 e1 c1 f1) oB1 oE1 g4 A 22 g11 ([Value.string ⟨#[]⟩,.string ⟨#[97]⟩,.string ⟨#[97,47,98]⟩]) 30):=HS.out.below hm.below;have HG:Hid (Row we g16 [Value.string noStr,.int .i64 (l 0),.int .i64 10,.int .i64 (x0),.int .i64 (y0)] 32):=hm.get 0 rfl;clear hm)
      | ((with_reducible refine aa (some 99) (.indexAddr 30 (.tmp 11) (.tmp 98)) ?_);go_must (refine ab (.pointer (some ⟨g11,K,none⟩)) rfl (aw K bB bg rfl rfl rfl hK3) ?_))
      | ((with_reducible refine aa (some 100) (.load 9 (.tmp 99)) ?_);go_must (refine ab (.string s) rfl (ae K (.string s) HS.out.rb rfl bi HBK.out) ?_))
      | (clear tk2;go_at_call 8;refine (aL HS.out.st (by omega) s (y) (0) 170 HR2'.out (pX l b1 e1 c1 f1) oB1 oE1 HP2.out).mono ?_;rintro e_ wy ⟨he_,hs_,hu_⟩;subst he_;replace HS:Hid (LwS w wy lb nb m 3 (pX l b1 e1 c1 f1) oB1 oE1 g4 A 22 g11 ([Value.string ⟨#[]⟩,.string ⟨#[97]⟩,.string ⟨#[97,47,98]⟩]) 30):=HS.out.upd hs_ hu_;clear hs_ hu_)
      | ((with_reducible refine ay (some 121) (.indexAddr 30 (.tmp 11) (.tmp 120)) (some (14,true)) ?_);rw [HXY.out];clear HXY;go_must (refine ab (.pointer (some ⟨g11,K,none⟩)) rfl (aw K bB bg rfl rfl rfl hK3) ?_))
      | ((with_reducible refine ay (some 122) (.load 9 (.tmp 121)) (some (14,true)) ?_);go_must (refine ab (.string s) rfl (ae K (.string s) HS.out.rb rfl bi HBK.out) ?_))
      | (go_at_call 8;refine (aL HS.out.st (by omega) s (-x) (-1) 0 HR3.out q3 oB3 oE3 HP3.out).mono ?_;rintro e_ wz ⟨he_,hs_,hu_⟩;subst he_;replace HS:Hid (LwS w wz lb nb m 3 q3 oB3 oE3 g4 A 22 g11 ([Value.string ⟨#[]⟩,.string ⟨#[97]⟩,.string ⟨#[97,47,98]⟩]) 30):=HS.out.upd hs_ hu_;clear hs_ hu_))
     go_ret
     exact ⟨rfl,HS.out.bel⟩
   ·have HR1':Hid (canE (pX l zX zX zX zX) o0X o0X s x 1=170):=by
     have h9:canE (pX l zX zX zX zX) o0X o0X s x 1=170:=by rw [HR1.out,if_neg hxv]
     exact h9
    have HP1:Hid ((if (170:Int)=0 then (chgN (pX l zX zX zX zX) (segsB s) (heldC x) (heldC 1),upO o0X (segsB s) (heldC x),upO o0X (segsB s) (heldC 1)) else ((pX l zX zX zX zX),o0X,o0X))=((pX l zX zX zX zX),o0X,o0X)):=by
     have h9:(if (170:Int)=0 then (chgN (pX l zX zX zX zX) (segsB s) (heldC x) (heldC 1),upO o0X (segsB s) (heldC x),upO o0X (segsB s) (heldC 1)) else ((pX l zX zX zX zX),o0X,o0X))=((pX l zX zX zX zX),o0X,o0X):=by rw [if_neg (by omega)]
     exact h9
    clear HR1 HR2 HC1 HB1 HB2
    go_wp2_with (first
     | ((with_reducible refine aa (some 61) (.indexAddr 30 (.tmp 11) (.tmp 60)) ?_);go_must (refine ab (.pointer (some ⟨g11,K,none⟩)) rfl (aw K bB bg rfl rfl rfl hK3) ?_))
     | ((with_reducible refine aa (some 62) (.load 9 (.tmp 61)) ?_);go_must (refine ab (.string s) rfl (ae K (.string s) HS.out.rb rfl bi HBK.out) ?_))
     | (clear tk1;go_at_call 8;refine (aL HS.out.st (by omega) s (x) (1) 170 HR1'.out (pX l zX zX zX zX) o0X o0X HP1.out).mono ?_;rintro e_ w9 ⟨he_,hs_,hu_⟩;subst he_;replace HS:Hid (LwS w w9 lb nb m 3 (pX l zX zX zX zX) o0X o0X g4 A 22 g11 ([Value.string ⟨#[]⟩,.string ⟨#[97]⟩,.string ⟨#[97,47,98]⟩]) 30):=HS.out.upd hs_ hu_;clear hs_ hu_)
     | (go_at_call 9;refine (ci _ HS.out.st.lg).mono ?_;rintro e wa ⟨he,hb⟩;subst he;replace HS:Hid (LwS w wa lb nb m 3 (pX l zX zX zX zX) o0X o0X g4 A 22 g11 ([Value.string ⟨#[]⟩,.string ⟨#[97]⟩,.string ⟨#[97,47,98]⟩]) 30):=HS.out.below hb;clear hb)
     | (go_at_call 10;refine (get_k HS.out.st.lg.nm ⟨#[]⟩ (by decide) HS.out.st.mx [Value.string noStr,.int .i64 (l 0),.int .i64 10,.int .i64 (0),.int .i64 (0)] true (rootZ l).1 (rootZ l).2).mono ?_;rintro e wb ⟨he,hb⟩;subst he;replace HS:Hid (LwS w wb lb nb m 3 (pX l zX zX zX zX) o0X o0X g4 A 22 g11 ([Value.string ⟨#[]⟩,.string ⟨#[97]⟩,.string ⟨#[97,47,98]⟩]) 30):=HS.out.below hb;clear hb;have hm:=Mem.start wb)
     | ((with_reducible refine aa (some 16) (.alloc 32) ?_);refine ad _ aN hm ?_;clear hm;intro wd g16 hm)
     | ((with_reducible refine aa none (.store 32 (.tmp 16) (.tmp 85)) ?_);refine af 0 [Value.string noStr,.int .i64 (l 0),.int .i64 10,.int .i64 (0),.int .i64 (0)] hm rfl rfl rfl 5 aJ rfl rfl (bX _ _ _ _ _) ?_;clear hm;intro we hm;replace HS:Hid (LwS w we lb nb m 3 (pX l zX zX zX zX) o0X o0X g4 A 22 g11 ([Value.string ⟨#[]⟩,.string ⟨#[97]⟩,.string ⟨#[97,47,98]⟩]) 30):=HS.out.below hm.below;have HG:Hid (Row we g16 [Value.string noStr,.int .i64 (l 0),.int .i64 10,.int .i64 (0),.int .i64 (0)] 32):=hm.get 0 rfl;clear hm)
     | ((with_reducible refine aa (some 90) (.load 3 (.tmp 89)) ?_);go_must (refine ab (.int .i64 (0)) rfl (ae 3 (.int .i64 (0)) HG.out rfl aj rfl) ?_))
     | ((with_reducible refine ay (some 94) (.load 3 (.tmp 93)) (some (3,true)) ?_);go_must (refine ab (.int .i64 (0)) rfl (ae 4 (.int .i64 (0)) HG.out rfl aj rfl) ?_)))
    go_ret
    exact ⟨rfl,HS.out.bel⟩
open Go Go.ChangeShapes Go.WideShapes Go.ChangeAt Go.RowKit
theorem un_u8q:Tryd.prog.underlying 5=some (.int .u8):=Tryd.underlying5
theorem cells_u8q:Tryd.prog.cellsOf 5=1:=by kernel_rfl
theorem open_a8 {H:Type} {enc:TypeId×Value→H} {W:World} {base:Nat} {v:Value} {d:DataW H} {ps:List MemPlace} (t:TypeId) (n:Nat) (un:Tryd.prog.underlying t=some (.array n 5)) (hct:Tryd.prog.cellsOf t=n) (hok:Value.okWide Tryd.prog W .any base t v) (h:DataW.Trod enc Tryd.prog W 0 (fun _=>true) true t v d ps) :
  ∃zs:List Int,v=.agg (zs.map (Value.int .u8)).toArray∧zs.length=n∧∀z∈zs,0≤z∧z<256:=by
 simp only [Value.okWide,un] at hok
 obtain ⟨cs,rfl,hsz,_⟩:=hok
 obtain ⟨fuel,hf⟩:=h
 obtain ⟨xs,m,rfl,_,hl,hxn,hget⟩:=DataW.trod_array un hf
 have hcell:∀i,i<n→∃z,cs[i]?=some (.int .u8 z)∧0≤z∧z<256:=by
  intro i hi
  have hx:xs[i]?=some (xs[i]'(by omega)):=by simp [show i<xs.length by omega]
  have h1:=hget i hi
  rw [hx,cells_u8q] at h1
  obtain ⟨z,hc,_,hwf⟩:=DataW.trod_int un_u8q h1
  have h2:=congrArg (·[0]?) hc
  have h3:cs[i]?=some (.int .u8 z):=by simpa [List.getElem?_take,List.getElem?_drop,Value.cells] using h2
  refine ⟨z,h3,?_⟩
  have:=bounds_u8 hwf
  omega
 refine ⟨cs.toList.map (fun v=>match v with | .int _ z=>z|_=>0),?_,by simp [hsz,hct],?_⟩
 ·congr 1
  apply Array.ext_getElem?
  intro i
  by_cases hi:i<n
  ·obtain ⟨z,hz,_⟩:=hcell i hi
   simp [hz]
  ·rw [Array.getElem?_eq_none (by rw [hsz,hct];omega),Array.getElem?_eq_none (by simp [hsz,hct];omega)]
 ·intro y hy
  obtain ⟨v,hv,rfl⟩:=List.mem_map.1 hy
  obtain ⟨i,hi,he⟩:=List.getElem_of_mem hv
  obtain ⟨z,hz,hb⟩:=hcell i (by simpa [hsz,hct] using hi)
  have hvz:v=.int .u8 z:=by
   have:cs.toList[i]?=some v:=by rw [←he];simp [show i<cs.size by simpa using hi]
   rw [Array.getElem?_toList,hz] at this
   exact (Option.some.inj this).symm
  subst hvz
  exact hb
theorem un_ab3:Tryd.prog.underlying 22=some (.array 3 5):=Tryd.underlying22
theorem cells_ab3:Tryd.prog.cellsOf 22=3:=by kernel_rfl
end Go.Proofs.YtdmohffogfbnbaaDoor
