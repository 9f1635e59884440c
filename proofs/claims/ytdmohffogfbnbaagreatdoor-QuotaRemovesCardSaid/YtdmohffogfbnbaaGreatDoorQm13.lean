import Derived.Test.YtdmohffogfbnbaaGreatDoorQm09
import Derived.Test.YtdmohffogfbnbaaGreatDoorQm12
import Derived.Test.YtdmohffogfbnbaaGreatDoorQm04
set_option maxRecDepth 100000
set_option maxHeartbeats 4000000
namespace Go.Proofs.YtdmohffogfbnbaaGreatDoor
open Go Go.RowKit Go.Maps
def pthR:Nat→ByteArray
 | 0=>⟨#[]⟩
 | 1=>⟨#[97]⟩
 | 2=>⟨#[97,47,98]⟩
 | _=>⟨#[99]⟩
def pRa:Nat→Nms
 | 0=>newN 100000 1000
 | k+1=>addN (pRa k) (segsB (pthR (k+1)),10000,100,0,0,0,0)
theorem addR:∀k,k<3→addE (pRa k) (pthR (k+1)) 10000 100=0
 | 0,_=>by decide +kernel
 | 1,_=>by decide +kernel
 | 2,_=>by decide +kernel
 | k+3,h=>absurd h (by omega)
theorem pthR_size:∀k,(pthR k).size≤1000
 | 0=>by decide
 | 1=>by decide
 | 2=>by decide
 | n+3=>show (⟨#[99]⟩:ByteArray).size≤1000 from by decide
def oZr:List ByteArray→Int:=fun _=>0
def pRc (x:Nat→Int):Nat→Nms
 | 0=>pRa 3
 | k+1=>chgN (pRc x k) (segsB (pthR k)) (heldC (x k)) (heldC 1)
def oRb (x:Nat→Int):Nat→List ByteArray→Int
 | 0=>oZr
 | k+1=>upO (oRb x k) (segsB (pthR k)) (heldC (x k))
def oRe:Nat→List ByteArray→Int
 | 0=>oZr
 | k+1=>upO (oRe k) (segsB (pthR k)) (heldC 1)
theorem aW {x:Int} (h0:0≤x) (h1:x≤1000):heldC x=x:=by unfold heldC;omega
theorem chgN_has (p:Nms) (ks:List ByteArray) (b e:Int) (qs:List ByteArray):hasN (chgN p ks b e) qs=hasN p qs:=cx _ (cp ks b e) p qs
theorem pRc_has (x:Nat→Int) (qs:List ByteArray):∀k,hasN (pRc x k) qs=hasN (pRa 3) qs
 | 0=>rfl
 | k+1=>by rw [pRc,chgN_has];exact pRc_has x qs k
theorem pRc_len (x:Nat→Int):∀k,(pRc x k).length=4
 | 0=>by show (pRa 3).length=4;decide +kernel
 | k+1=>by rw [pRc,chgN_len];exact pRc_len x k
theorem pRa_bd:∀y∈pRa 3,usB y=0∧usE y=0∧10000≤lmB y∧100≤lmE y:=by decide +kernel
theorem pRc_bd (x:Nat→Int) (hx:∀k,0≤x k∧x k≤255):∀k,∀y∈pRc x k,usB y≤255 * (k:Int)∧usE y≤(k:Int)∧10000≤lmB y∧100≤lmE y
 | 0=>fun y hy=>by
  have:=pRa_bd y hy
  omega
 | k+1=>fun y hy=>by
  obtain ⟨z,hz,rfl⟩:=List.mem_map.1 hy
  have h1:=pRc_bd x hx k z hz
  have h2:=hx k
  rw [cQ,cC,cH,cz,aW h2.1 (by omega),aW (by omega) (by omega)]
  split<;>omega
theorem getR:∀k,k<4→getB (pRa 3) (pthR k)=true
 | 0,_=>by decide +kernel
 | 1,_=>by decide +kernel
 | 2,_=>by decide +kernel
 | 3,_=>by decide +kernel
 | k+4,h=>absurd h (by omega)
theorem canR (x:Nat→Int) (hx:∀k,0≤x k∧x k≤255) (k:Nat) (hk:k<4) (hQ:QtOk (pRc x k) (oRb x k) (oRe k)):canE (pRc x k) (oRb x k) (oRe k) (pthR k) (x k) 1=0:=by
 have hg:getB (pRc x k) (pthR k)=true:=by
  have h1:=getR k hk
  unfold getB at h1 ⊢
  rw [pRc_has];exact h1
 have h2:=hx k
 have h3:=hQ.own (segsB (pthR k))
 unfold canE
 rw [if_neg (by rw [hg];simp),aW h2.1 (by omega),aW (by omega) (by omega),if_neg (by omega)]
 rw [if_neg]
 intro hc
 obtain ⟨y,hy,h4⟩:=List.any_eq_true.1 hc
 rw [Bool.and_eq_true] at h4
 have h5:=pRc_bd x hx k y hy
 have h6:=h4.2
 unfold overS at h6
 rw [Bool.or_eq_true,Bool.and_eq_true,Bool.and_eq_true,decide_eq_true_iff,decide_eq_true_iff,decide_eq_true_iff,decide_eq_true_iff] at h6
 omega
theorem remRA (x:Nat→Int):remE (pRc x 4) ⟨#[97]⟩=0:=by kernel_rfl
def pRdA (x:Nat→Int):Nms:=dropP (pRc x 4) (segsB ⟨#[97]⟩)
theorem getRA (x:Nat→Int):getV (pRdA x) ⟨#[]⟩=[.string noStr,.int .i64 100000,.int .i64 1000,.int .i64 (0+heldC (x 0)+heldC (x 1)+heldC (x 2)+heldC (x 3) + -(0+heldC (x 1)+heldC (x 2))),.int .i64 (0+heldC 1+heldC 1+heldC 1+heldC 1 + -(0+heldC 1+heldC 1))]:=by kernel_rfl
theorem hasRA (x:Nat→Int):getB (pRdA x) ⟨#[]⟩=true:=by kernel_rfl
theorem lenRA (x:Nat→Int):(pRdA x).length=2:=by kernel_rfl
theorem remRB (x:Nat→Int):remE (pRc x 4) ⟨#[97,47,98]⟩=0:=by kernel_rfl
def pRdB (x:Nat→Int):Nms:=dropP (pRc x 4) (segsB ⟨#[97,47,98]⟩)
theorem getRB (x:Nat→Int):getV (pRdB x) ⟨#[]⟩=[.string noStr,.int .i64 100000,.int .i64 1000,.int .i64 (0+heldC (x 0)+heldC (x 1)+heldC (x 2)+heldC (x 3) + -(0+heldC (x 2))),.int .i64 (0+heldC 1+heldC 1+heldC 1+heldC 1 + -(0+heldC 1))]:=by kernel_rfl
theorem hasRB (x:Nat→Int):getB (pRdB x) ⟨#[]⟩=true:=by kernel_rfl
theorem lenRB (x:Nat→Int):(pRdB x).length=3:=by kernel_rfl
open Go Go.RowKit Go.Maps
theorem aA {a:Act} {w:World} {dst:Option Tmp} {typ:TypeId} {pos:String} {aft:Array Edge} {gd:Option (Nat×Bool)} {x ix:Operand} {b n:Nat} {t e:TypeId} (i:Nat) {ii:Int} (ht:Tryz.prog.underlying t=some (.array n e)) (h3:(Tryz.prog.info? e).map (·.size)=some 1) (hx:a.eval x=.pointer (some ⟨b,0,none⟩)) (hix:a.eval ix=.int .i64 ii) (hii:ii=(i:Int)) (hi:i<n) :
  (execOp a.eval {dst:=dst,op:=.indexAddr t x ix,type:=typ,pos:=pos,after:=aft,guard:=gd}).run Tryz.prog w=.ok (.value (.pointer (some ⟨b,i,none⟩))) w:=by
 have h:=exec_ixArr (dst:=dst) (typ:=typ) (pos:=pos) (aft:=aft) (gd:=gd) (w:=w) i ht h3 hx hix hii hi
 rw [Nat.zero_add] at h
 exact h
theorem five_oneX (y0:ByteArray) (a1 a2 a3 a4:Int):∀v∈[Value.string y0,.int .i64 a1,.int .i64 a2,.int .i64 a3,.int .i64 a4],v.oneCell'=true:=by
 intro v hv
 simp at hv
 rcases hv with rfl|rfl|rfl|rfl|rfl<;>rfl
theorem dI (zs:List Int) (zsl:zs.length=4) (zsb:∀z∈zs,0≤z∧z<256) (wh:Bool) (w:World) (hM:MaxL w) :
  Calls Tryz.prog 5 #[.agg (zs.map (Value.int .u8)).toArray,.bool wh] w fun e w'=>e=.returned (.bool true)∧Below w.heap.size w w':=by
 obtain ⟨x,e,hx⟩:∃x:Nat→Int,zs=[x 0,x 1,x 2,x 3]∧∀j,0≤x j∧x j≤255:=by
  match zs,zsl,zsb with
  | [a,b,c,d],_,h =>
   have h0:=h a (by simp)
   have h1:=h b (by simp)
   have h2:=h c (by simp)
   have h3:=h d (by simp)
   refine ⟨fun j=>if j=0 then a else if j=1 then b else if j=2 then c else d,rfl,fun j=>?_⟩
   show 0≤(if j=0 then a else if j=1 then b else if j=2 then c else d)∧(if j=0 then a else if j=1 then b else if j=2 then c else d)≤255
   split
   ·omega
   ·split
    ·omega
    ·split<;>omega
 subst e
 obtain ⟨A,hA⟩:∃A,A=([x 0,x 1,x 2,x 3]:List Int).map (Value.int .u8):=⟨_,rfl⟩
 rw [←hA]
 have HA:Hid (∀j,j<4→A[j]?=some (.int .u8 (x j))):=fun j hj=>by
  rw [hA]
  match j,hj with
  | 0,_=>rfl
  | 1,_=>rfl
  | 2,_=>rfl
  | 3,_=>rfl
  | n+4,h=>exact absurd h (by omega)
 have HP:Hid (∀i,i<4→([Value.string ⟨#[]⟩,.string ⟨#[97]⟩,.string ⟨#[97,47,98]⟩,.string ⟨#[99]⟩])[i]?=some (.string (pthR i))):=fun i hi=>by
  match i,hi with
  | 0,_=>rfl
  | 1,_=>rfl
  | 2,_=>rfl
  | 3,_=>rfl
  | n+4,h=>exact absurd h (by omega)
 have HX:Hid (∀j,0≤x j∧x j≤255):=hx
 have hx0:=hx 0
 have hx1:=hx 1
 have hx2:=hx 2
 have hx3:=hx 3
 have HQT:Hid (QtOk (pRa 3) oZr oZr):=(((QtOk.new 100000 1000).add (addR 0 (by omega))).add (addR 1 (by omega))).add (addR 2 (by omega))
 have hw0:wrap64 (x 0)=x 0:=by unfold wrap64;omega
 have hw1:wrap64 (x 1)=x 1:=by unfold wrap64;omega
 have hw2:wrap64 (x 2)=x 2:=by unfold wrap64;omega
 have hw3:wrap64 (x 3)=x 3:=by unfold wrap64;omega
 have hw2i:IntKind.i64.wrap (x 2)=x 2:=be _ (by omega) (by omega)
 obtain ⟨sg,hsg⟩:∃s,s=x 1+x 2:=⟨_,rfl⟩
 obtain ⟨s1,hs1⟩:∃s,s=x 0+x 1:=⟨_,rfl⟩
 obtain ⟨s2,hs2⟩:∃s,s=s1+x 2:=⟨_,rfl⟩
 obtain ⟨s3,hs3⟩:∃s,s=s2+x 3:=⟨_,rfl⟩
 have hwg:IntKind.i64.wrap (x 1+x 2)=sg:=(be _ (by omega) (by omega)).trans hsg.symm
 have hws1:IntKind.i64.wrap (x 0+x 1)=s1:=(be _ (by omega) (by omega)).trans hs1.symm
 have hws2:IntKind.i64.wrap (s1+x 2)=s2:=(be _ (by omega) (by omega)).trans hs2.symm
 have hws3:IntKind.i64.wrap (s2+x 3)=s3:=(be _ (by omega) (by omega)).trans hs3.symm
 have hm:=Mem.start w
 have HM:Hid (MaxL w):=hM
 have HSS:Hid (sg=x 1+x 2∧s3=x 0+x 1+x 2+x 3):=by
  have h9:sg=x 1+x 2∧s3=x 0+x 1+x 2+x 3:=⟨hsg,by rw [hs3,hs2,hs1]⟩
  exact h9
 clear hM hA zsl zsb hsg hs1 hs2 hs3
 go_enter Tryz.func5,Tryz.ntmps5
 go_wp2_with (first
  | ((with_reducible refine aa (some 2) (.box 54 (.tmp 0)) ?_);refine aB A rfl hm ?_;clear hm;intro w1 g2 hm)
  | (go_at_call 6;refine (known17_any _ (HM.out.below hm.below)).mono ?_;rintro e w2 ⟨he,hb⟩;subst he;replace hm:=hm.call hb;clear hb)
  | (go_at_call 8;refine (new_n 100000 1000 _).mono ?_;rintro e w3 ⟨nb,m,he,hwn,hwm,hn,hb⟩;subst he;have HS:Hid (NwS w w3 nb m (1) (pRa 0) g2 A 54 g2 (A) 54):=⟨hm.below.trans (hb.mono hm.size),Nat.le_trans hm.size hwm,hn,(HM.out.below hm.below).below hb,Nat.lt_of_lt_of_le HM.out.lt0 (Nat.le_trans hm.size hwm),Row.bel (hm.get 0 rfl) hb,Row.bel (hm.get 0 rfl) hb⟩;clear hm hwn hwm hn hb HM;have hm:=Mem.start w3)
  | ((with_reducible refine aa (some 21) (.build 55 #[(0,.const (.string {data:=#[]})),(1,.const (.string {data:=#[97]})),(2,.const (.string {data:=#[97,47,98]})),(3,.const (.string {data:=#[99]}))]) ?_);refine ap [Value.string ⟨#[]⟩,.string ⟨#[97]⟩,.string ⟨#[97,47,98]⟩,.string ⟨#[99]⟩] [(0,.string ⟨#[]⟩),(1,.string ⟨#[97]⟩),(2,.string ⟨#[97,47,98]⟩),(3,.string ⟨#[99]⟩)] rfl (built_as4 _ _ _ _) ?_)
  | ((with_reducible refine aa (some 6) (.alloc 55) ?_);refine ad _ zero_as4 hm ?_;clear hm;intro w4 g6 hm)
  | ((with_reducible refine aa none (.store 55 (.tmp 6) (.tmp 21)) ?_);refine af 0 [Value.string ⟨#[]⟩,.string ⟨#[97]⟩,.string ⟨#[97,47,98]⟩,.string ⟨#[99]⟩] hm rfl rfl rfl 4 sz_as4 rfl rfl (one_as4 _ _ _ _) ?_;clear hm;intro w5 hm;replace HS:Hid (NwS w w5 nb m (1) (pRa 0) g2 A 54 g6 ([Value.string ⟨#[]⟩,.string ⟨#[97]⟩,.string ⟨#[97,47,98]⟩,.string ⟨#[99]⟩]) 55):=(HS.out.below hm.below).setB (hm.get 0 rfl);clear hm))
 go_loopw [7] (fun vi wr=>∃i:Nat,1≤i∧i≤4∧vi=.int .i64 (i:Int)∧Hid (NwS w wr nb m (i) (pRa (i - 1)) g2 A 54 g6 ([Value.string ⟨#[]⟩,.string ⟨#[97]⟩,.string ⟨#[97,47,98]⟩,.string ⟨#[99]⟩]) 55)) (fun vi _=>match vi with | .int _ q=>4 - q.toNat|_=>0)
 case atStart=>exact ⟨1,by omega,by omega,rfl,HS⟩
 case round =>
  clear HS
  obtain ⟨i,hi1,hi2,rfl,HS⟩:=hrel
  by_cases hi4:i<4
  ·have hki:(i:Int)<4:=by omega
   have hw:IntKind.i64.wrap ((i:Int)+1)=(i:Int)+1:=wrapi _ (by omega) (by omega)
   obtain ⟨s,hs⟩:∃s,s=pthR i:=⟨_,rfl⟩
   have HBK:Hid (([Value.string ⟨#[]⟩,.string ⟨#[97]⟩,.string ⟨#[97,47,98]⟩,.string ⟨#[99]⟩])[i]?=some (.string s)):=by
    have h9:=HP.out i hi4
    rw [←hs] at h9
    exact h9
   have HAD:Hid (addE (pRa (i - 1)) s 10000 100=0∧(if (0:Int)=0 then addN (pRa (i - 1)) (segsB s,10000,100,0,0,0,0) else pRa (i - 1))=pRa (i+1 - 1)):=by
    have h9:addE (pRa (i - 1)) s 10000 100=0∧(if (0:Int)=0 then addN (pRa (i - 1)) (segsB s,10000,100,0,0,0,0) else pRa (i - 1))=pRa (i+1 - 1):=by
     obtain ⟨k,hk⟩:∃k,i=k+1:=⟨i - 1,by omega⟩
     rw [if_pos rfl,hs,hk]
     exact ⟨addR k (by omega),rfl⟩
    exact h9
   have HSZ:Hid (s.size≤1000):=by
    have h9:=pthR_size i
    rw [←hs] at h9
    exact h9
   clear hs
   go_wp2_with (first
    | ((with_reducible refine aa (some 28) (.indexAddr 55 (.tmp 6) (.tmp 27)) ?_);go_must (refine ab (.pointer (some ⟨g6,i,none⟩)) rfl (aA i un_as4 sz_strQ rfl rfl rfl hi4) ?_))
    | ((with_reducible refine aa (some 29) (.load 9 (.tmp 28)) ?_);go_must (refine ab (.string s) rfl (ae i (.string s) HS.out.rb rfl ag_strQ HBK.out) ?_))
    | (go_at_call 15;refine (add_k HS.out.nm (by omega) s HSZ.out HS.out.mx 10000 100 0 (pRa (i+1 - 1)) HAD.out.1 HAD.out.2).mono ?_;rintro e w6 ⟨he,hn,hu⟩;subst he;replace HS:Hid (NwS w w6 nb m (i+1) (pRa (i+1 - 1)) g2 A 54 g6 ([Value.string ⟨#[]⟩,.string ⟨#[97]⟩,.string ⟨#[97,47,98]⟩,.string ⟨#[99]⟩]) 55):=HS.out.upd hn hu;clear hn hu))
   go_roundw
   case rel=>exact ⟨i+1,by omega,by omega,by go_num,HS⟩
   case measure=>show 4 - ((i:Int)+1).toNat<4 - (i:Int).toNat;omega
  ·have hi:i=4:=by omega
   subst hi
   replace HS:Hid (NwS w wr nb m (4) (pRa 3) g2 A 54 g6 ([Value.string ⟨#[]⟩,.string ⟨#[97]⟩,.string ⟨#[97,47,98]⟩,.string ⟨#[99]⟩]) 55):=HS
   clear hi1 hi2 hi4
   go_wp2_with (first
    | (go_at_call 7;refine (newL_s _ HS.out.nm HQT.out HS.out.mx HS.out.m0).mono ?_;rintro e w6 ⟨lb,he,hs,hb⟩;subst he;have HL0:Hid (LwS w w6 lb nb m 4 (pRc x 0) (oRb x 0) (oRe 0) g2 A 54 g6 ([Value.string ⟨#[]⟩,.string ⟨#[97]⟩,.string ⟨#[97,47,98]⟩,.string ⟨#[99]⟩]) 55):=HS.out.led hs hb;clear hs hb HS))
   clear HQT
   go_loopw [9] (fun vi wr=>∃i:Nat,i≤4∧vi=.int .i64 (i:Int)∧Hid (LwS w wr lb nb m 4 (pRc x i) (oRb x i) (oRe i) g2 A 54 g6 ([Value.string ⟨#[]⟩,.string ⟨#[97]⟩,.string ⟨#[97,47,98]⟩,.string ⟨#[99]⟩]) 55)) (fun vi _=>match vi with | .int _ q=>4 - q.toNat|_=>0)
   case atStart=>exact ⟨0,by omega,rfl,HL0⟩
   case round =>
    clear HL0
    obtain ⟨i,hi,rfl,HS⟩:=hrel
    by_cases hi4:i<4
    ·have hki:(i:Int)<4:=by omega
     have hw:IntKind.i64.wrap ((i:Int)+1)=(i:Int)+1:=wrapi _ (by omega) (by omega)
     obtain ⟨s,hs⟩:∃s,s=pthR i:=⟨_,rfl⟩
     obtain ⟨xi,hxi⟩:∃z,z=x i:=⟨_,rfl⟩
     have HBK:Hid (([Value.string ⟨#[]⟩,.string ⟨#[97]⟩,.string ⟨#[97,47,98]⟩,.string ⟨#[99]⟩])[i]?=some (.string s)):=by
      have h9:=HP.out i hi4
      rw [←hs] at h9
      exact h9
     have HXI:Hid (A[i]?=some (.int .u8 xi)):=by
      have h9:=HA.out i hi4
      rw [←hxi] at h9
      exact h9
     have hxb:=HX.out i
     rw [←hxi] at hxb
     have hwxi:IntKind.i64.wrap xi=xi:=be _ (by omega) (by omega)
     have HCAN:Hid (canE (pRc x i) (oRb x i) (oRe i) s xi 1=0):=by
      have h9:=canR x HX.out i hi4 HS.out.st.qt
      rw [←hs,←hxi] at h9
      exact h9
     have HPN:Hid ((if (0:Int)=0 then (chgN (pRc x i) (segsB s) (heldC xi) (heldC 1),upO (oRb x i) (segsB s) (heldC xi),upO (oRe i) (segsB s) (heldC 1)) else (pRc x i,oRb x i,oRe i))=(pRc x (i+1),oRb x (i+1),oRe (i+1))):=by
      have h9:(if (0:Int)=0 then (chgN (pRc x i) (segsB s) (heldC xi) (heldC 1),upO (oRb x i) (segsB s) (heldC xi),upO (oRe i) (segsB s) (heldC 1)) else (pRc x i,oRb x i,oRe i))=(pRc x (i+1),oRb x (i+1),oRe (i+1)):=by
       rw [if_pos rfl,hs,hxi]
       rfl
      exact h9
     clear hs hxi
     go_wp2_with fail
     refine ak ?_
     refine ag (T:=fun W=>Row W g2 A 54∧Row W g6 ([Value.string ⟨#[]⟩,.string ⟨#[97]⟩,.string ⟨#[97,47,98]⟩,.string ⟨#[99]⟩]) 55) (by kernel_rfl) (Mem.start _) ?_
     intro wc hbw _
     replace HS:Hid (LwS w wc lb nb m 4 (pRc x i) (oRb x i) (oRe i) g2 A 54 g6 ([Value.string ⟨#[]⟩,.string ⟨#[97]⟩,.string ⟨#[97,47,98]⟩,.string ⟨#[99]⟩]) 55):=HS.out.below hbw
     clear hbw
     refine aT 0 (v:=.pointer (some ⟨lb,0,none⟩)) rfl (by kernel_rfl) rfl (fun W _=>by go_simp) ⟨HS.out.ra,HS.out.rb⟩ ?_
     go_simp
     refine aT 1 (v:=.int .i64 (i:Int)) rfl (by kernel_rfl) rfl (fun W _=>by go_simp) ⟨HS.out.ra,HS.out.rb⟩ ?_
     go_simp
     refine aT 2 (v:=.pointer (some ⟨g6,i,none⟩)) rfl (by kernel_rfl) rfl (fun W _=>aA i un_as4 sz_strQ rfl rfl rfl hi4) ⟨HS.out.ra,HS.out.rb⟩ ?_
     go_simp
     refine aT 3 (v:=.string s) rfl (by kernel_rfl) rfl (fun W hW=>ae i (.string s) hW.2 rfl ag_strQ HBK.out) ⟨HS.out.ra,HS.out.rb⟩ ?_
     go_simp
     refine aT 4 (v:=.int .i64 (i:Int)) rfl (by kernel_rfl) rfl (fun W _=>by go_simp) ⟨HS.out.ra,HS.out.rb⟩ ?_
     go_simp
     refine aT 5 (v:=.pointer (some ⟨g2,i,none⟩)) rfl (by kernel_rfl) rfl (fun W _=>aA i bo bp rfl rfl rfl hi4) ⟨HS.out.ra,HS.out.rb⟩ ?_
     go_simp
     refine aT 6 (v:=.int .u8 xi) rfl (by kernel_rfl) rfl (fun W hW=>ae i (.int .u8 xi) hW.1 rfl bn HXI.out) ⟨HS.out.ra,HS.out.rb⟩ ?_
     go_simp
     refine aT 7 (v:=.int .i64 xi) rfl (by kernel_rfl) rfl (fun W _=>by go_simp<;>exact hwxi) ⟨HS.out.ra,HS.out.rb⟩ ?_
     go_simp
     refine aO 8 (by kernel_rfl) rfl rfl ?_
     intro K hK
     go_wp2_with (go_at_call 12;refine (bE HS.out.st (by omega) s xi 1 0 HCAN.out (pRc x (i+1)) (oRb x (i+1)) (oRe (i+1)) HPN.out).mono ?_;rintro e_ w9 ⟨he_,hs_,hu_⟩;subst he_;replace HS:Hid (LwS w w9 lb nb m 4 (pRc x (i+1)) (oRb x (i+1)) (oRe (i+1)) g2 A 54 g6 ([Value.string ⟨#[]⟩,.string ⟨#[97]⟩,.string ⟨#[97,47,98]⟩,.string ⟨#[99]⟩]) 55):=HS.out.upd hs_ hu_;clear hs_ hu_)
     refine hK _ _ ⟨HS.out.ra,HS.out.rb⟩ ?_
     clear hK K
     go_simp
     refine aT 9 (v:=.bool false) rfl (by kernel_rfl) rfl (fun W _=>by go_simp) ⟨HS.out.ra,HS.out.rb⟩ ?_
     go_simp
     refine wpAnyH_done (by kernel_rfl) ?_ _
     simp only [endsIn]
     go_wp2_with fail
     go_roundw
     case rel=>exact ⟨i+1,by omega,by go_num,HS⟩
     case measure=>show 4 - ((i:Int)+1).toNat<4 - (i:Int).toNat;omega
    ·have hi:i=4:=by omega
     subst hi
     clear hi4
     have hss:=HSS.out
     cases wh with
     | false =>
      obtain ⟨b5,hb5⟩:∃b,b=0+heldC (x 0)+heldC (x 1)+heldC (x 2)+heldC (x 3) + -(0+heldC (x 1)+heldC (x 2)):=⟨_,rfl⟩
      have HV:Hid (getV (pRdA x) ⟨#[]⟩=[Value.string noStr,.int .i64 100000,.int .i64 1000,.int .i64 b5,.int .i64 2]):=by
       have h9:getV (pRdA x) ⟨#[]⟩=[Value.string noStr,.int .i64 100000,.int .i64 1000,.int .i64 b5,.int .i64 2]:=by rw [getRA,hb5];rfl
       exact h9
      rw [aW hx0.1 (by omega),aW hx1.1 (by omega),aW hx2.1 (by omega),aW hx3.1 (by omega)] at hb5
      have hwr:IntKind.i64.wrap (s3 - sg)=b5:=(be _ (by omega) (by omega)).trans (by omega)
      clear hb5
      clear hss
      go_wp2_with (first
       | ((with_reducible refine aa (some 48) (.indexAddr 54 (.tmp 2) (.const (.int .i64 1))) ?_);go_must (refine ab (.pointer (some ⟨g2,1,none⟩)) rfl (aA 1 bo bp rfl rfl rfl (by omega)) ?_))
       | ((with_reducible refine aa (some 49) (.load 5 (.tmp 48)) ?_);go_must (refine ab (.int .u8 (x 1)) rfl (ae 1 (.int .u8 (x 1)) HS.out.ra rfl bn (HA.out 1 (by omega))) ?_))
       | ((with_reducible refine aa (some 51) (.indexAddr 54 (.tmp 2) (.const (.int .i64 2))) ?_);go_must (refine ab (.pointer (some ⟨g2,2,none⟩)) rfl (aA 2 bo bp rfl rfl rfl (by omega)) ?_))
       | ((with_reducible refine aa (some 52) (.load 5 (.tmp 51)) ?_);go_must (refine ab (.int .u8 (x 2)) rfl (ae 2 (.int .u8 (x 2)) HS.out.ra rfl bn (HA.out 2 (by omega))) ?_)))
      go_wp2_with (first
       | (go_at_call 17;refine (remove_s HS.out.st (by omega) (by rw [pRc_len];omega) ⟨#[97]⟩ (by decide) 0 (remRA x) (pRdA x) (dropO (oRb x 4) (pRc x 4) (segsB ⟨#[97]⟩)) (dropO (oRe 4) (pRc x 4) (segsB ⟨#[97]⟩)) (by rw [if_pos rfl];rfl)).mono ?_;rintro e_ wa ⟨v,he_,_,hs_,hu_⟩;subst he_;replace HS:Hid (LwS w wa lb nb m 4 (pRdA x) (dropO (oRb x 4) (pRc x 4) (segsB ⟨#[97]⟩)) (dropO (oRe 4) (pRc x 4) (segsB ⟨#[97]⟩)) g2 A 54 g6 ([Value.string ⟨#[]⟩,.string ⟨#[97]⟩,.string ⟨#[97,47,98]⟩,.string ⟨#[99]⟩]) 55):=HS.out.upd hs_ hu_;clear hs_ hu_)
       | (go_at_call 14;refine (names_q _ HS.out.st.lg).mono ?_;rintro e wb ⟨he,hb⟩;subst he;replace HS:Hid (LwS w wb lb nb m 4 (pRdA x) (dropO (oRb x 4) (pRc x 4) (segsB ⟨#[97]⟩)) (dropO (oRe 4) (pRc x 4) (segsB ⟨#[97]⟩)) g2 A 54 g6 ([Value.string ⟨#[]⟩,.string ⟨#[97]⟩,.string ⟨#[97,47,98]⟩,.string ⟨#[99]⟩]) 55):=HS.out.below hb;clear hb)
       | (go_at_call 26;refine (get_k HS.out.st.lg.nm ⟨#[]⟩ (by decide) HS.out.st.mx [Value.string noStr,.int .i64 100000,.int .i64 1000,.int .i64 b5,.int .i64 2] true HV.out (hasRA x)).mono ?_;rintro e wd ⟨he,hb⟩;subst he;replace HS:Hid (LwS w wd lb nb m 4 (pRdA x) (dropO (oRb x 4) (pRc x 4) (segsB ⟨#[97]⟩)) (dropO (oRe 4) (pRc x 4) (segsB ⟨#[97]⟩)) g2 A 54 g6 ([Value.string ⟨#[]⟩,.string ⟨#[97]⟩,.string ⟨#[97,47,98]⟩,.string ⟨#[99]⟩]) 55):=HS.out.below hb;clear hb;have hm:=Mem.start wd)
       | ((with_reducible refine aa (some 15) (.alloc 50) ?_);refine ad _ aR hm ?_;clear hm;intro we g15 hm)
       | ((with_reducible refine aa none (.store 50 (.tmp 15) (.tmp 69)) ?_);refine af 0 [Value.string noStr,.int .i64 100000,.int .i64 1000,.int .i64 b5,.int .i64 2] hm rfl rfl rfl 5 aI rfl rfl (five_oneX _ _ _ _ _) ?_;clear hm;intro wf hm;replace HS:Hid (LwS w wf lb nb m 4 (pRdA x) (dropO (oRb x 4) (pRc x 4) (segsB ⟨#[97]⟩)) (dropO (oRe 4) (pRc x 4) (segsB ⟨#[97]⟩)) g2 A 54 g6 ([Value.string ⟨#[]⟩,.string ⟨#[97]⟩,.string ⟨#[97,47,98]⟩,.string ⟨#[99]⟩]) 55):=HS.out.below hm.below;have HG:Hid (Row wf g15 [Value.string noStr,.int .i64 100000,.int .i64 1000,.int .i64 b5,.int .i64 2] 50):=hm.get 0 rfl;clear hm)
       | ((with_reducible refine aa (some 71) (.indexAddr 54 (.tmp 2) (.const (.int .i64 0))) ?_);go_must (refine ab (.pointer (some ⟨g2,0,none⟩)) rfl (aA 0 bo bp rfl rfl rfl (by omega)) ?_))
       | ((with_reducible refine aa (some 72) (.load 5 (.tmp 71)) ?_);go_must (refine ab (.int .u8 (x 0)) rfl (ae 0 (.int .u8 (x 0)) HS.out.ra rfl bn (HA.out 0 (by omega))) ?_))
       | ((with_reducible refine aa (some 74) (.indexAddr 54 (.tmp 2) (.const (.int .i64 1))) ?_);go_must (refine ab (.pointer (some ⟨g2,1,none⟩)) rfl (aA 1 bo bp rfl rfl rfl (by omega)) ?_))
       | ((with_reducible refine aa (some 75) (.load 5 (.tmp 74)) ?_);go_must (refine ab (.int .u8 (x 1)) rfl (ae 1 (.int .u8 (x 1)) HS.out.ra rfl bn (HA.out 1 (by omega))) ?_))
       | ((with_reducible refine aa (some 78) (.indexAddr 54 (.tmp 2) (.const (.int .i64 2))) ?_);go_must (refine ab (.pointer (some ⟨g2,2,none⟩)) rfl (aA 2 bo bp rfl rfl rfl (by omega)) ?_))
       | ((with_reducible refine aa (some 79) (.load 5 (.tmp 78)) ?_);go_must (refine ab (.int .u8 (x 2)) rfl (ae 2 (.int .u8 (x 2)) HS.out.ra rfl bn (HA.out 2 (by omega))) ?_))
       | ((with_reducible refine aa (some 82) (.indexAddr 54 (.tmp 2) (.const (.int .i64 3))) ?_);go_must (refine ab (.pointer (some ⟨g2,3,none⟩)) rfl (aA 3 bo bp rfl rfl rfl (by omega)) ?_))
       | ((with_reducible refine aa (some 83) (.load 5 (.tmp 82)) ?_);go_must (refine ab (.int .u8 (x 3)) rfl (ae 3 (.int .u8 (x 3)) HS.out.ra rfl bn (HA.out 3 (by omega))) ?_))
       | ((with_reducible refine aK (some 90) (.load 3 (.tmp 89)) (some (2,true)) ?_);go_must (refine ab (.int .i64 (b5)) rfl (ae 3 (.int .i64 (b5)) HG.out rfl am rfl) ?_))
       | ((with_reducible refine aK (some 98) (.load 3 (.tmp 97)) (some (10,true)) ?_);go_must (refine ab (.int .i64 (2)) rfl (ae 4 (.int .i64 (2)) HG.out rfl am rfl) ?_))
       | (go_at_call 24;refine (check_l HS.out.st.lg (by omega) HS.out.st.mx HS.out.st.qt (by rw [lenRA];omega)).mono ?_;rintro e wg ⟨he,hb⟩;subst he;replace HS:Hid (LwS w wg lb nb m 4 (pRdA x) (dropO (oRb x 4) (pRc x 4) (segsB ⟨#[97]⟩)) (dropO (oRe 4) (pRc x 4) (segsB ⟨#[97]⟩)) g2 A 54 g6 ([Value.string ⟨#[]⟩,.string ⟨#[97]⟩,.string ⟨#[97,47,98]⟩,.string ⟨#[99]⟩]) 55):=HS.out.below hb;clear hb))
      go_ret
      exact ⟨rfl,HS.out.bel⟩
     | true =>
      obtain ⟨b5,hb5⟩:∃b,b=0+heldC (x 0)+heldC (x 1)+heldC (x 2)+heldC (x 3) + -(0+heldC (x 2)):=⟨_,rfl⟩
      have HV:Hid (getV (pRdB x) ⟨#[]⟩=[Value.string noStr,.int .i64 100000,.int .i64 1000,.int .i64 b5,.int .i64 3]):=by
       have h9:getV (pRdB x) ⟨#[]⟩=[Value.string noStr,.int .i64 100000,.int .i64 1000,.int .i64 b5,.int .i64 3]:=by rw [getRB,hb5];rfl
       exact h9
      rw [aW hx0.1 (by omega),aW hx1.1 (by omega),aW hx2.1 (by omega),aW hx3.1 (by omega)] at hb5
      have hwr:IntKind.i64.wrap (s3 - (x 2))=b5:=(be _ (by omega) (by omega)).trans (by omega)
      clear hb5
      clear hss
      go_wp2_with (first
       | ((with_reducible refine aa (some 48) (.indexAddr 54 (.tmp 2) (.const (.int .i64 1))) ?_);go_must (refine ab (.pointer (some ⟨g2,1,none⟩)) rfl (aA 1 bo bp rfl rfl rfl (by omega)) ?_))
       | ((with_reducible refine aa (some 49) (.load 5 (.tmp 48)) ?_);go_must (refine ab (.int .u8 (x 1)) rfl (ae 1 (.int .u8 (x 1)) HS.out.ra rfl bn (HA.out 1 (by omega))) ?_))
       | ((with_reducible refine aa (some 51) (.indexAddr 54 (.tmp 2) (.const (.int .i64 2))) ?_);go_must (refine ab (.pointer (some ⟨g2,2,none⟩)) rfl (aA 2 bo bp rfl rfl rfl (by omega)) ?_))
       | ((with_reducible refine aa (some 52) (.load 5 (.tmp 51)) ?_);go_must (refine ab (.int .u8 (x 2)) rfl (ae 2 (.int .u8 (x 2)) HS.out.ra rfl bn (HA.out 2 (by omega))) ?_)))
      refine ak ?_
      refine ag (T:=fun W=>Row W g2 A 54∧Row W g6 ([Value.string ⟨#[]⟩,.string ⟨#[97]⟩,.string ⟨#[97,47,98]⟩,.string ⟨#[99]⟩]) 55) (by kernel_rfl) (Mem.start _) ?_
      intro wc hbw _
      replace HS:Hid (LwS w wc lb nb m 4 (pRc x 4) (oRb x 4) (oRe 4) g2 A 54 g6 ([Value.string ⟨#[]⟩,.string ⟨#[97]⟩,.string ⟨#[97,47,98]⟩,.string ⟨#[99]⟩]) 55):=HS.out.below hbw
      clear hbw
      refine aT 0 (v:=.pointer (some ⟨g2,2,none⟩)) rfl (by kernel_rfl) rfl (fun W _=>aA 2 bo bp rfl rfl rfl (by omega)) ⟨HS.out.ra,HS.out.rb⟩ ?_
      go_simp
      refine aT 1 (v:=.int .u8 (x 2)) rfl (by kernel_rfl) rfl (fun W hW=>ae 2 (.int .u8 (x 2)) hW.1 rfl bn (HA.out 2 (by omega))) ⟨HS.out.ra,HS.out.rb⟩ ?_
      go_simp
      refine aT 2 (v:=.int .i64 (x 2)) rfl (by kernel_rfl) rfl (fun W _=>by go_simp<;>exact hw2i) ⟨HS.out.ra,HS.out.rb⟩ ?_
      go_simp
      refine aT 3 (v:=.string ⟨#[97,47,98]⟩) rfl (by kernel_rfl) rfl (fun W _=>by go_simp) ⟨HS.out.ra,HS.out.rb⟩ ?_
      go_simp
      refine aT 4 (v:=.int .i64 (x 2)) rfl (by kernel_rfl) rfl (fun W _=>by go_simp) ⟨HS.out.ra,HS.out.rb⟩ ?_
      go_simp
      refine aT 5 (v:=.int .i64 3) rfl (by kernel_rfl) rfl (fun W _=>by go_simp) ⟨HS.out.ra,HS.out.rb⟩ ?_
      go_simp
      refine wpAnyH_done (by kernel_rfl) ?_ _
      simp only [endsIn]
      go_wp2_with fail
      go_wp2_with (first
       | (go_at_call 17;refine (remove_s HS.out.st (by omega) (by rw [pRc_len];omega) ⟨#[97,47,98]⟩ (by decide) 0 (remRB x) (pRdB x) (dropO (oRb x 4) (pRc x 4) (segsB ⟨#[97,47,98]⟩)) (dropO (oRe 4) (pRc x 4) (segsB ⟨#[97,47,98]⟩)) (by rw [if_pos rfl];rfl)).mono ?_;rintro e_ wa ⟨v,he_,_,hs_,hu_⟩;subst he_;replace HS:Hid (LwS w wa lb nb m 4 (pRdB x) (dropO (oRb x 4) (pRc x 4) (segsB ⟨#[97,47,98]⟩)) (dropO (oRe 4) (pRc x 4) (segsB ⟨#[97,47,98]⟩)) g2 A 54 g6 ([Value.string ⟨#[]⟩,.string ⟨#[97]⟩,.string ⟨#[97,47,98]⟩,.string ⟨#[99]⟩]) 55):=HS.out.upd hs_ hu_;clear hs_ hu_)
       | (go_at_call 14;refine (names_q _ HS.out.st.lg).mono ?_;rintro e wb ⟨he,hb⟩;subst he;replace HS:Hid (LwS w wb lb nb m 4 (pRdB x) (dropO (oRb x 4) (pRc x 4) (segsB ⟨#[97,47,98]⟩)) (dropO (oRe 4) (pRc x 4) (segsB ⟨#[97,47,98]⟩)) g2 A 54 g6 ([Value.string ⟨#[]⟩,.string ⟨#[97]⟩,.string ⟨#[97,47,98]⟩,.string ⟨#[99]⟩]) 55):=HS.out.below hb;clear hb)
       | (go_at_call 26;refine (get_k HS.out.st.lg.nm ⟨#[]⟩ (by decide) HS.out.st.mx [Value.string noStr,.int .i64 100000,.int .i64 1000,.int .i64 b5,.int .i64 3] true HV.out (hasRB x)).mono ?_;rintro e wd ⟨he,hb⟩;subst he;replace HS:Hid (LwS w wd lb nb m 4 (pRdB x) (dropO (oRb x 4) (pRc x 4) (segsB ⟨#[97,47,98]⟩)) (dropO (oRe 4) (pRc x 4) (segsB ⟨#[97,47,98]⟩)) g2 A 54 g6 ([Value.string ⟨#[]⟩,.string ⟨#[97]⟩,.string ⟨#[97,47,98]⟩,.string ⟨#[99]⟩]) 55):=HS.out.below hb;clear hb;have hm:=Mem.start wd)
       | ((with_reducible refine aa (some 15) (.alloc 50) ?_);refine ad _ aR hm ?_;clear hm;intro we g15 hm)
       | ((with_reducible refine aa none (.store 50 (.tmp 15) (.tmp 69)) ?_);refine af 0 [Value.string noStr,.int .i64 100000,.int .i64 1000,.int .i64 b5,.int .i64 3] hm rfl rfl rfl 5 aI rfl rfl (five_oneX _ _ _ _ _) ?_;clear hm;intro wf hm;replace HS:Hid (LwS w wf lb nb m 4 (pRdB x) (dropO (oRb x 4) (pRc x 4) (segsB ⟨#[97,47,98]⟩)) (dropO (oRe 4) (pRc x 4) (segsB ⟨#[97,47,98]⟩)) g2 A 54 g6 ([Value.string ⟨#[]⟩,.string ⟨#[97]⟩,.string ⟨#[97,47,98]⟩,.string ⟨#[99]⟩]) 55):=HS.out.below hm.below;have HG:Hid (Row wf g15 [Value.string noStr,.int .i64 100000,.int .i64 1000,.int .i64 b5,.int .i64 3] 50):=hm.get 0 rfl;clear hm)
       | ((with_reducible refine aa (some 71) (.indexAddr 54 (.tmp 2) (.const (.int .i64 0))) ?_);go_must (refine ab (.pointer (some ⟨g2,0,none⟩)) rfl (aA 0 bo bp rfl rfl rfl (by omega)) ?_))
       | ((with_reducible refine aa (some 72) (.load 5 (.tmp 71)) ?_);go_must (refine ab (.int .u8 (x 0)) rfl (ae 0 (.int .u8 (x 0)) HS.out.ra rfl bn (HA.out 0 (by omega))) ?_))
       | ((with_reducible refine aa (some 74) (.indexAddr 54 (.tmp 2) (.const (.int .i64 1))) ?_);go_must (refine ab (.pointer (some ⟨g2,1,none⟩)) rfl (aA 1 bo bp rfl rfl rfl (by omega)) ?_))
       | ((with_reducible refine aa (some 75) (.load 5 (.tmp 74)) ?_);go_must (refine ab (.int .u8 (x 1)) rfl (ae 1 (.int .u8 (x 1)) HS.out.ra rfl bn (HA.out 1 (by omega))) ?_))
       | ((with_reducible refine aa (some 78) (.indexAddr 54 (.tmp 2) (.const (.int .i64 2))) ?_);go_must (refine ab (.pointer (some ⟨g2,2,none⟩)) rfl (aA 2 bo bp rfl rfl rfl (by omega)) ?_))
       | ((with_reducible refine aa (some 79) (.load 5 (.tmp 78)) ?_);go_must (refine ab (.int .u8 (x 2)) rfl (ae 2 (.int .u8 (x 2)) HS.out.ra rfl bn (HA.out 2 (by omega))) ?_))
       | ((with_reducible refine aa (some 82) (.indexAddr 54 (.tmp 2) (.const (.int .i64 3))) ?_);go_must (refine ab (.pointer (some ⟨g2,3,none⟩)) rfl (aA 3 bo bp rfl rfl rfl (by omega)) ?_))
       | ((with_reducible refine aa (some 83) (.load 5 (.tmp 82)) ?_);go_must (refine ab (.int .u8 (x 3)) rfl (ae 3 (.int .u8 (x 3)) HS.out.ra rfl bn (HA.out 3 (by omega))) ?_))
       | ((with_reducible refine aK (some 90) (.load 3 (.tmp 89)) (some (2,true)) ?_);go_must (refine ab (.int .i64 (b5)) rfl (ae 3 (.int .i64 (b5)) HG.out rfl am rfl) ?_))
       | ((with_reducible refine aK (some 98) (.load 3 (.tmp 97)) (some (10,true)) ?_);go_must (refine ab (.int .i64 (3)) rfl (ae 4 (.int .i64 (3)) HG.out rfl am rfl) ?_))
       | (go_at_call 24;refine (check_l HS.out.st.lg (by omega) HS.out.st.mx HS.out.st.qt (by rw [lenRB];omega)).mono ?_;rintro e wg ⟨he,hb⟩;subst he;replace HS:Hid (LwS w wg lb nb m 4 (pRdB x) (dropO (oRb x 4) (pRc x 4) (segsB ⟨#[97,47,98]⟩)) (dropO (oRe 4) (pRc x 4) (segsB ⟨#[97,47,98]⟩)) g2 A 54 g6 ([Value.string ⟨#[]⟩,.string ⟨#[97]⟩,.string ⟨#[97,47,98]⟩,.string ⟨#[99]⟩]) 55):=HS.out.below hb;clear hb))
      go_ret
      exact ⟨rfl,HS.out.bel⟩
open Go Go.ChangeShapes Go.WideShapes Go.ChangeAt Go.RowKit
theorem un_u8q:Tryz.prog.underlying 5=some (.int .u8):=Tryz.underlying5
theorem cells_u8q:Tryz.prog.cellsOf 5=1:=by kernel_rfl
theorem open_a8 {H:Type} {enc:TypeId×Value→H} {W:World} {base:Nat} {v:Value} {d:DataW H} {ps:List MemPlace} (t:TypeId) (n:Nat) (un:Tryz.prog.underlying t=some (.array n 5)) (hct:Tryz.prog.cellsOf t=n) (hok:Value.okWide Tryz.prog W .any base t v) (h:DataW.Trod enc Tryz.prog W 0 (fun _=>true) true t v d ps) :
  ∃zs:List Int,v=.agg (zs.map (Value.int .u8)).toArray∧zs.length=n∧∀z∈zs,0≤z∧z<256:=by
 simp only [Value.okWide,un] at hok
 obtain ⟨cs,rfl,hsz,_⟩:=hok
 obtain ⟨fuel,hf⟩:=h
 obtain ⟨xs,m,rfl,_,hl,hxn,hget⟩:=DataW.trod_array un hf
 have hcell:∀i,i<n→∃z,cs[i]?=some (.int .u8 z)∧0≤z∧z<256:=by
  intro i hi
  have hx:xs[i]?=some (xs[i]'(by omega)):=by simp [show i<xs.length by omega]
  have h1:=hget i hi
  rw [hx,cells_u8q] at h1
  obtain ⟨z,hc,_,hwf⟩:=DataW.trod_int un_u8q h1
  have h2:=congrArg (·[0]?) hc
  have h3:cs[i]?=some (.int .u8 z):=by simpa [List.getElem?_take,List.getElem?_drop,Value.cells] using h2
  refine ⟨z,h3,?_⟩
  have:=bounds_u8 hwf
  omega
 refine ⟨cs.toList.map (fun v=>match v with | .int _ z=>z|_=>0),?_,by simp [hsz,hct],?_⟩
 ·congr 1
  apply Array.ext_getElem?
  intro i
  by_cases hi:i<n
  ·obtain ⟨z,hz,_⟩:=hcell i hi
   simp [hz]
  ·rw [Array.getElem?_eq_none (by rw [hsz,hct];omega),Array.getElem?_eq_none (by simp [hsz,hct];omega)]
 ·intro y hy
  obtain ⟨v,hv,rfl⟩:=List.mem_map.1 hy
  obtain ⟨i,hi,he⟩:=List.getElem_of_mem hv
  obtain ⟨z,hz,hb⟩:=hcell i (by simpa [hsz,hct] using hi)
  have hvz:v=.int .u8 z:=by
   have:cs.toList[i]?=some v:=by rw [←he];simp [show i<cs.size by simpa using hi]
   rw [Array.getElem?_toList,hz] at this
   exact (Option.some.inj this).symm
  subst hvz
  exact hb
theorem un_ab4:Tryz.prog.underlying 54=some (.array 4 5):=Tryz.underlying54
theorem cells_ab4:Tryz.prog.cellsOf 54=4:=by kernel_rfl
theorem open_boQ {H:Type} {enc:TypeId×Value→H} {W:World} {base:Nat} {v:Value} {d:DataW H} {ps:List MemPlace} (hok:Value.okWide Tryz.prog W .any base 4 v) (h:DataW.Trod enc Tryz.prog W 0 (fun _=>true) true 4 v d ps):∃q:Bool,v=.bool q:=by
 obtain ⟨fuel,hf⟩:=h
 obtain ⟨q,h1,_⟩:=DataW.trod_bool Tryz.underlying4 hf
 simp only [Value.okWide,Tryz.underlying4,Cell.okWide] at hok
 cases v<;>simp_all [Cell.ok]
end Go.Proofs.YtdmohffogfbnbaaGreatDoor
