import Derived.Test.YtmlbjfklaehjnaaGreatDoorQc30
import Derived.Test.YtmlbjfklaehjnaaGreatDoorQc31
set_option maxRecDepth 100000
set_option maxHeartbeats 4000000
namespace Go.Proofs.YtmlbjfklaehjnaaGreatDoor
open Go Go.RowKit
def kindOf (b:List Int):Int:=if 0<b.length∧(b.getD 0 0=1∨b.getD 0 0=2) then b.getD 0 0 else 0
theorem ofInt_i64 (a:Nat) (h:a<18446744073709551616):(BitVec.ofInt 64 (a:Int)).toNat=a:=by
 rw [BitVec.toNat_ofInt];omega
theorem or_two {x y:Int} (hx:0≤x∧x<256) (hy:0≤y∧y<256):Go.bits .or .i64 (x * 256) y=x * 256+y:=by
 obtain ⟨A,rfl⟩:=Int.eq_ofNat_of_zero_le hx.1
 obtain ⟨B,rfl⟩:=Int.eq_ofNat_of_zero_le hy.1
 have e:((A:Int) * 256)=((A * 256:Nat):Int):=by omega
 rw [e]
 show IntKind.i64.wrap ((BitVec.ofInt 64 ((A * 256:Nat):Int) ||| BitVec.ofInt 64 (B:Int)).toNat:Int)=_
 rw [BitVec.toNat_or,ofInt_i64 _ (by omega),ofInt_i64 _ (by omega),nat_join 8 _ _ (by omega) (by omega),wrapi _ (by omega) (by omega)]
 omega
theorem kind_one (b off n cap:Nat) (c:Int) (h0:0<n) (h1:c=1) (w:World) (hc:w.cell? ⟨b,off,none⟩=some (.int .u8 c)) :
  Calls Tryz.prog 93 #[.slice (some ⟨b,off,none⟩) n cap] w fun e w'=>e=.returned (.int .i64 1)∧w'=w:=by
 have h0i:(n:Int) > 0:=by omega
 subst h1
 go_enter Tryz.func93,Tryz.ntmps93
 go_wp2
 go_ret
 exact ⟨rfl,rfl⟩
theorem kind_two (b off n cap:Nat) (c:Int) (h0:0<n) (h1:c=2) (w:World) (hc:w.cell? ⟨b,off,none⟩=some (.int .u8 c)) :
  Calls Tryz.prog 93 #[.slice (some ⟨b,off,none⟩) n cap] w fun e w'=>e=.returned (.int .i64 2)∧w'=w:=by
 have h0i:(n:Int) > 0:=by omega
 subst h1
 go_enter Tryz.func93,Tryz.ntmps93
 go_wp2
 go_ret
 exact ⟨rfl,rfl⟩
theorem kind_no (b off n cap:Nat) (c:Int) (h0:0<n) (h1:¬c=1) (h2:¬c=2) (w:World) (hc:w.cell? ⟨b,off,none⟩=some (.int .u8 c)) :
  Calls Tryz.prog 93 #[.slice (some ⟨b,off,none⟩) n cap] w fun e w'=>e=.returned (.int .i64 0)∧w'=w:=by
 have h0i:(n:Int) > 0:=by omega
 have hb1:(c==1)=false:=by simpa using h1
 have hb2:(c==2)=false:=by simpa using h2
 go_enter Tryz.func93,Tryz.ntmps93
 go_wp2
 go_ret
 exact ⟨rfl,rfl⟩
theorem kind_none (cap:Nat) (p:Option Addr) (w:World) :
  Calls Tryz.prog 93 #[.slice p 0 cap] w fun e w'=>e=.returned (.int .i64 0)∧w'=w:=by
 go_enter Tryz.func93,Tryz.ntmps93
 go_wp2
 go_ret
 exact ⟨rfl,rfl⟩
theorem gY (cs:List Int) (v:Value) (w:World) (hv:SlOld w v cs) :
  Calls Tryz.prog 93 #[v] w fun e w'=>e=.returned (.int .i64 (kindOf cs))∧w'=w:=by
 obtain ⟨p,cap,rfl,hcap,hs⟩:=hv
 unfold kindOf
 by_cases h0:0<cs.length
 ·obtain ⟨b,off,rfl,hseg⟩:=hs h0
  have hc:=hseg 0 h0
  rw [Nat.add_zero] at hc
  by_cases h1:cs.getD 0 0=1
  ·rw [if_pos ⟨h0,Or.inl h1⟩,h1]
   exact kind_one b off _ cap _ h0 h1 w hc
  ·by_cases h2:cs.getD 0 0=2
   ·rw [if_pos ⟨h0,Or.inr h2⟩,h2]
    exact kind_two b off _ cap _ h0 h2 w hc
   ·rw [if_neg (by rintro ⟨_,h3|h3⟩;exact h1 h3;exact h2 h3)]
    exact kind_no b off _ cap _ h0 h1 h2 w hc
 ·rw [if_neg (fun h=>h0 h.1),show cs.length=0 by omega]
  exact kind_none cap p w
theorem headed_kind (cs:List Int) (p:Option Addr) (n cap:Nat) (kd:Int) (hk:¬kindOf cs=kd) (w:World) (hv:SlOld w (.slice p n cap) cs) :
  Calls Tryz.prog 137 #[.slice p n cap,.int .i64 kd] w fun e w'=>e=.returned (.bool false)∧w'=w:=by
 have HV:Hid (SlOld w (.slice p n cap) cs):=hv
 obtain ⟨x,hx⟩:∃x,x=kindOf cs:=⟨_,rfl⟩
 have HX:Hid (∀_:Unit,kindOf cs=x):=fun _=>hx.symm
 have hxk:¬x=kd:=by rw [hx];exact hk
 clear hx
 clear hv hk
 go_enter Tryz.func137,Tryz.ntmps137
 go_wp2_with (first
  | (go_at_call 93;refine (gY cs _ _ HV.out).mono ?_;rintro e w2 ⟨he,rfl⟩;rw [HX.out ()] at he;subst he))
 go_ret
 refine ⟨?_,rfl⟩
 first|rfl|(simp;omega)
theorem headed_short (cs:List Int) (p:Option Addr) (n cap:Nat) (kd:Int) (hk:kindOf cs=kd) (h3:¬3≤n) (w:World) (hv:SlOld w (.slice p n cap) cs) :
  Calls Tryz.prog 137 #[.slice p n cap,.int .i64 kd] w fun e w'=>e=.returned (.bool false)∧w'=w:=by
 have HV:Hid (SlOld w (.slice p n cap) cs):=hv
 have HK:Hid (kindOf cs=kd):=hk
 have h3i:¬((3:Int)≤(n:Int)):=by omega
 clear hv hk
 go_enter Tryz.func137,Tryz.ntmps137
 go_wp2_with (first
  | (go_at_call 93;refine (gY cs _ _ HV.out).mono ?_;rintro e w2 ⟨he,rfl⟩;rw [HK.out] at he;subst he))
 go_ret
 refine ⟨?_,rfl⟩
 first|rfl|(simp;omega)
theorem headed_long (cs:List Int) (p:Option Addr) (n cap:Nat) (kd:Int) (hk:kindOf cs=kd) (_h3:3≤n) (h4:¬n≤480) (w:World) (hv:SlOld w (.slice p n cap) cs) :
  Calls Tryz.prog 137 #[.slice p n cap,.int .i64 kd] w fun e w'=>e=.returned (.bool false)∧w'=w:=by
 have HV:Hid (SlOld w (.slice p n cap) cs):=hv
 have HK:Hid (kindOf cs=kd):=hk
 have h3i:(3:Int)≤(n:Int):=by omega
 have h4i:¬((n:Int)≤480):=by omega
 clear hv hk
 go_enter Tryz.func137,Tryz.ntmps137
 go_wp2_with (first
  | (go_at_call 93;refine (gY cs _ _ HV.out).mono ?_;rintro e w2 ⟨he,rfl⟩;rw [HK.out] at he;subst he))
 go_ret
 refine ⟨?_,rfl⟩
 first|rfl|(simp;omega)
theorem headed_good (cs:List Int) (p:Option Addr) (n cap:Nat) (kd:Int) (hk:kindOf cs=kd) (h3:3≤n) (h4:n≤480) (w:World) (hv:SlOld w (.slice p n cap) cs) :
  Calls Tryz.prog 137 #[.slice p n cap,.int .i64 kd] w fun e w'=>e=.returned (.bool true)∧w'=w:=by
 have HV:Hid (SlOld w (.slice p n cap) cs):=hv
 have HK:Hid (kindOf cs=kd):=hk
 have h3i:(3:Int)≤(n:Int):=by omega
 have h4i:(n:Int)≤480:=by omega
 clear hv hk
 go_enter Tryz.func137,Tryz.ntmps137
 go_wp2_with (first
  | (go_at_call 93;refine (gY cs _ _ HV.out).mono ?_;rintro e w2 ⟨he,rfl⟩;rw [HK.out] at he;subst he))
 go_ret
 refine ⟨?_,rfl⟩
 first|rfl|(simp;omega)
theorem lH (cs:List Int) (p:Option Addr) (n cap:Nat) (kd:Int) (hn:cs.length=n) (hkd:kd=1∨kd=2) (w:World) (hv:SlOld w (.slice p n cap) cs) :
  Calls Tryz.prog 137 #[.slice p n cap,.int .i64 kd] w fun e w'=>e=.returned (.bool (headB cs kd))∧w'=w:=by
 unfold headB
 by_cases hk:kindOf cs=kd
 ·by_cases h3:3≤n
  ·have h0:cs.getD 0 0=kd:=by
    unfold kindOf at hk
    split at hk
    ·exact hk
    ·omega
   by_cases h4:n≤480
   ·rw [decide_eq_true (by rw [hn];exact ⟨h3,h4,h0⟩)]
    exact headed_good cs p n cap kd hk h3 h4 w hv
   ·rw [decide_eq_false (by rw [hn];exact fun h=>h4 h.2.1)]
    exact headed_long cs p n cap kd hk h3 h4 w hv
  ·rw [decide_eq_false (by rw [hn];exact fun h=>h3 h.1)]
   exact headed_short cs p n cap kd hk h3 w hv
 ·rw [decide_eq_false]
  ·exact headed_kind cs p n cap kd hk w hv
  ·rintro ⟨h1,_,h2⟩
   refine hk ?_
   unfold kindOf
   rw [if_pos ⟨by omega,by rw [h2];exact hkd⟩,h2]
theorem count_any (cs:List Int) (b off n cap:Nat) (hn:cs.length=n) (h3:3≤n) (hcb:Bytes cs) (w:World) (hs:Seg w b off cs) :
  Calls Tryz.prog 138 #[.slice (some ⟨b,off,none⟩) n cap] w fun e w'=>e=.returned (.int .i64 (cnt cs:Nat))∧Below w.heap.size w w':=by
 have c1:=hs 1 (by omega)
 have c2:=hs 2 (by omega)
 obtain ⟨h10,h11⟩:=Bytes.get hcb 1
 obtain ⟨h20,h21⟩:=Bytes.get hcb 2
 have HC:Hid (Go.bits .or .i64 (cs.getD 1 0 * 256) (cs.getD 2 0)=(cnt cs:Nat)):=by
  show _=_
  rw [or_two ⟨h10,h11⟩ ⟨h20,h21⟩]
  unfold cnt
  omega
 generalize cs.getD 1 0=x1 at *
 generalize cs.getD 2 0=x2 at *
 obtain ⟨N,hN⟩:∃N,N=cnt cs:=⟨_,rfl⟩
 rw [←hN] at HC ⊢
 have h1i:(1:Int)<(n:Int):=by omega
 have h2i:(2:Int)<(n:Int):=by omega
 have hm:=Mem.start w
 clear hN hs hcb hn
 go_enter Tryz.func138,Tryz.ntmps138
 go_wp2_with fail
 go_quiet (fail)
 obtain ⟨wc,hwc⟩:∃v,v=World.drewN w nq:=⟨_,rfl⟩
 replace hm:=Mem.drewN hm nq
 rw [←hwc] at hm ⊢
 clear hwc c1 c2
 go_wp2_with fail
 go_ret
 exact ⟨by rw [←HC.out];rfl,hm.below⟩
open Go Go.RowKit
theorem dS (m:Nat) (mi:Int) (hmi:mi=(m:Int)) (cs:List Int) (v:Value) (hNl:cs.length≤30000) (hml:m≤1000) (hcb:Bytes cs) (w:World) (hv:SlOld w v cs) :
  Calls Tryz.prog 139 #[v,.int .i64 mi] w fun e w'=>∃g,e=.returned (.tuple #[.string (gtStr cs m),.slice (some ⟨g,0,none⟩) (gtRest cs m).length (gtRest cs m).length,.int .i64 (gtCode cs m)])∧w.heap.size≤g∧Row w' g (u8s (gtRest cs m)) 5∧Below w.heap.size w w':=by
 subst hmi
 exact getText_anyN cs v m hNl hml hcb w hv
theorem sp_of {w:World} {v:Value} {n:Nat} {l:List (ByteArray×ByteArray)} (h:SlV 2 w v n (prs l)) (hn:l.length=n):SlP w v l:=by subst hn;exact h
theorem sr_lo {w:World} {p:Option Addr} {n cap:Nat} {cs:List Int} (h:SlOld w (.slice p n cap) cs) (l:Nat) (hl:l≤n):SlR w.heap.size w (.slice (cutLo p cap l) (n - l) (cap - l)) (cs.drop l):=SlR.of_old (kB h l hl)
theorem readLeaf_no (cs:List Int) (p:Option Addr) (n cap:Nat) (hn:cs.length=n) (hh:headB cs 1=false) (w:World) (hv:SlOld w (.slice p n cap) cs) :
  Calls Tryz.prog 94 #[.slice p n cap] w fun e w'=>e=.returned (.tuple #[.slice none 0 0,.int .i64 90])∧w'=w:=by
 have HV:Hid (SlOld w (.slice p n cap) cs):=hv
 have HN:Hid (cs.length=n):=hn
 have HH:Hid (headB cs 1=false):=hh
 clear hv hn hh
 go_enter Tryz.func94,Tryz.ntmps94
 go_wp2_with (first
  | (go_at_call 137;refine (lH cs p n cap 1 HN.out (Or.inl rfl) _ HV.out).mono ?_;rintro e w1 ⟨he,hw⟩;rw [HH.out] at he;subst he;replace hw:=hw.symm;subst hw))
 go_ret2
 exact ⟨rfl,rfl⟩
theorem readLeaf_go (cs r:List Int) (b off N cap C:Nat) (hN:cs.length=N) (h3:3≤N) (h480:N≤480) (hh:headB cs 1=true) (hC:cnt cs=C) (hrr:cs.drop 3=r) (hcb:Bytes cs) (w:World) (hv:SlOld w (.slice (some ⟨b,off,none⟩) N cap) cs) :
  Calls Tryz.prog 94 #[.slice (some ⟨b,off,none⟩) N cap] w fun e w'=>(rlOk cs=false∧e=.returned (.tuple #[.slice none 0 0,.int .i64 90])∨rlOk cs=true∧∃v',e=.returned (.tuple #[v',.int .i64 0])∧SlP w' v' (listL r C))∧Below w.heap.size w w':=by
 have HV:Hid (SlOld w (.slice (some ⟨b,off,none⟩) N cap) cs):=hv
 have HSG:Hid (Seg w b off cs):=by
  obtain ⟨_,_,hs⟩:=hv.src0
  obtain ⟨b',off',hp,hseg⟩:=hs (by omega)
  simp only [Option.some.injEq,Addr.mk.injEq] at hp
  obtain ⟨rfl,rfl,_⟩:=hp
  exact hseg
 have HN:Hid (cs.length=N):=hN
 have HH:Hid (headB cs 1=true):=hh
 have HC:Hid (cnt cs=C):=hC
 have HRR:Hid (∀_:Unit,cs.drop 3=r):=fun _=>hrr
 have HB:Hid (Bytes cs):=hcb
 have HRB:Hid (Bytes r):=by show Bytes _;rw [←hrr];exact hcb.drop 3
 have HRL:Hid (r.length=N - 3):=by show _=_;rw [←hrr,List.length_drop,hN]
 have hCl:C≤65535:=by
  have h1:=Bytes.get hcb 1
  have h2:=Bytes.get hcb 2
  rw [←hC];unfold cnt;omega
 have hm:=Mem.start w
 have HR3:Hid (SlR w.heap.size w (.slice (cutLo (some ⟨b,off,none⟩) cap 3) (N - 3) (cap - 3)) r):=by
  have h9:=sr_lo hv 3 h3
  rw [hrr] at h9
  exact h9
 obtain ⟨P3,hP3⟩:∃x,x=cutLo (some ⟨b,off,none⟩) cap 3:=⟨_,rfl⟩
 obtain ⟨M0,hM0⟩:∃x,x=N - 3:=⟨_,rfl⟩
 obtain ⟨c0,hc0⟩:∃x,x=cap - 3:=⟨_,rfl⟩
 have HSL:Hid (∀W:World,∀a:Act,∀(dst:Option Tmp) (typ:TypeId) (pos:String) (aft:Array Edge),a.eval (.tmp 14)=.slice (some ⟨b,off,none⟩) N cap→(execOp a.eval {dst:=dst,op:=.slice 54 (.tmp 14) (some (.const (.int .i64 3))) none none,type:=typ,pos:=pos,after:=aft,guard:=none}).run Tryz.prog W=.ok (.value (.slice P3 M0 c0)) W):=by
  intro W a dst typ pos aft h
  rw [hP3,hM0,hc0]
  exact cw aq av 3 h3 h rfl rfl
 rw [←hP3,←hM0,←hc0] at HR3
 rw [←hM0] at HRL
 have hM0b:M0≤480:=by omega
 clear hv hN hh hC hrr hcb hP3 hM0 hc0
 go_enter Tryz.func94,Tryz.ntmps94
 go_wp2_with (first
  | (go_at_call 137;refine (lH cs _ N cap 1 HN.out (Or.inl rfl) _ HV.out).mono ?_;rintro e w1 ⟨he,hw⟩;rw [HH.out] at he;subst he;replace hw:=hw.symm;subst hw)
  | ((with_reducible refine aa (some 15) (.slice 54 (.tmp 14) (some (.const (.int .i64 3))) none none) ?_);go_must (refine ae (.slice P3 M0 c0) rfl (HSL.out _ _ _ _ _ _ rfl) ?_))
  | (go_at_call 138;refine (count_any cs b off N cap HN.out h3 HB.out _ HSG.out).mono ?_;rintro e w2 ⟨he,hb⟩;rw [HC.out] at he;subst he;replace hm:=hm.call hb;clear hb))
 have HST:Hid (SlR w.heap.size w2 (.slice P3 M0 c0) (restL r 0)):=SlR.below HR3.out hm.below
 have HBL:Hid (Below w.heap.size w w2):=hm.below
 clear hm HR3
 go_loopw [4,5,18] (fun vl vr vi wr=>∃k M c:Nat,∃pr:Option Addr,k≤C∧vi=.int .i64 (k:Int)∧vr=.slice pr M c∧Hid (okL r k=true)∧Hid (SlR w.heap.size wr (.slice pr M c) (restL r k))∧Hid (wr.ownsRow w.heap.size 44 2 vl k (prs (listL r k)))∧Hid (Below w.heap.size w wr)) (fun _ _ vi _=>C - (RowKit.intOf vi).toNat)
 case atStart=>exact ⟨0,M0,c0,P3,by omega,rfl,rfl,rfl,HST.out,World.ownsRow_nil _ _ _ _,HBL.out⟩
 case round =>
  clear HST HBL
  obtain ⟨k,M,c,pr,hk,rfl,rfl,HOK,HSR,HO,HW⟩:=hrel
  by_cases hlt:k<C
  ·have hki:(k:Int)<(C:Int):=by omega
   have hk3:k≤100000:=by omega
   obtain ⟨R0,hR0⟩:∃x,x=restL r k:=⟨_,rfl⟩
   obtain ⟨R1,hR1⟩:∃x,x=gtRest R0 60:=⟨_,rfl⟩
   obtain ⟨R2,hR2⟩:∃x,x=gtRest R1 150:=⟨_,rfl⟩
   obtain ⟨s1,hs1⟩:∃x,x=gtStr R0 60:=⟨_,rfl⟩
   obtain ⟨s2,hs2⟩:∃x,x=gtStr R1 150:=⟨_,rfl⟩
   obtain ⟨M1,hM1⟩:∃x,x=R1.length:=⟨_,rfl⟩
   obtain ⟨M2,hM2⟩:∃x,x=R2.length:=⟨_,rfl⟩
   have HR0L:Hid (R0.length≤30000):=by show _≤_;have h9:=restL_length r k;have h8:=HRL.out;rw [hR0];have h7:=okL_len HOK.out;have h6:=HN.out;omega
   have HR1L:Hid (R1.length≤30000):=by show _≤_;have h9:=ft R0 60;have h8:=HR0L.out;rw [hR1];omega
   have HR0B:Hid (Bytes R0):=by show Bytes _;rw [hR0];exact restL_bytes HRB.out k
   have HR1B:Hid (Bytes R1):=by show Bytes _;rw [hR1];exact fK HR0B.out _
   have HRN:Hid (restL r (k+1)=R2):=by show _=_;rw [restL,←hR0,←hR1,←hR2]
   have HPN:Hid (prs (listL r (k+1))=prs (listL r k)++[.string s1,.string s2]):=by show _=_;rw [listL,cX,pairL,←hR0,←hs1,←hR1,←hs2];rfl
   have HGN:Hid (okL r (k+1)=(decide (gtCode R0 60=0)&&decide (gtCode R1 150=0))):=by show _=_;rw [okL,HOK.out,goodL,←hR0,←hR1,Bool.true_and]
   have HS1:Hid (∀_:Unit,gtStr R0 60=s1):=fun _=>hs1.symm
   have HS2:Hid (∀_:Unit,gtStr R1 150=s2):=fun _=>hs2.symm
   have HR1:Hid (∀_:Unit,gtRest R0 60=R1):=fun _=>hR1.symm
   have HR2:Hid (∀_:Unit,gtRest R1 150=R2):=fun _=>hR2.symm
   have HM1:Hid (R1.length=M1):=hM1.symm
   have HM2:Hid (R2.length=M2):=hM2.symm
   rw [←hR0] at HSR
   have hm:=Mem.start wr
   have tk1:Nat:=0
   obtain ⟨fs,hfs⟩:=un_pair
   have HFS:Hid (∀_:Unit,Tryz.prog.underlying 44=some (.struct fs)):=fun _=>hfs
   clear hR0 hR1 hR2 hs1 hs2 hM1 hM2 hfs
   by_cases hc1:gtCode R0 60=0
   ·have HE1:Hid (∀_:Unit,gtCode R0 60=0):=fun _=>hc1
    by_cases hc2:gtCode R1 150=0
    ·have HE2:Hid (∀_:Unit,gtCode R1 150=0):=fun _=>hc2
     have HKN:Hid (okL r (k+1)=true):=by show _=_;rw [HGN.out,hc1,hc2];rfl
     clear hc1 hc2
     go_wp2_with (first
      | ((with_reducible refine aa (some 6) (.alloc 44) ?_);refine af _ bB hm ?_;clear hm;intro w3 g6 hm)
      | (go_at_call 139;clear tk1;refine (dS 60 60 rfl R0 _ HR0L.out (by omega) HR0B.out _ (SlR.old (SlR.below HSR.out hm.below))).mono ?_;rintro e w4 ⟨g1,he,hge,hr,hb⟩;rw [HS1.out (),HR1.out (),HM1.out,HE1.out ()] at he;subst he;rw [HR1.out ()] at hr;replace hm:=hm.callNew hb hr hge;clear hge hr hb)
      | ((with_reducible refine aa none (.store 9 (.tmp 26) (.tmp 23)) ?_);refine aD 1 0 (.string s1) hm rfl rfl rfl kw (by simp) rfl rfl ?_;clear hm;intro w5 hm)
      | (go_at_call 139;refine (dS 150 150 rfl R1 _ HR1L.out (by omega) HR1B.out _ (aE (hm.get 0 rfl) HM1.out (Nat.le_refl _))).mono ?_;rintro e w6 ⟨g2,he,hge,hr,hb⟩;rw [HS2.out (),HR2.out (),HM2.out,HE2.out ()] at he;subst he;rw [HR2.out ()] at hr;replace hm:=hm.callNew hb hr hge;clear hge hr hb)
      | ((with_reducible refine aa none (.store 9 (.tmp 33) (.tmp 30)) ?_);refine aD 2 1 (.string s2) hm rfl rfl rfl kw (by simp) rfl rfl ?_;clear hm;intro w7 hm)
      | ((with_reducible refine aa (some 41) (.load 44 (.tmp 6)) ?_);refine am 2 hm rfl rfl (.struct fs) (HFS.out ()) rfl 2 bA rfl ?_)
      | ((with_reducible refine aa (some 42) (.buildSlice 28 1 #[(0,.tmp 41)]) ?_);go_must (refine fE s1 s2 rfl rfl hm ?_);clear hm;intro w8 g8 hm)
      | ((with_reducible refine aa (some 43) (.call {callee:=.builtin .append,args:=#[.tmp 40,.tmp 42],argTypes:=#[28,28]}) ?_);go_must (refine cU (.agg [.string ByteArray.empty,.string ByteArray.empty].toArray) 2 32 rfl bw eC rfl (by omega) (by omega) (bM HO.out hm.below) (Nat.le_trans HW.out.size hm.size) rfl rfl (hm.get 0 rfl) rfl (by simp [Value.oneCell']) hk3 ?_);intro v9 w9 ho9 hg9 hl9;have HO9:Hid (w9.ownsRow w.heap.size 44 2 v9 (k+1) (prs (listL r k)++[.string s1,.string s2])):=ho9;have HW9:Hid (Below w.heap.size w w9):=fc (cI HW.out HW.out.size hm.below) (Nat.le_trans HW.out.size hm.size) (bM HO.out hm.below) hg9;have HR9:Hid (SlR w.heap.size w9 (.slice (some ⟨g2,0,none⟩) M2 M2) R2):=SlR.grown (SlR.of_row (hm.get 1 rfl) HM2.out) (bM HO.out hm.below) (by decide) hg9;clear ho9 hg9 hl9 hm))
     go_roundw
     case rel=>exact ⟨k+1,M2,M2,some ⟨g2,0,none⟩,by omega,by go_num,rfl,HKN.out,by show SlR _ _ _ _;rw [HRN.out];exact HR9.out,by show World.ownsRow _ _ _ _ _ _ _;rw [HPN.out];exact HO9.out,HW9.out⟩
     case measure=>simp [RowKit.intOf];omega
    ·obtain ⟨e2,he2⟩:∃x,x=gtCode R1 150:=⟨_,rfl⟩
     have HE2:Hid (∀_:Unit,gtCode R1 150=e2):=fun _=>he2.symm
     have hb2:(e2 != 0)=true:=by rw [he2];simpa using hc2
     have HNO:Hid (rlOk cs=false):=rl_bad (show k+1≤cnt cs by rw [HC.out];omega) (by rw [HRR.out (),HGN.out,decide_eq_false hc2];simp)
     clear hc1 hc2 he2
     go_wp2_with (first
      | ((with_reducible refine aa (some 6) (.alloc 44) ?_);refine af _ bB hm ?_;clear hm;intro w3 g6 hm)
      | (go_at_call 139;clear tk1;refine (dS 60 60 rfl R0 _ HR0L.out (by omega) HR0B.out _ (SlR.old (SlR.below HSR.out hm.below))).mono ?_;rintro e w4 ⟨g1,he,hge,hr,hb⟩;rw [HS1.out (),HR1.out (),HM1.out,HE1.out ()] at he;subst he;rw [HR1.out ()] at hr;replace hm:=hm.callNew hb hr hge;clear hge hr hb)
      | ((with_reducible refine aa none (.store 9 (.tmp 26) (.tmp 23)) ?_);refine aD 1 0 (.string s1) hm rfl rfl rfl kw (by simp) rfl rfl ?_;clear hm;intro w5 hm)
      | (go_at_call 139;refine (dS 150 150 rfl R1 _ HR1L.out (by omega) HR1B.out _ (aE (hm.get 0 rfl) HM1.out (Nat.le_refl _))).mono ?_;rintro e w6 ⟨g2,he,hge,hr,hb⟩;rw [HS2.out (),HR2.out (),HM2.out,HE2.out ()] at he;subst he;rw [HR2.out ()] at hr;replace hm:=hm.callNew hb hr hge;clear hge hr hb)
      | ((with_reducible refine aa none (.store 9 (.tmp 33) (.tmp 30)) ?_);refine aD 2 1 (.string s2) hm rfl rfl rfl kw (by simp) rfl rfl ?_;clear hm;intro w7 hm))
     go_ret2
     exact ⟨Or.inl ⟨HNO.out,rfl⟩,cI HW.out HW.out.size hm.below⟩
   ·obtain ⟨e1,he1⟩:∃x,x=gtCode R0 60:=⟨_,rfl⟩
    obtain ⟨e2,he2⟩:∃x,x=gtCode R1 150:=⟨_,rfl⟩
    have HE1:Hid (∀_:Unit,gtCode R0 60=e1):=fun _=>he1.symm
    have HE2:Hid (∀_:Unit,gtCode R1 150=e2):=fun _=>he2.symm
    have hb1:(e1 != 0)=true:=by rw [he1];simpa using hc1
    have HNO:Hid (rlOk cs=false):=rl_bad (show k+1≤cnt cs by rw [HC.out];omega) (by rw [HRR.out (),HGN.out,decide_eq_false hc1];rfl)
    clear hc1 he1 he2
    go_wp2_with (first
     | ((with_reducible refine aa (some 6) (.alloc 44) ?_);refine af _ bB hm ?_;clear hm;intro w3 g6 hm)
     | (go_at_call 139;clear tk1;refine (dS 60 60 rfl R0 _ HR0L.out (by omega) HR0B.out _ (SlR.old (SlR.below HSR.out hm.below))).mono ?_;rintro e w4 ⟨g1,he,hge,hr,hb⟩;rw [HS1.out (),HR1.out (),HM1.out,HE1.out ()] at he;subst he;rw [HR1.out ()] at hr;replace hm:=hm.callNew hb hr hge;clear hge hr hb)
     | ((with_reducible refine aa none (.store 9 (.tmp 26) (.tmp 23)) ?_);refine aD 1 0 (.string s1) hm rfl rfl rfl kw (by simp) rfl rfl ?_;clear hm;intro w5 hm)
     | (go_at_call 139;refine (dS 150 150 rfl R1 _ HR1L.out (by omega) HR1B.out _ (aE (hm.get 0 rfl) HM1.out (Nat.le_refl _))).mono ?_;rintro e w6 ⟨g2,he,hge,hr,hb⟩;rw [HS2.out (),HR2.out (),HM2.out,HE2.out ()] at he;subst he;rw [HR2.out ()] at hr;replace hm:=hm.callNew hb hr hge;clear hge hr hb)
     | ((with_reducible refine aa none (.store 9 (.tmp 33) (.tmp 30)) ?_);refine aD 2 1 (.string s2) hm rfl rfl rfl kw (by simp) rfl rfl ?_;clear hm;intro w7 hm))
    go_ret2
    exact ⟨Or.inl ⟨HNO.out,rfl⟩,cI HW.out HW.out.size hm.below⟩
  ·have hkn:C=k:=by omega
   subst hkn
   have hni:¬(C:Int)<(C:Int):=by omega
   have hsp:=sp_of (own_sl HO.out) (jR r C)
   have HSP:Hid _:=hsp
   have hol:=okL_len HOK.out
   have HLL:Hid ((listL r C).length≤1000):=by show _≤_;rw [jR];have h8:=HRL.out;have h6:=HN.out;omega
   have HLS:Hid (∀p∈listL r C,p.1.size≤1152921504606846976∧p.2.size≤1152921504606846976):=by
    intro p hp
    have h9:=listL_sizes r C p hp
    omega
   have HYES:Hid (leafCode (listL r C)=0→leafB (listL r C)=cs→rlOk cs=true):=fun h1 h2=>rl_yes HH.out (by rw [HRR.out (),HC.out];exact HOK.out) (by rw [HRR.out (),HC.out];exact h1) (by rw [HRR.out (),HC.out];exact h2)
   have HNC:Hid (¬leafCode (listL r C)=0→rlOk cs=false):=fun h=>rl_code (by rw [HRR.out (),HC.out];exact h)
   have HNE:Hid (¬leafB (listL r C)=cs→rlOk cs=false):=fun h=>rl_eq (by rw [HRR.out (),HC.out];exact h)
   have HLB:Hid (Bytes (leafB (listL r C))):=gT _
   have HLO:Hid (leafCode (listL r C)=0→leafOut (listL r C)=leafB (listL r C)):=fun h=>by rw [leafOut,if_pos h]
   obtain ⟨L,hL⟩:∃L,listL r C=L:=⟨_,rfl⟩
   rw [hL] at HSP HLL HLS HYES HNC HNE HLB HLO
   have HLE:Hid (∀_:Unit,listL r C=L):=fun _=>hL
   clear hL
   have hm:=Mem.start wr
   clear hsp hol
   by_cases hc:leafCode L=0
   ·have HLC:Hid (∀_:Unit,leafCode L=0):=fun _=>hc
    have HLO2:Hid (∀_:Unit,leafOut L=leafB L):=fun _=>HLO.out hc
    by_cases he:leafB L=cs
    ·have HEQ:Hid (decide (leafB L=cs)=true):=decide_eq_true he
     have HY:Hid (rlOk cs=true):=HYES.out hc he
     clear hc he
     go_wp2_with (first
      | (go_at_call 29;refine (jP L _ HLL.out HLS.out _ HSP.out).mono ?_;rintro e w2 ⟨v9,he,hso,hb⟩;rw [HLC.out ()] at he;subst he;rw [HLO2.out ()] at hso;have HSO:Hid (SlOld w2 v9 (leafB L)):=hso;replace hm:=hm.call hb;clear hb hso)
      | (go_at_call 118;refine (iW (leafB L) cs _ _ HLB.out HB.out _ HSO.out (SlOld.below HV.out (cI HW.out HW.out.size hm.below))).mono ?_;rintro e w3 ⟨he,hw⟩;rw [HEQ.out] at he;subst he;replace hw:=hw.symm;subst hw))
     go_ret2
     exact ⟨Or.inr ⟨HY.out,_,rfl,by rw [HLE.out ()];exact SlV.below HSP.out hm.below⟩,cI HW.out HW.out.size hm.below⟩
    ·have HEQ:Hid (decide (leafB L=cs)=false):=decide_eq_false he
     have HNO:Hid (rlOk cs=false):=HNE.out he
     clear hc he
     go_wp2_with (first
      | (go_at_call 29;refine (jP L _ HLL.out HLS.out _ HSP.out).mono ?_;rintro e w2 ⟨v9,he,hso,hb⟩;rw [HLC.out ()] at he;subst he;rw [HLO2.out ()] at hso;have HSO:Hid (SlOld w2 v9 (leafB L)):=hso;replace hm:=hm.call hb;clear hb hso)
      | (go_at_call 118;refine (iW (leafB L) cs _ _ HLB.out HB.out _ HSO.out (SlOld.below HV.out (cI HW.out HW.out.size hm.below))).mono ?_;rintro e w3 ⟨he,hw⟩;rw [HEQ.out] at he;subst he;replace hw:=hw.symm;subst hw))
     go_ret2
     exact ⟨Or.inl ⟨HNO.out,rfl⟩,cI HW.out HW.out.size hm.below⟩
   ·obtain ⟨x,hx⟩:∃x,x=leafCode L:=⟨_,rfl⟩
    have HLC:Hid (∀_:Unit,leafCode L=x):=fun _=>hx.symm
    have hbx:(x != 0)=true:=by rw [hx];simpa using hc
    have HNO:Hid (rlOk cs=false):=HNC.out hc
    clear hc hx
    go_wp2_with (first
     | (go_at_call 29;refine (jP L _ HLL.out HLS.out _ HSP.out).mono ?_;rintro e w2 ⟨v9,he,hso,hb⟩;rw [HLC.out ()] at he;subst he;replace hm:=hm.call hb;clear hb hso))
    go_ret2
    exact ⟨Or.inl ⟨HNO.out,rfl⟩,cI HW.out HW.out.size hm.below⟩
theorem readLeaf_any (cs:List Int) (v:Value) (hcb:Bytes cs) (w:World) (hv:SlOld w v cs) :
  Calls Tryz.prog 94 #[v] w fun e w'=>∃v',e=.returned (.tuple #[v',.int .i64 (if rlOk cs then 0 else 90)])∧SlP w' v' (rlOut cs)∧Below w.heap.size w w':=by
 obtain ⟨p,cap,rfl,hcap,hs⟩:=hv
 cases hh:headB cs 1 with
 | false =>
  have hno:=rl_head hh
  refine (readLeaf_no cs p cs.length cap rfl hh w ⟨p,cap,rfl,hcap,hs⟩).mono fun e w' ⟨he,hw⟩=>⟨.slice none 0 0,?_,?_,by rw [hw];exact Below.refl _ _⟩
  ·rw [hno];exact he
  ·rw [rlOut,hno];exact SlP.nil _
 | true =>
  have hh2:=hh
  simp only [headB,decide_eq_true_eq] at hh2
  obtain ⟨b,off,rfl,hseg⟩:=hs (by omega)
  refine (readLeaf_go cs (cs.drop 3) b off cs.length cap (cnt cs) rfl hh2.1 hh2.2.1 hh rfl rfl hcb w ⟨_,cap,rfl,hcap,fun _=>⟨b,off,rfl,hseg⟩⟩).mono fun e w' ⟨h,hb⟩=>?_
  rcases h with ⟨hno,he⟩|⟨hy,v',he,hsp⟩
  ·refine ⟨.slice none 0 0,?_,?_,hb⟩
   ·rw [hno];exact he
   ·rw [rlOut,hno];exact SlP.nil _
  ·refine ⟨v',?_,?_,hb⟩
   ·rw [hy];exact he
   ·rw [rlOut,hy];exact hsp
open Go Go.RowKit
open Go Go.RowKit Go.Maps
theorem exec_gtrs {a:Act} {w:World} {dst:Option Tmp} {typ:TypeId} {pos:String} {aft:Array Edge} {gd:Option (Nat×Bool)} {t:TypeId} {x y:Operand} {rt:TypeId} (s s':ByteArray) (v:Bool) (hx:a.eval x=.string s) (hy:a.eval y=.string s') (hv:(less s s'||s.toList==s'.toList)=v) :
  (execOp a.eval {dst:=dst,op:=.binOp .gtr t x y rt,type:=typ,pos:=pos,after:=aft,guard:=gd}).run Tryz.prog w=.ok (.value (.bool (!v))) w:=by
 subst hv
 unfold execOp
 simp only [hx,hy]
 simp [eqGuard,binOp,Op.stringOp,less]
def cmpS (a b:ByteArray):Int:=if less a b=true then -1 else if a=b then 0 else 1
theorem nan_any (s:ByteArray) (w:World):Calls Tryz.prog 107 #[.string s] w fun e w'=>e=.returned (.bool false)∧w'=w:=by
 go_enter Tryz.func107,Tryz.ntmps107
 go_wp2_with fail
 go_ret
 exact ⟨by simp,rfl⟩
theorem cmp_any (a b:ByteArray) (w:World):Calls Tryz.prog 64 #[.string a,.string b] w fun e w'=>e=.returned (.int .i64 (cmpS a b))∧w'=w:=by
 cases h:less a b with
 | true =>
  have h1:Op.bytesLess a.toList b.toList=true:=h
  have h2:cmpS a b = -1:=by unfold cmpS;rw [if_pos h]
  rw [h2]
  clear h2 h
  go_enter Tryz.func64,Tryz.ntmps64
  go_wp2_with (first
   | (go_at_call 107;refine (nan_any _ _).mono ?_;rintro e w1 ⟨rfl,hw⟩;replace hw:=hw.symm;subst hw))
  go_ret
  exact ⟨rfl,rfl⟩
 | false =>
  have h1:Op.bytesLess a.toList b.toList=false:=h
  by_cases he:a=b
  ·have h2:cmpS a b=0:=by unfold cmpS;rw [h,if_neg (by simp),if_pos he]
   have HG:Hid ((less a b||a.toList==b.toList)=true):=by show _=_;rw [h,he];simp
   rw [h2]
   clear h2 h he
   go_enter Tryz.func64,Tryz.ntmps64
   go_wp2_with (first
    | (go_at_call 107;refine (nan_any _ _).mono ?_;rintro e w1 ⟨rfl,hw⟩;replace hw:=hw.symm;subst hw)
    | ((with_reducible refine aa (some 19) (.binOp .gtr 9 (.tmp 17) (.tmp 18) 9) ?_);go_must (refine ae (.bool false) rfl (exec_gtrs a b true rfl rfl HG.out) ?_)))
   go_ret
   exact ⟨rfl,rfl⟩
  ·have h2:cmpS a b=1:=by unfold cmpS;rw [h,if_neg (by simp),if_neg he]
   have HG:Hid ((less a b||a.toList==b.toList)=false):=by
    show _=_
    rw [h,Bool.false_or]
    cases h4:a.toList==b.toList with
    | false=>rfl
    | true=>exact absurd (ba_ext (beq_iff_eq.1 h4)) he
   rw [h2]
   clear h2 h he
   go_enter Tryz.func64,Tryz.ntmps64
   go_wp2_with (first
    | (go_at_call 107;refine (nan_any _ _).mono ?_;rintro e w1 ⟨rfl,hw⟩;replace hw:=hw.symm;subst hw)
    | ((with_reducible refine aa (some 19) (.binOp .gtr 9 (.tmp 17) (.tmp 18) 9) ?_);go_must (refine ae (.bool true) rfl (exec_gtrs a b false rfl rfl HG.out) ?_)))
   go_ret
   exact ⟨rfl,rfl⟩
theorem iF (a v b:ByteArray) (w:World):Calls Tryz.prog 63 #[.agg #[.string a,.string v],.string b] w fun e w'=>e=.returned (.int .i64 (cmpS a b))∧Below w.heap.size w w':=by
 have hm:=Mem.start w
 obtain ⟨c,hc⟩:∃c,c=cmpS a b:=⟨_,rfl⟩
 have HC:Hid (∀_:Unit,cmpS a b=c):=fun _=>hc.symm
 rw [←hc]
 clear hc
 go_enter Tryz.func63,Tryz.ntmps63
 go_wp2_with (first
  | ((with_reducible refine aa (some 2) (.box 44 (.tmp 0)) ?_);refine ak [.string a,.string v] rfl hm ?_;clear hm;intro w1 g hm)
  | ((with_reducible refine aa (some 6) (.load 9 (.tmp 5)) ?_);refine ai 0 0 (.string a) hm rfl rfl a8 rfl ?_)
  | (go_at_call 64;refine (cmp_any a b _).mono ?_;rintro e w2 ⟨he,hw⟩;rw [HC.out ()] at he;subst he;replace hw:=hw.symm;subst hw))
 go_ret
 exact ⟨rfl,hm.below⟩
open Go Go.RowKit Go.Maps
theorem info_part:(Tryz.prog.info? 84).map (fun i=>(i.zero,i.size))=some (some (.agg (List.toArray [.slice none 0 0,.slice none 0 0,.slice none 0 0])),3):=by kernel_rfl
theorem be:∀w,(zeroValue 84).run Tryz.prog w=.ok (.agg (List.toArray [.slice none 0 0,.slice none 0 0,.slice none 0 0])) w:=(zero_of_info info_part).1
theorem aA:(Tryz.prog.info? 84).map (·.size)=some 3:=by kernel_rfl
theorem aS:∃fs,Tryz.prog.underlying 84=some (.struct fs):=⟨_,Tryz.underlying84⟩
theorem lJ:(Tryz.prog.info? 137).map (fun i=>(i.zero,i.size))=some (some (.agg (List.toArray [.int .u32 0,.pointer none])),2):=by kernel_rfl
theorem zero_kid:∀w,(zeroValue 137).run Tryz.prog w=.ok (.agg (List.toArray [.int .u32 0,.pointer none])) w:=(zero_of_info lJ).1
theorem fm:(Tryz.prog.info? 137).map (·.size)=some 2:=by kernel_rfl
theorem jn:∃fs,Tryz.prog.underlying 137=some (.struct fs):=⟨_,Tryz.underlying137⟩
theorem info_rdr:(Tryz.prog.info? 78).map (fun i=>(i.zero,i.size))=some (some (.agg (List.toArray [.pointer none,.map none])),2):=by kernel_rfl
theorem jU:∀w,(zeroValue 78).run Tryz.prog w=.ok (.agg (List.toArray [.pointer none,.map none])) w:=(zero_of_info info_rdr).1
theorem dK:(Tryz.prog.info? 78).map (·.size)=some 2:=by kernel_rfl
theorem fq:∃fs,Tryz.prog.underlying 78=some (.struct fs):=⟨_,Tryz.underlying78⟩
theorem info_wri:(Tryz.prog.info? 177).map (fun i=>(i.zero,i.size))=some (some (.agg (List.toArray [.pointer none,.slice none 0 0])),2):=by kernel_rfl
theorem zero_wri:∀w,(zeroValue 177).run Tryz.prog w=.ok (.agg (List.toArray [.pointer none,.slice none 0 0])) w:=(zero_of_info info_wri).1
theorem sz_wri:(Tryz.prog.info? 177).map (·.size)=some 2:=by kernel_rfl
theorem dO:∀w,(isAgg 82).run Tryz.prog w=.ok false w:=by intro w;simp [go_sem]
theorem bZ:∀w,(isAgg 28).run Tryz.prog w=.ok false w:=by intro w;simp [go_sem]
theorem ag_strl:∀w,(isAgg 81).run Tryz.prog w=.ok false w:=by intro w;simp [go_sem]
theorem b3:∀w,(isAgg 135).run Tryz.prog w=.ok false w:=by intro w;simp [go_sem]
theorem ag_idl:∀w,(isAgg 59).run Tryz.prog w=.ok false w:=by intro w;simp [go_sem]
theorem ag_pgp:∀w,(isAgg 24).run Tryz.prog w=.ok false w:=by intro w;simp [go_sem]
theorem ag_seen:∀w,(isAgg 76).run Tryz.prog w=.ok false w:=by intro w;simp [go_sem]
theorem un_kidl:Tryz.prog.underlying 82=some (.slice 137):=Tryz.underlying82
theorem ea (p:Option Addr) (n c:Nat) (w:World):Calls Tryz.prog 56 #[.agg (List.toArray [.slice p n c,.slice none 0 0,.slice none 0 0])] w fun e w'=>e=.returned (.bool true)∧Below w.heap.size w w':=by
 have hm:=Mem.start w
 go_enter Tryz.func56,Tryz.ntmps56
 go_wp2_with (first
  | ((with_reducible refine aa (some 1) (.box 84 (.tmp 0)) ?_);refine ak [.slice p n c,.slice none 0 0,.slice none 0 0] rfl hm ?_;clear hm;intro w1 g hm)
  | ((with_reducible refine aa (some 4) (.load 82 (.tmp 3)) ?_);refine ai 0 2 (.slice none 0 0) hm rfl rfl dO rfl ?_))
 go_ret
 exact ⟨rfl,hm.below⟩
theorem isLone_leaf (p:Option Addr) (n c:Nat) (w:World):Calls Tryz.prog 106 #[.agg (List.toArray [.slice p n c,.slice none 0 0,.slice none 0 0])] w fun e w'=>e=.returned (.bool false)∧Below w.heap.size w w':=by
 have hm:=Mem.start w
 go_enter Tryz.func106,Tryz.ntmps106
 go_wp2_with (first
  | ((with_reducible refine aa (some 1) (.box 84 (.tmp 0)) ?_);refine ak [.slice p n c,.slice none 0 0,.slice none 0 0] rfl hm ?_;clear hm;intro w1 g hm)
  | ((with_reducible refine aa (some 4) (.load 82 (.tmp 3)) ?_);refine ai 0 2 (.slice none 0 0) hm rfl rfl dO rfl ?_))
 go_ret
 exact ⟨rfl,hm.below⟩
theorem size_leaf (l:List Pr) (p:Option Addr) (n c:Nat) (hn:l.length=n) (hnl:n≤1000) (hsz:∀q∈l,q.1.size≤1152921504606846976∧q.2.size≤1152921504606846976) (w:World) (hv:SlP w (.slice p n c) l):Calls Tryz.prog 144 #[.agg (List.toArray [.slice p n c,.slice none 0 0,.slice none 0 0])] w fun e w'=>e=.returned (.int .i64 ((min (szP l) 100000:Nat):Int))∧Below w.heap.size w w':=by
 have hm:=Mem.start w
 have HV:Hid (SlP w (.slice p n c) l):=hv
 have HSZ:Hid (∀q∈l,q.1.size≤1152921504606846976∧q.2.size≤1152921504606846976):=hsz
 obtain ⟨S,hS⟩:∃S,S=((min (szP l) 100000:Nat):Int):=⟨_,rfl⟩
 have HS:Hid (∀_:Unit,((min (szP l) 100000:Nat):Int)=S):=fun _=>hS.symm
 rw [←hS]
 clear hv hsz hS
 go_enter Tryz.func144,Tryz.ntmps144
 go_wp2_with (first
  | ((with_reducible refine aa (some 1) (.box 84 (.tmp 0)) ?_);refine ak [.slice p n c,.slice none 0 0,.slice none 0 0] rfl hm ?_;clear hm;intro w1 g hm)
  | ((with_reducible refine aa (some 6) (.load 84 (.tmp 1)) ?_);obtain ⟨fs,hfs⟩:=aS;go_must (refine am 0 hm rfl rfl _ hfs rfl 3 aA rfl ?_);clear hfs fs)
  | (go_at_call 56;refine (ea _ _ _ _).mono ?_;rintro e w2 ⟨rfl,hb⟩;replace hm:=hm.call hb;clear hb)
  | ((with_reducible refine aa (some 9) (.load 28 (.tmp 8)) ?_);refine ai 0 0 (.slice p n c) hm rfl rfl bZ rfl ?_)
  | (go_at_call 51;refine (mG l n _ hn hnl HSZ.out _ (SlV.below HV.out hm.below)).mono ?_;rintro e w3 ⟨he,hb⟩;rw [HS.out ()] at he;subst he;replace hm:=hm.call hb;clear hb))
 go_ret
 exact ⟨rfl,hm.below⟩
theorem fits_leaf (l:List Pr) (p:Option Addr) (n c:Nat) (hn:l.length=n) (hnl:n≤1000) (hsz:∀q∈l,q.1.size≤1152921504606846976∧q.2.size≤1152921504606846976) (w:World) (hv:SlP w (.slice p n c) l) (h480:szP l≤480):Calls Tryz.prog 97 #[.agg (List.toArray [.slice p n c,.slice none 0 0,.slice none 0 0])] w fun e w'=>e=.returned (.bool true)∧Below w.heap.size w w':=by
 have hm:=Mem.start w
 have HV:Hid (SlP w (.slice p n c) l):=hv
 have HSZ:Hid (∀q∈l,q.1.size≤1152921504606846976∧q.2.size≤1152921504606846976):=hsz
 obtain ⟨S,hS⟩:∃S,S=((min (szP l) 100000:Nat):Int):=⟨_,rfl⟩
 have HS:Hid (∀_:Unit,((min (szP l) 100000:Nat):Int)=S):=fun _=>hS.symm
 have hle:S≤480:=by omega
 clear hv hsz hS
 go_enter Tryz.func97,Tryz.ntmps97
 go_wp2_with (first
  | ((with_reducible refine aa (some 1) (.box 84 (.tmp 0)) ?_);refine ak [.slice p n c,.slice none 0 0,.slice none 0 0] rfl hm ?_;clear hm;intro w1 g hm)
  | ((with_reducible refine aa (some 3) (.load 84 (.tmp 1)) ?_);obtain ⟨fs,hfs⟩:=aS;go_must (refine am 0 hm rfl rfl _ hfs rfl 3 aA rfl ?_);clear hfs fs)
  | (go_at_call 144;refine (size_leaf l p n c hn hnl HSZ.out _ (SlV.below HV.out hm.below)).mono ?_;rintro e w3 ⟨he,hb⟩;rw [HS.out ()] at he;subst he;replace hm:=hm.call hb;clear hb))
 go_ret
 exact ⟨by first|rfl|simp|(simp;omega),hm.below⟩
open Go Go.RowKit Go.Maps
theorem cmpS_neg (a b:ByteArray):decide (cmpS a b<0)=less a b:=by
 unfold cmpS
 cases h:less a b with
 | true=>rfl
 | false =>
  rw [if_neg (by simp)]
  split<;>rfl
theorem cmpS_zero (a b:ByteArray):decide (cmpS a b=0)=decide (a=b):=by
 unfold cmpS
 by_cases he:a=b
 ·rw [he,bh,if_neg (by simp),if_pos rfl,decide_eq_true rfl,decide_eq_true rfl]
 ·cases h:less a b with
  | true=>rw [if_pos rfl,decide_eq_false he];rfl
  | false=>rw [if_neg (by simp),if_neg he,decide_eq_false he];rfl
theorem bsf_some (l:List Pr) (n c:Nat) (p:Option Addr) (k:ByteArray) (hn:l.length=n) (hnl:n≤1000) (hs:Srt l) (w:World) (hv:SlP w (.slice p n c) l) (b o:Nat) (hp:p=some ⟨b,o,none⟩) :
  Calls Tryz.prog 62 #[.slice p n c,.string k,.func (.func 63) #[] #[]] w fun e w'=>e=.returned (.tuple #[.int .i64 (posP l k:Int),.bool (hadP l k)])∧Below w.heap.size w w':=by
 subst hp
 have HV:Hid (SlP w (.slice (some ⟨b,o,none⟩) n c) l):=hv
 have HN:Hid (l.length=n):=hn
 obtain ⟨P,hP⟩:∃P,P=posP l k:=⟨_,rfl⟩
 have hPn:P≤n:=by rw [hP,←hn];exact ly l k
 have HPI:Hid (∀j,j<n→less (l.getD j (noStr,noStr)).1 k=decide (j<P)):=fun j hj=>by rw [hP];exact eM hs j (by rw [hn];exact hj)
 obtain ⟨hd,hhd⟩:∃x,x=hadP l k:=⟨_,rfl⟩
 have HHD:Hid (hd=(decide (P<n)&&decide ((l.getD P (noStr,noStr)).1=k))):=by show _=_;rw [hhd,hP,←hn];exact lr hs
 rw [←hP,←hhd]
 have hm:=Mem.start w
 clear hv hn hP hhd hs
 go_enter Tryz.func62,Tryz.ntmps62
 go_wp2_with fail
 go_loopw [9,10] (fun vi vj wr=>∃i j:Nat,i≤P∧P≤j∧j≤n∧vi=.int .i64 (i:Int)∧vj=.int .i64 (j:Int)∧Mem w [] wr []) (fun vi vj _=>(RowKit.intOf vj).toNat - (RowKit.intOf vi).toNat)
 case atStart=>exact ⟨0,n,by omega,hPn,by omega,rfl,rfl,hm⟩
 case round =>
  clear hm
  obtain ⟨i,j,hi,hj,hjn,rfl,rfl,hm⟩:=hrel
  by_cases hlt:i<j
  ·have hlti:(i:Int)<(j:Int):=by omega
   obtain ⟨h,hh0⟩:∃h:Nat,h=(i+j) / 2:=⟨_,rfl⟩
   have hh1:i≤h:=by omega
   have hh2:h<j:=by omega
   have hhv:((i:Int)+(j:Int)) / 2=(h:Int):=by omega
   have hhn:(h:Int)<(n:Int):=by omega
   clear hh0
   obtain ⟨ka,hka⟩:∃a,a=(l.getD h (noStr,noStr)).1:=⟨_,rfl⟩
   obtain ⟨va,hva⟩:∃a,a=(l.getD h (noStr,noStr)).2:=⟨_,rfl⟩
   have HC:Hid (wr.cell? ⟨b,o+h * 2,none⟩=some (.string ka)∧wr.cell? ⟨b,o+h * 2+1,none⟩=some (.string va)):=by
    have h9:=SlP.cells HN.out (SlV.below HV.out hm.below) h (by omega)
    rw [hka,hva]
    exact h9
   obtain ⟨cm,hcm⟩:∃x,x=cmpS ka k:=⟨_,rfl⟩
   have HCM:Hid (∀_:Unit,cmpS ka k=cm):=fun _=>hcm.symm
   have hcl:decide (cm<0)=decide (h<P):=by rw [hcm,cmpS_neg,hka];exact HPI.out h (by omega)
   clear hka hva hcm
   by_cases hlP:h<P
   ·rw [decide_eq_true hlP] at hcl
    have hcl2:cm<0:=of_decide_eq_true hcl
    clear hcl
    go_wp2_with (first
     | ((with_reducible refine aa (some 27) (.indexAddr 28 (.tmp 25) (.tmp 26)) ?_);go_must (refine ae (.pointer (some ⟨b,o+h * 2,none⟩)) rfl (aV h rfl rfl rfl (by omega)) ?_))
     | ((with_reducible refine aa (some 28) (.load 44 (.tmp 27)) ?_);go_must (refine ae (.agg [.string ka,.string va].toArray) rfl (bo ka va rfl HC.out.1 HC.out.2) ?_))
     | (go_at_call 63;refine (iF ka va k _).mono ?_;rintro e w2 ⟨he,hb⟩;rw [HCM.out ()] at he;subst he;replace hm:=hm.call hb;clear hb))
    refine ⟨⟨h+1,j,by omega,hj,hjn,by go_num,rfl,hm⟩,by simp [RowKit.intOf];omega⟩
   ·rw [decide_eq_false hlP] at hcl
    have hcl2:¬cm<0:=of_decide_eq_false hcl
    clear hcl
    go_wp2_with (first
     | ((with_reducible refine aa (some 27) (.indexAddr 28 (.tmp 25) (.tmp 26)) ?_);go_must (refine ae (.pointer (some ⟨b,o+h * 2,none⟩)) rfl (aV h rfl rfl rfl (by omega)) ?_))
     | ((with_reducible refine aa (some 28) (.load 44 (.tmp 27)) ?_);go_must (refine ae (.agg [.string ka,.string va].toArray) rfl (bo ka va rfl HC.out.1 HC.out.2) ?_))
     | (go_at_call 63;refine (iF ka va k _).mono ?_;rintro e w2 ⟨he,hb⟩;rw [HCM.out ()] at he;subst he;replace hm:=hm.call hb;clear hb))
    refine ⟨⟨i,h,hi,by omega,by omega,rfl,rfl,hm⟩,by simp [RowKit.intOf];omega⟩
  ·have hlti:¬(i:Int)<(j:Int):=by omega
   obtain rfl:i=P:=by omega
   by_cases hin:i<n
   ·have hini:(i:Int)<(n:Int):=by omega
    obtain ⟨ka,hka⟩:∃a,a=(l.getD i (noStr,noStr)).1:=⟨_,rfl⟩
    obtain ⟨va,hva⟩:∃a,a=(l.getD i (noStr,noStr)).2:=⟨_,rfl⟩
    have HC:Hid (wr.cell? ⟨b,o+i * 2,none⟩=some (.string ka)∧wr.cell? ⟨b,o+i * 2+1,none⟩=some (.string va)):=by
     have h9:=SlP.cells HN.out (SlV.below HV.out hm.below) i (by omega)
     rw [hka,hva]
     exact h9
    obtain ⟨cm,hcm⟩:∃x,x=cmpS ka k:=⟨_,rfl⟩
    have HCM:Hid (∀_:Unit,cmpS ka k=cm):=fun _=>hcm.symm
    have hcz:decide (cm=0)=hd:=by rw [hcm,cmpS_zero,hka,HHD.out,decide_eq_true hin,Bool.true_and]
    clear hka hva hcm HHD
    cases hd with
    | true =>
     have hcz2:cm=0:=of_decide_eq_true hcz
     subst hcz2
     clear hcz
     go_wp2_with (first
      | ((with_reducible refine aM (some 43) (.indexAddr 28 (.tmp 41) (.tmp 42)) (some (4,true)) ?_);go_must (refine ae (.pointer (some ⟨b,o+i * 2,none⟩)) rfl (aV i rfl rfl rfl (by omega)) ?_))
      | ((with_reducible refine aM (some 44) (.load 44 (.tmp 43)) (some (4,true)) ?_);go_must (refine ae (.agg [.string ka,.string va].toArray) rfl (bo ka va rfl HC.out.1 HC.out.2) ?_))
      | (go_at_call 63;refine (iF ka va k _).mono ?_;rintro e w2 ⟨he,hb⟩;rw [HCM.out ()] at he;subst he;replace hm:=hm.call hb;clear hb))
     go_ret2
     exact ⟨rfl,hm.below⟩
    | false =>
     have hcz2:¬cm=0:=of_decide_eq_false hcz
     clear hcz
     go_wp2_with (first
      | ((with_reducible refine aM (some 43) (.indexAddr 28 (.tmp 41) (.tmp 42)) (some (4,true)) ?_);go_must (refine ae (.pointer (some ⟨b,o+i * 2,none⟩)) rfl (aV i rfl rfl rfl (by omega)) ?_))
      | ((with_reducible refine aM (some 44) (.load 44 (.tmp 43)) (some (4,true)) ?_);go_must (refine ae (.agg [.string ka,.string va].toArray) rfl (bo ka va rfl HC.out.1 HC.out.2) ?_))
      | (go_at_call 63;refine (iF ka va k _).mono ?_;rintro e w2 ⟨he,hb⟩;rw [HCM.out ()] at he;subst he;replace hm:=hm.call hb;clear hb))
     go_ret2
     exact ⟨by first|rfl|simp [hcz2],hm.below⟩
   ·have hini:¬(i:Int)<(n:Int):=by omega
    have hhf:=HHD.out
    rw [decide_eq_false hin,Bool.false_and] at hhf
    subst hhf
    clear HHD
    go_wp2_with fail
    go_ret2
    exact ⟨rfl,hm.below⟩
theorem bsf_none (c:Nat) (p:Option Addr) (k:ByteArray) (w:World):Calls Tryz.prog 62 #[.slice p 0 c,.string k,.func (.func 63) #[] #[]] w fun e w'=>e=.returned (.tuple #[.int .i64 0,.bool false])∧w'=w:=by
 go_enter Tryz.func62,Tryz.ntmps62
 go_wp2_with fail
 go_loopw [9,10] (fun vi vj wr=>vi=.int .i64 0∧vj=.int .i64 0∧wr=w) (fun _ _ _=>0)
 case atStart=>exact ⟨rfl,rfl,rfl⟩
 case round =>
  obtain ⟨rfl,rfl,rfl⟩:=hrel
  go_wp2_with fail
  go_ret2
  exact ⟨rfl,rfl⟩
theorem bsf_any (l:List Pr) (n c:Nat) (p:Option Addr) (k:ByteArray) (hn:l.length=n) (hnl:n≤1000) (hs:Srt l) (w:World) (hv:SlP w (.slice p n c) l):Calls Tryz.prog 62 #[.slice p n c,.string k,.func (.func 63) #[] #[]] w fun e w'=>e=.returned (.tuple #[.int .i64 (posP l k:Int),.bool (hadP l k)])∧Below w.heap.size w w':=by
 rcases Nat.eq_zero_or_pos n with h0|h0
 ·subst h0
  have hl:=List.length_eq_zero_iff.1 hn
  subst hl
  refine (bsf_none c p k w).mono ?_
  rintro e w' ⟨he,hw⟩
  subst hw
  exact ⟨he,Below.refl _ _⟩
 ·obtain ⟨b,o,hp⟩:=SlP.at hv hn h0
  exact bsf_some l n c p k hn hnl hs w hv b o hp
theorem fH (l:List Pr) (n c:Nat) (p:Option Addr) (k:ByteArray) (hn:l.length=n) (hnl:n≤1000) (hs:Srt l) (w:World) (hv:SlP w (.slice p n c) l):Calls Tryz.prog 34 #[.agg (List.toArray [.slice p n c,.slice none 0 0,.slice none 0 0]),.string k] w fun e w'=>e=.returned (.tuple #[.int .i64 (posP l k:Int),.bool (hadP l k)])∧Below w.heap.size w w':=by
 have hm:=Mem.start w
 have HV:Hid (SlP w (.slice p n c) l):=hv
 have HS:Hid (Srt l):=hs
 have HN:Hid (l.length=n):=hn
 obtain ⟨P,hP⟩:∃P,P=posP l k:=⟨_,rfl⟩
 obtain ⟨hd,hhd⟩:∃x,x=hadP l k:=⟨_,rfl⟩
 have HE:Hid (∀_:Unit,posP l k=P∧hadP l k=hd):=fun _=>⟨hP.symm,hhd.symm⟩
 rw [←hP,←hhd]
 clear hv hs hn hP hhd
 go_enter Tryz.func34,Tryz.ntmps34
 go_wp2_with (first
  | ((with_reducible refine aa (some 2) (.box 84 (.tmp 0)) ?_);refine ak [.slice p n c,.slice none 0 0,.slice none 0 0] rfl hm ?_;clear hm;intro w1 g hm)
  | ((with_reducible refine aa (some 7) (.load 28 (.tmp 6)) ?_);refine ai 0 0 (.slice p n c) hm rfl rfl bZ rfl ?_)
  | (go_at_call 62;refine (bsf_any l n c p k HN.out hnl HS.out _ (SlV.below HV.out hm.below)).mono ?_;rintro e w2 ⟨he,hb⟩;rw [(HE.out ()).1,(HE.out ()).2] at he;subst he;replace hm:=hm.call hb;clear hb))
 go_ret2
 exact ⟨rfl,hm.below⟩
end Go.Proofs.YtmlbjfklaehjnaaGreatDoor
