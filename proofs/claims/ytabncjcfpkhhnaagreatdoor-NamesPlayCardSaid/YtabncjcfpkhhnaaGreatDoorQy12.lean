import Derived.Test.YtabncjcfpkhhnaaGreatDoorQy11
import Derived.Test.YtabncjcfpkhhnaaGreatDoorQy04
import Derived.Test.YtabncjcfpkhhnaaGreatDoorQy10
set_option maxRecDepth 100000
set_option maxHeartbeats 4000000
namespace Go.Proofs.YtabncjcfpkhhnaaGreatDoor
open Go Go.RowKit Go.Maps Go.Sort
theorem cut_at {p:Nms} (h:p.Pairwise fun x y=>cd x.1<cd y.1) (c:List UInt8) (F G:Nms) (hF:F=p.filter fun y=>decide (cd y.1<c)) (hG:G=p.filter fun y => !decide (cd y.1<c)) :
  p.take F.length=F∧p.drop F.length=G∧F.length≤p.length∧∀i y,p[i]?=some y→decide (i<F.length)=decide (cd y.1<c):=by
 have e:=cut_srt h c
 rw [←hF,←hG] at e
 have mF:∀y∈F,cd y.1<c:=fun y hy=>by
  rw [hF] at hy
  simpa using (List.mem_filter.1 hy).2
 have mG:∀y∈G,¬cd y.1<c:=fun y hy=>by
  rw [hG] at hy
  simpa using (List.mem_filter.1 hy).2
 clear hF hG
 subst e
 refine ⟨List.take_left,List.drop_left,by rw [List.length_append];omega,fun i y hy=>?_⟩
 rcases Nat.lt_or_ge i F.length with hi|hi
 ·rw [List.getElem?_append_left hi] at hy
  rw [decide_eq_true hi,decide_eq_true (mF y (List.mem_of_getElem? hy))]
 ·rw [List.getElem?_append_right hi] at hy
  rw [decide_eq_false (by omega),decide_eq_false (mG y (List.mem_of_getElem? hy))]
theorem dM (s:ByteArray) (ks:List ByteArray) (h:s=tx ks) (b e:Int):Tryz.prog.built 40 [(0,.string s),(1,.int .i64 b),(2,.int .i64 e)]=some (spc ks b e).toArray:=by
 subst h
 exact bi ks b e
theorem own_atS2 {w:World} {B:Nat} {p3:Option Addr} {c3:Nat} {l:Nms} {N:Nat} (h:w.ownsRow B 40 5 (.slice p3 N c3) N (l.flatMap spv)) (hN:N=l.length) (h0:0<N) :
  ∃b tl,p3=some ⟨b,0,none⟩∧N≤c3∧B≤b∧Row w b (l.flatMap spv++tl) 40:=by
 obtain ⟨b,cap,tl,hv,hc,hb,h2⟩:=own_atS h hN (by omega)
 simp only [Value.slice.injEq] at hv
 obtain ⟨rfl,e1,rfl⟩:=hv
 exact ⟨b,tl,rfl,by omega,hb,h2⟩
section
variable {a:Act} {w:World} {dst:Option Tmp} {typ:TypeId} {pos:String} {aft:Array Edge} {gd:Option (Nat×Bool)}
theorem exec_hi0 {x hi:Operand} {b len cap:Nat} (m:Nat) {ih:Int} (hm:m≤cap) (hx:a.eval x=.slice (some ⟨b,0,none⟩) len cap) (hhi:a.eval hi=.int .i64 ih) (hih:ih=(m:Int)) :
  (execOp a.eval {dst:=dst,op:=.slice 45 x none (some hi) none,type:=typ,pos:=pos,after:=aft,guard:=gd}).run Tryz.prog w=.ok (.value (.slice (some ⟨b,0,none⟩) m cap)) w:=by
 have h:=exec_hiS (dst:=dst) (typ:=typ) (pos:=pos) (aft:=aft) (gd:=gd) (w:=w) m hm hx hhi hih
 rw [hiS_is] at h
 exact h
end
theorem addR_n {w:World} {B rb:Nat} {p:Nms} (h:RfAt B w rb p) (hB:B≤w.heap.size) (hok:NmOk p) (hpl:p.length≤80000) (s:ByteArray) (hs:s.size≤1000) (lb le e0:Int) (he0:e0=addE p s lb le) :
  Calls Tryz.prog 11 #[.pointer (some ⟨rb,0,none⟩),.string s,.int .i64 lb,.int .i64 le] w fun e_ w'=>e_=.returned (.int .i64 e0)∧RfAt B w' rb (if e0=0 then addN p (segsB s,lb,le,0,0,0,0) else p)∧Upd rb w w':=by
 have hm:=Mem.start w
 have HR:Hid (RfAt B w rb p):=h
 have HOK:Hid (NmOk p):=hok
 have HSZ:Hid (s.size≤1000):=hs
 have hrb:=h.lt
 obtain ⟨N,hN⟩:∃N,N=p.length:=⟨_,rfl⟩
 have HNP:Hid (N=p.length):=hN
 have hN9:N≤90000:=by omega
 obtain ⟨b,cap,hrow,hcap,hcell⟩:=h.cells
 rw [←hN] at hrow hcap
 have HROW:Hid (Row w rb [.slice (some ⟨b,0,none⟩) N cap] 49):=hrow
 have HCELL:Hid (∀i x,p[i]?=some x→∀j u,(spv x)[j]?=some u→b<w.heap.size∧w.cell? ⟨b,i * 5+j,none⟩=some u):=hcell
 clear hrow hcell
 obtain ⟨d,hd⟩:∃d,d=mkS (parOf (bs s)):=⟨_,rfl⟩
 obtain ⟨b0,hb0⟩:∃b,b=parOk (bs s):=⟨_,rfl⟩
 obtain ⟨ks,hks⟩:∃ks,ks=segsB s:=⟨_,rfl⟩
 have HPA:Hid (Calls Tryz.prog 30 #[.string s] w fun e w'=>e=.returned (.tuple #[.string d,.bool b0])∧Below w.heap.size w w'):=by
  have h9:=bN s w hs
  rw [←hb0,←hd] at h9
  exact h9
 obtain ⟨z1,hz1⟩:∃z,z=atN p s:=⟨_,rfl⟩
 obtain ⟨z2,hz2⟩:∃z,z=atN p d:=⟨_,rfl⟩
 obtain ⟨NK,hNK⟩:∃k,k=(kidsN p d).length:=⟨_,rfl⟩
 have HA1:Hid (∀W,Below w.heap.size w W→Calls Tryz.prog 16 #[.pointer (some ⟨rb,0,none⟩),.string s] W fun e w'=>e=.returned (.int .i64 z1)∧Below W.heap.size W w'):=fun W hW=>atR_n (HR.out.below hW) (by omega) s z1 hz1
 have HA2:Hid (∀W,Below w.heap.size w W→Calls Tryz.prog 16 #[.pointer (some ⟨rb,0,none⟩),.string d] W fun e w'=>e=.returned (.int .i64 z2)∧Below W.heap.size W w'):=fun W hW=>atR_n (HR.out.below hW) (by omega) d z2 hz2
 have HKD:Hid (∀W,Below w.heap.size w W→Calls Tryz.prog 20 #[.pointer (some ⟨rb,0,none⟩),.string d] W fun e w'=>∃p9 cap9,e=.returned (.slice p9 NK cap9)∧Below W.heap.size W w'):=fun W hW=>by
  refine (dJ (HR.out.below hW) HOK.out (by omega) d).mono ?_
  rintro e w' ⟨v,rfl,⟨p9,c9,hv,_⟩,hb⟩
  exact ⟨p9,c9,by rw [hv,hNK],hb⟩
 have hcase:(b0=false∧e0=110)∨(b0=true∧PlOk ks∧s=tx ks∧e0=if limOk lb le=false then 12 else if 0≤z1 then 101 else if z2<0 then 100 else if 2≤NK then 102 else 0)∧(0≤z1↔hasN p ks=true):=by
  rw [hb0,he0]
  unfold addE
  cases hp:isP (bs s) with
  | false=>exact Or.inl ⟨(dP hp).1,rfl⟩
  | true =>
   have hsb:segsOf (bs s)=(segsB s).map bs:=(a8 _).symm
   by_cases hq:segsB s=[]
   ·exact Or.inl ⟨(df (by rw [hsb,hq];rfl)).1,by simp [hq]⟩
   ·have okk:PlOk ks:=by rw [hks];exact aS s
    have hst:s=tx ks:=by rw [hks,tx_segs hp]
    have hkq:ks≠[]:=by rw [hks];exact hq
    have hdd:d=tx ks.dropLast:=by rw [hd,hst];exact (par_tx okk hkq).2
    have g1:getB p s=hasN p ks:=by unfold getB;rw [hp,Bool.true_and,hks]
    have g2:getB p d=hasN p ks.dropLast:=by unfold getB;rw [hdd,dd okk.drop,Bool.true_and,b6 okk.drop]
    have k1:(0≤z1↔hasN p ks=true):=by
     rw [←g1,hz1]
     rcases cA hok s with ⟨e1,e2⟩|⟨e1,i,x,_,e2,_⟩
     ·rw [e1,e2];simp
     ·rw [e1,e2];simp
    have k2:(z2<0↔hasN p ks.dropLast=false):=by
     rw [←g2,hz2]
     rcases cA hok d with ⟨e1,e2⟩|⟨e1,i,x,_,e2,_⟩
     ·rw [e1,e2];simp
     ·rw [e1,e2];simp
    refine Or.inr ⟨⟨(cu hp (by rw [hsb];simpa using hq)).1,okk,hst,?_⟩,k1⟩
    rw [if_neg (by simp),if_neg hq,←hks,←hdd,←hNK]
    by_cases c1:0≤z1
    ·rw [if_pos (k1.1 c1),if_pos c1]
    ·rw [if_neg (fun h=>c1 (k1.2 h)),if_neg c1]
     by_cases c2:z2<0
     ·rw [if_pos (k2.1 c2),if_pos c2]
     ·rw [if_neg (fun h=>c2 (k2.2 h)),if_neg c2]
 have tk1:Nat:=0
 rw [←hks]
 clear hd hb0 hks hz1 hz2 hNK he0 hok hs hpl
 rcases hcase with ⟨rfl,rfl⟩|⟨⟨rfl,okk,hst,hE⟩,hZ1⟩
 ·rw [if_neg (by omega)]
  go_enter Tryz.func11,Tryz.ntmps11
  go_wp2_with (first
   | (go_at_call 30;refine HPA.out.mono ?_;rintro e_ w' ⟨he_,hb_⟩;subst he_;replace hm:=hm.call hb_;clear hb_))
  go_ret
  exact ⟨rfl,HR.out.below hm.below,Upd.of_below hm.below⟩
 ·have HPK:Hid (PlOk ks):=okk
  have HST:Hid (s=tx ks):=hst
  have HHN:Hid (0≤z1↔hasN p ks=true):=hZ1
  clear okk hst hZ1
  by_cases c1:lb<0
  ·have e1:e0=12:=by rw [hE,if_pos (by unfold limOk;simp;omega)]
   subst e1
   rw [if_neg (by omega)]
   clear hE
   go_enter Tryz.func11,Tryz.ntmps11
   go_wp2_with (first
    | (go_at_call 30;refine HPA.out.mono ?_;rintro e_ w' ⟨he_,hb_⟩;subst he_;replace hm:=hm.call hb_;clear hb_))
   go_ret
   exact ⟨rfl,HR.out.below hm.below,Upd.of_below hm.below⟩
  ·by_cases c2:1000000<lb
   ·have e1:e0=12:=by rw [hE,if_pos (by unfold limOk;simp;omega)]
    subst e1
    rw [if_neg (by omega)]
    clear hE
    go_enter Tryz.func11,Tryz.ntmps11
    go_wp2_with (first
     | (go_at_call 30;refine HPA.out.mono ?_;rintro e_ w' ⟨he_,hb_⟩;subst he_;replace hm:=hm.call hb_;clear hb_))
    go_ret
    exact ⟨rfl,HR.out.below hm.below,Upd.of_below hm.below⟩
   ·by_cases c3:le<0
    ·have e1:e0=12:=by rw [hE,if_pos (by unfold limOk;simp;omega)]
     subst e1
     rw [if_neg (by omega)]
     clear hE
     go_enter Tryz.func11,Tryz.ntmps11
     go_wp2_with (first
      | (go_at_call 30;refine HPA.out.mono ?_;rintro e_ w' ⟨he_,hb_⟩;subst he_;replace hm:=hm.call hb_;clear hb_))
     go_ret
     exact ⟨rfl,HR.out.below hm.below,Upd.of_below hm.below⟩
    ·by_cases c4:1000000<le
     ·have e1:e0=12:=by rw [hE,if_pos (by unfold limOk;simp;omega)]
      subst e1
      rw [if_neg (by omega)]
      clear hE
      go_enter Tryz.func11,Tryz.ntmps11
      go_wp2_with (first
       | (go_at_call 30;refine HPA.out.mono ?_;rintro e_ w' ⟨he_,hb_⟩;subst he_;replace hm:=hm.call hb_;clear hb_))
      go_ret
      exact ⟨rfl,HR.out.below hm.below,Upd.of_below hm.below⟩
     ·rw [if_neg (by unfold limOk;simp;omega)] at hE
      by_cases c5:0≤z1
      ·rw [if_pos c5] at hE
       subst hE
       rw [if_neg (by omega)]
       go_enter Tryz.func11,Tryz.ntmps11
       go_wp2_with (first
        | (go_at_call 30;refine HPA.out.mono ?_;rintro e_ w' ⟨he_,hb_⟩;subst he_;replace hm:=hm.call hb_;clear hb_)
        | (go_at_call 16;refine (HA1.out _ hm.below).mono ?_;rintro e_ w' ⟨he_,hb_⟩;subst he_;replace hm:=hm.call hb_;clear hb_))
       go_ret
       exact ⟨rfl,HR.out.below hm.below,Upd.of_below hm.below⟩
      ·rw [if_neg c5] at hE
       by_cases c6:z2<0
       ·rw [if_pos c6] at hE
        subst hE
        rw [if_neg (by omega)]
        go_enter Tryz.func11,Tryz.ntmps11
        go_wp2_with (first
         | (go_at_call 30;refine HPA.out.mono ?_;rintro e_ w' ⟨he_,hb_⟩;subst he_;replace hm:=hm.call hb_;clear hb_)
         | (clear tk1;go_at_call 16;refine (HA1.out _ hm.below).mono ?_;rintro e_ w' ⟨he_,hb_⟩;subst he_;replace hm:=hm.call hb_;clear hb_)
         | (go_at_call 16;refine (HA2.out _ hm.below).mono ?_;rintro e_ w' ⟨he_,hb_⟩;subst he_;replace hm:=hm.call hb_;clear hb_))
        go_ret
        exact ⟨rfl,HR.out.below hm.below,Upd.of_below hm.below⟩
       ·rw [if_neg c6] at hE
        have c6b:0≤z2:=by omega
        by_cases c7:2≤NK
        ·have c7i:(2:Int)≤(NK:Int):=by omega
         rw [if_pos c7] at hE
         subst hE
         rw [if_neg (by omega)]
         go_enter Tryz.func11,Tryz.ntmps11
         go_wp2_with (first
          | (go_at_call 30;refine HPA.out.mono ?_;rintro e_ w' ⟨he_,hb_⟩;subst he_;replace hm:=hm.call hb_;clear hb_)
          | (clear tk1;go_at_call 16;refine (HA1.out _ hm.below).mono ?_;rintro e_ w' ⟨he_,hb_⟩;subst he_;replace hm:=hm.call hb_;clear hb_)
          | (go_at_call 16;refine (HA2.out _ hm.below).mono ?_;rintro e_ w' ⟨he_,hb_⟩;subst he_;replace hm:=hm.call hb_;clear hb_)
          | (go_at_call 20;refine (HKD.out _ hm.below).mono ?_;rintro e_ w' ⟨p9,cap9,he_,hb_⟩;subst he_;replace hm:=hm.call hb_;clear hb_))
         go_ret
         exact ⟨rfl,HR.out.below hm.below,Upd.of_below hm.below⟩
        ·have c7i:¬(2:Int)≤(NK:Int):=by omega
         rw [if_neg c7] at hE
         subst hE
         rw [if_pos rfl]
         obtain ⟨F,hF⟩:∃F,F=p.filter fun y=>decide (cd y.1<cd ks):=⟨_,rfl⟩
         obtain ⟨G,hG⟩:∃G,G=p.filter fun y => !decide (cd y.1<cd ks):=⟨_,rfl⟩
         obtain ⟨hc1,hc2,hc3,hc4⟩:=cut_at HOK.out.srt (cd ks) F G hF hG
         obtain ⟨K,hK⟩:∃K,K=F.length:=⟨_,rfl⟩
         rw [←hK] at hc1 hc2 hc3 hc4
         have HCT:Hid (p.take K=F∧p.drop K=G):=⟨hc1,hc2⟩
         have HCD:Hid (∀i y,p[i]?=some y→decide (i<K)=decide (cd y.1<cd ks)):=hc4
         have HAN:Hid (addN p (ks,lb,le,0,0,0,0)=F++(ks,lb,le,0,0,0,0)::G):=by
          have h9:addN p (ks,lb,le,0,0,0,0)=F++(ks,lb,le,0,0,0,0)::G:=by rw [hF,hG];rfl
          exact h9
         have HLA:Hid ((addN p (ks,lb,le,0,0,0,0)).length=N+1):=by
          have h9:=(d5 p (ks,lb,le,0,0,0,0)).length_eq
          rw [List.length_cons,←hN] at h9
          exact h9
         have hKN:K≤N:=by rw [hN];exact hc3
         obtain ⟨k0,hk0⟩:∃k,k=cd ks:=⟨_,rfl⟩
         have HC2:Hid (∀W,Calls Tryz.prog 31 #[.string s] W fun e w'=>e=.returned (.string (mkS k0))∧Below W.heap.size W w'):=fun W=>by
          have h3:=codeR_any s W HSZ.out
          rw [HST.out,dD HPK.out,←hk0,←HST.out] at h3
          exact h3
         have HK0:Hid (k0=cd ks):=hk0
         clear hF hG hc1 hc2 hc3 hc4 hK hN hk0
         go_enter Tryz.func11,Tryz.ntmps11
         go_wp2_with (first
          | (clear tk1;go_at_call 16;refine (HA1.out _ hm.below).mono ?_;rintro e_ w' ⟨he_,hb_⟩;subst he_;replace hm:=hm.call hb_;clear hb_)
          | (go_at_call 16;refine (HA2.out _ hm.below).mono ?_;rintro e_ w' ⟨he_,hb_⟩;subst he_;replace hm:=hm.call hb_;clear hb_)
          | (go_at_call 30;refine HPA.out.mono ?_;rintro e_ w' ⟨he_,hb_⟩;subst he_;replace hm:=hm.call hb_;clear hb_)
          | (go_at_call 20;refine (HKD.out _ hm.below).mono ?_;rintro e_ w' ⟨p9,cap9,he_,hb_⟩;subst he_;replace hm:=hm.call hb_;clear hb_))
         have HB0:Hid (Below w.heap.size w _):=hm.below
         clear hm HPA HA1 HA2 HKD c7i
         go_loopw [11] (fun vi wr=>∃i:Nat,i≤K∧vi=.int .i64 (i:Int)∧Hid (Below w.heap.size w wr)) (fun vi _=>match vi with | .int _ q=>K - q.toNat|_=>0)
         case atStart=>exact ⟨0,by omega,rfl,HB0⟩
         case round =>
          obtain ⟨i,hi,rfl,HB⟩:=hrel
          clear HB0
          have tk1:Nat:=0
          have hm:=Mem.start wr
          by_cases hiN:i<N
          ·have hlt:i<N:=hiN
           have hki:(i:Int)<(N:Int):=by omega
           have hw:IntKind.i64.wrap ((i:Int)+1)=(i:Int)+1:=bW _ (by omega) (by omega)
           obtain ⟨x,hx⟩:∃x,p[i]?=some x:=⟨p[i]'(by have:=HNP.out;omega),by simp [show i<p.length by have:=HNP.out;omega]⟩
           have HX:Hid (p[i]?=some x):=hx
           obtain ⟨y,hy⟩:∃y,y=tx x.1:=⟨_,rfl⟩
           have HYT:Hid (y=tx x.1):=hy
           have HY:Hid (wr.cell? ⟨b,i * 5,none⟩=some (.string y)):=by
            have h1:=HCELL.out i x hx 0 (.string y) (by rw [hy];rfl)
            exact (HB.out.cell (p:=⟨b,i * 5,none⟩) h1.1).trans h1.2
           have HRW:Hid (Row wr rb [.slice (some ⟨b,0,none⟩) N cap] 49):=Row.bel HROW.out HB.out
           obtain ⟨k1,hk1⟩:∃k,k=cd x.1:=⟨_,rfl⟩
           have HC1:Hid (∀W,Calls Tryz.prog 31 #[.string y] W fun e w'=>e=.returned (.string (mkS k1))∧Below W.heap.size W w'):=fun W=>by
            have okx:=HOK.out.ok x (List.mem_of_getElem? HX.out)
            have h3:=codeR_any (tx x.1) W (by have:=bu okx;omega)
            rw [dD okx,←hk1,←HYT.out] at h3
            exact h3
           have hdc:=HCD.out i x hx
           rw [←hk1,←HK0.out] at hdc
           clear hx hy
           by_cases hik:i<K
           ·have HLS:Hid (Op.bytesLess (mkS k1).toList (mkS k0).toList=true):=lss_cd k1 k0 true (by rw [←hdc,decide_eq_true hik])
            clear hdc hk1
            go_wp2_with (first
             | ((with_reducible refine aa (some 56) (.load 45 (.tmp 55)) ?_);go_must (refine ab (.slice (some ⟨b,0,none⟩) N cap) rfl (ad 0 (.slice (some ⟨b,0,none⟩) N cap) HRW.out rfl ay rfl) ?_))
             | ((with_reducible refine av (some 63) (.load 45 (.tmp 62)) (some (7,true)) ?_);go_must (refine ab (.slice (some ⟨b,0,none⟩) N cap) rfl (ad 0 (.slice (some ⟨b,0,none⟩) N cap) HRW.out rfl ay rfl) ?_))
             | ((with_reducible refine av (some 65) (.indexAddr 45 (.tmp 63) (.tmp 64)) (some (7,true)) ?_);go_must (refine ab (.pointer (some ⟨b,i * 5,none⟩)) rfl (aD 5 i aH an rfl rfl rfl hlt) ?_))
             | ((with_reducible refine av (some 67) (.load 9 (.tmp 66)) (some (7,true)) ?_);go_must (refine ab (.string y) rfl (ao (.string y) HY.out rfl ak) ?_))
             | (clear tk1;go_at_call 31;refine (HC1.out _).mono ?_;rintro e_ w' ⟨he_,hb_⟩;subst he_;replace hm:=hm.call hb_;clear hb_)
             | (go_at_call 31;refine (HC2.out _).mono ?_;rintro e_ w' ⟨he_,hb_⟩;subst he_;replace hm:=hm.call hb_;clear hb_)
             | ((with_reducible refine av (some 71) (.binOp .lss 9 (.tmp 68) (.tmp 70) 9) (some (7,true)) ?_);go_must (refine ab (.bool true) rfl (exec_lssB (mkS k1) (mkS k0) true rfl rfl HLS.out) ?_)))
            go_roundw
            case rel=>exact ⟨i+1,by omega,by go_num,HB.out.trans (hm.below.mono HB.out.size)⟩
            case measure=>show K - ((i:Int)+1).toNat<K - (i:Int).toNat;omega
           ·have HLS:Hid (Op.bytesLess (mkS k1).toList (mkS k0).toList=false):=lss_cd k1 k0 false (by rw [←hdc,decide_eq_false hik])
            have HIK:Hid (i=K):=by show i=K;omega
            clear hdc hk1
            have HON:Hid (wr.ownsRow wr.heap.size 40 5 (.slice none 0 0) 0 (([]:Nms).flatMap spv)):=⟨rfl,Or.inl ⟨rfl,rfl⟩⟩
            have HTL:Hid ((p.take i).length=i):=by
             have h9:(p.take i).length=i:=by rw [List.length_take];have:=HNP.out;omega
             exact h9
            have HDL:Hid ((p.drop i).length=N - i):=by
             have h9:(p.drop i).length=N - i:=by rw [List.length_drop,←HNP.out]
             exact h9
            have HAD:Hid ((p.take i++[(ks,lb,le,0,0,0,0)])++p.drop i=addN p (ks,lb,le,0,0,0,0)):=by
             have h9:(p.take i++[(ks,lb,le,0,0,0,0)])++p.drop i=addN p (ks,lb,le,0,0,0,0):=by rw [HAN.out,HIK.out,HCT.out.1,HCT.out.2,List.append_assoc];rfl
             exact h9
            have HSO:Hid (∀W,Below wr.heap.size wr W→SpO W (.slice (some ⟨b,0,none⟩) i cap) (p.take i)):=fun W hW=>by
             refine ⟨_,cap,by rw [HTL.out],fun _=>⟨b,0,rfl,fun k x hx j u hu=>?_⟩⟩
             have hxp:p[k]?=some x:=by
              rw [List.getElem?_take] at hx
              split at hx
              ·exact hx
              ·cases hx
             obtain ⟨q1,q2⟩:=HCELL.out k x hxp j u hu
             rw [Nat.zero_add]
             exact ((HB.out.trans (hW.mono HB.out.size)).cell (p:=⟨b,k * 5+j,none⟩) q1).trans q2
            have HSD:Hid (∀W,Below wr.heap.size wr W→SpO W (.slice (loS (some ⟨b,0,none⟩) cap i) (N - i) (cap - i)) (p.drop i)):=fun W hW=>by
             refine ⟨_,cap - i,by rw [HDL.out],fun h0=>?_⟩
             rw [HDL.out] at h0
             refine ⟨b,i * 5,loS_is (by omega),fun k x hx j u hu=>?_⟩
             rw [List.getElem?_drop] at hx
             obtain ⟨q1,q2⟩:=HCELL.out (i+k) x hx j u hu
             rw [show i * 5+(k * 5+j)=(i+k) * 5+j by omega]
             exact ((HB.out.trans (hW.mono HB.out.size)).cell (p:=⟨b,(i+k) * 5+j,none⟩) q1).trans q2
            go_wp2_with (first
             | ((with_reducible refine aa (some 56) (.load 45 (.tmp 55)) ?_);go_must (refine ab (.slice (some ⟨b,0,none⟩) N cap) rfl (ad 0 (.slice (some ⟨b,0,none⟩) N cap) HRW.out rfl ay rfl) ?_))
             | ((with_reducible refine av (some 63) (.load 45 (.tmp 62)) (some (7,true)) ?_);go_must (refine ab (.slice (some ⟨b,0,none⟩) N cap) rfl (ad 0 (.slice (some ⟨b,0,none⟩) N cap) HRW.out rfl ay rfl) ?_))
             | ((with_reducible refine av (some 65) (.indexAddr 45 (.tmp 63) (.tmp 64)) (some (7,true)) ?_);go_must (refine ab (.pointer (some ⟨b,i * 5,none⟩)) rfl (aD 5 i aH an rfl rfl rfl hlt) ?_))
             | ((with_reducible refine av (some 67) (.load 9 (.tmp 66)) (some (7,true)) ?_);go_must (refine ab (.string y) rfl (ao (.string y) HY.out rfl ak) ?_))
             | (clear tk1;go_at_call 31;refine (HC1.out _).mono ?_;rintro e_ w' ⟨he_,hb_⟩;subst he_;replace hm:=hm.call hb_;clear hb_)
             | (go_at_call 31;refine (HC2.out _).mono ?_;rintro e_ w' ⟨he_,hb_⟩;subst he_;replace hm:=hm.call hb_;clear hb_)
             | ((with_reducible refine av (some 71) (.binOp .lss 9 (.tmp 68) (.tmp 70) 9) (some (7,true)) ?_);go_must (refine ab (.bool false) rfl (exec_lssB (mkS k1) (mkS k0) false rfl rfl HLS.out) ?_))
             | ((with_reducible refine aa (some 78) (.load 45 (.tmp 77)) ?_);go_must (refine ab (.slice (some ⟨b,0,none⟩) N cap) rfl (ad 0 (.slice (some ⟨b,0,none⟩) N cap) (Row.bel HRW.out hm.below) rfl ay rfl) ?_))
             | ((with_reducible refine aa (some 80) (.slice 45 (.tmp 78) none (some (.tmp 79)) none) ?_);go_must (refine ab (.slice (some ⟨b,0,none⟩) i cap) rfl (exec_hi0 i (by omega) rfl rfl rfl) ?_))
             | ((with_reducible refine aa (some 81) (.call {callee:=.builtin .append,args:=#[.const (.slice none 0 0),.tmp 80],argTypes:=#[45,45]}) ?_);go_must (refine cE rfl (p.take i) (am HON.out hm.below) hm.size rfl rfl (HSO.out _ hm.below) HTL.out (Nat.zero_add _) (by omega) rfl ?_);intro p1 c1_ w1 ho1 hg1;have HO1:Hid (w1.ownsRow wr.heap.size 40 5 (.slice p1 i c1_) i ((p.take i).flatMap spv)):=ho1;replace hm:=hm.grownT hg1 (am HON.out hm.below) (by simp) (Nat.le_refl _);clear ho1 hg1)
             | ((with_reducible refine aa (some 85) (.build 40 #[(0,.tmp 82),(1,.tmp 83),(2,.tmp 84)]) ?_);refine az (spc ks lb le) [(0,.string s),(1,.int .i64 lb),(2,.int .i64 le)] rfl (dM s ks HST.out lb le) ?_)
             | ((with_reducible refine aa (some 86) (.buildSlice 45 1 #[(0,.tmp 85)]) ?_);go_must (refine bT (spc ks lb le) rfl rfl rfl hm ?_);clear hm;intro w6 g8 hm hb6;replace HO1:Hid (w6.ownsRow wr.heap.size 40 5 (.slice p1 i c1_) i ((p.take i).flatMap spv)):=am HO1.out hb6;clear hb6)
             | ((with_reducible refine aa (some 87) (.call {callee:=.builtin .append,args:=#[.tmp 81,.tmp 86],argTypes:=#[45,45]}) ?_);go_must (refine aW (.agg spZ.toArray) 5 48 rfl aH cQ rfl (by omega) (by omega) HO1.out hm.size rfl rfl (hm.get 0 rfl) rfl (b7 (ks,lb,le,0,0,0,0)) (by omega) ?_);intro v9 w9 ho9 hgr9 hx9;have HO2:Hid (w9.ownsRow wr.heap.size 40 5 v9 (i+1) ((p.take i++[(ks,lb,le,0,0,0,0)]).flatMap spv)):=(by rw [List.flatMap_append];show World.ownsRow _ _ _ _ _ _ _;simpa [spv,spc] using ho9);replace hm:=hm.tail.grownT hgr9 HO1.out (by simp) (Nat.le_refl _);clear ho9 hgr9 hx9)
             | ((with_reducible refine aa (some 93) (.load 45 (.tmp 92)) ?_);go_must (refine ab (.slice (some ⟨b,0,none⟩) N cap) rfl (ad 0 (.slice (some ⟨b,0,none⟩) N cap) (Row.bel HRW.out hm.below) rfl ay rfl) ?_))
             | ((with_reducible refine aa (some 95) (.slice 45 (.tmp 93) (some (.tmp 94)) none none) ?_);go_must (refine ab (.slice (loS (some ⟨b,0,none⟩) cap i) (N - i) (cap - i)) rfl (exec_loS i (by omega) rfl rfl rfl) ?_))
             | ((with_reducible refine aa (some 96) (.call {callee:=.builtin .append,args:=#[.tmp 89,.tmp 95],argTypes:=#[45,45]}) ?_);go_must (refine cE rfl (addN p (ks,lb,le,0,0,0,0)) HO2.out hm.size rfl rfl (HSD.out _ hm.below) HDL.out (N:=N+1) (by omega) (by omega) HAD.out ?_);intro p3 c3_ w3 ho3 hg3;obtain ⟨b3,tl3,hp3,hc3,hb3,hcc3⟩:=own_atS2 ho3 HLA.out.symm (by omega);subst hp3;have HC3:Hid (N+1≤c3_∧wr.heap.size≤b3∧Row w3 b3 ((addN p (ks,lb,le,0,0,0,0)).flatMap spv++tl3) 40):=⟨hc3,hb3,hcc3⟩;replace hm:=hm.grownT hg3 HO2.out (by simp) (Nat.le_refl _);clear ho3 hg3 hc3 hb3 hcc3)
             | ((with_reducible refine aa none (.store 45 (.tmp 98) (.tmp 96)) ?_);refine b4 0 0 (.slice (some ⟨b3,0,none⟩) (N+1) c3_) (Mem.enter (Row.bel HRW.out hm.below)) rfl rfl rfl sz_sps (by simp) rfl rfl ?_;intro w10 hm10))
            go_ret
            have hu9:=hm10.toUpd
            exact ⟨rfl,⟨b3,c3_,tl3,Nat.le_trans hB (Nat.le_trans HB.out.size HC3.out.2.1),by rw [HLA.out];exact hm10.get 0 rfl,by rw [HLA.out];exact HC3.out.1,hu9.row HC3.out.2.2 (by have:=HC3.out.2.1;have:=HB.out.size;show b3≠rb;omega)⟩,(Upd.of_below (HB.out.trans (hm.below.mono HB.out.size))).trans hu9⟩
          ·have hki:¬(i:Int)<(N:Int):=by omega
           have HIK:Hid (i=K):=by show i=K;omega
           have HRW:Hid (Row wr rb [.slice (some ⟨b,0,none⟩) N cap] 49):=Row.bel HROW.out HB.out
           have HON:Hid (wr.ownsRow wr.heap.size 40 5 (.slice none 0 0) 0 (([]:Nms).flatMap spv)):=⟨rfl,Or.inl ⟨rfl,rfl⟩⟩
           have HTL:Hid ((p.take i).length=i):=by
            have h9:(p.take i).length=i:=by rw [List.length_take];have:=HNP.out;omega
            exact h9
           have HDL:Hid ((p.drop i).length=N - i):=by
            have h9:(p.drop i).length=N - i:=by rw [List.length_drop,←HNP.out]
            exact h9
           have HAD:Hid ((p.take i++[(ks,lb,le,0,0,0,0)])++p.drop i=addN p (ks,lb,le,0,0,0,0)):=by
            have h9:(p.take i++[(ks,lb,le,0,0,0,0)])++p.drop i=addN p (ks,lb,le,0,0,0,0):=by rw [HAN.out,HIK.out,HCT.out.1,HCT.out.2,List.append_assoc];rfl
            exact h9
           have HSO:Hid (∀W,Below wr.heap.size wr W→SpO W (.slice (some ⟨b,0,none⟩) i cap) (p.take i)):=fun W hW=>by
            refine ⟨_,cap,by rw [HTL.out],fun _=>⟨b,0,rfl,fun k x hx j u hu=>?_⟩⟩
            have hxp:p[k]?=some x:=by
             rw [List.getElem?_take] at hx
             split at hx
             ·exact hx
             ·cases hx
            obtain ⟨q1,q2⟩:=HCELL.out k x hxp j u hu
            rw [Nat.zero_add]
            exact ((HB.out.trans (hW.mono HB.out.size)).cell (p:=⟨b,k * 5+j,none⟩) q1).trans q2
           have HSD:Hid (∀W,Below wr.heap.size wr W→SpO W (.slice (loS (some ⟨b,0,none⟩) cap i) (N - i) (cap - i)) (p.drop i)):=fun W hW=>by
            refine ⟨_,cap - i,by rw [HDL.out],fun h0=>?_⟩
            rw [HDL.out] at h0
            refine ⟨b,i * 5,loS_is (by omega),fun k x hx j u hu=>?_⟩
            rw [List.getElem?_drop] at hx
            obtain ⟨q1,q2⟩:=HCELL.out (i+k) x hx j u hu
            rw [show i * 5+(k * 5+j)=(i+k) * 5+j by omega]
            exact ((HB.out.trans (hW.mono HB.out.size)).cell (p:=⟨b,(i+k) * 5+j,none⟩) q1).trans q2
           go_wp2_with (first
            | ((with_reducible refine aa (some 56) (.load 45 (.tmp 55)) ?_);go_must (refine ab (.slice (some ⟨b,0,none⟩) N cap) rfl (ad 0 (.slice (some ⟨b,0,none⟩) N cap) HRW.out rfl ay rfl) ?_))
            | ((with_reducible refine aa (some 78) (.load 45 (.tmp 77)) ?_);go_must (refine ab (.slice (some ⟨b,0,none⟩) N cap) rfl (ad 0 (.slice (some ⟨b,0,none⟩) N cap) (Row.bel HRW.out hm.below) rfl ay rfl) ?_))
            | ((with_reducible refine aa (some 80) (.slice 45 (.tmp 78) none (some (.tmp 79)) none) ?_);go_must (refine ab (.slice (some ⟨b,0,none⟩) i cap) rfl (exec_hi0 i (by omega) rfl rfl rfl) ?_))
            | ((with_reducible refine aa (some 81) (.call {callee:=.builtin .append,args:=#[.const (.slice none 0 0),.tmp 80],argTypes:=#[45,45]}) ?_);go_must (refine cE rfl (p.take i) (am HON.out hm.below) hm.size rfl rfl (HSO.out _ hm.below) HTL.out (Nat.zero_add _) (by omega) rfl ?_);intro p1 c1_ w1 ho1 hg1;have HO1:Hid (w1.ownsRow wr.heap.size 40 5 (.slice p1 i c1_) i ((p.take i).flatMap spv)):=ho1;replace hm:=hm.grownT hg1 (am HON.out hm.below) (by simp) (Nat.le_refl _);clear ho1 hg1)
            | ((with_reducible refine aa (some 85) (.build 40 #[(0,.tmp 82),(1,.tmp 83),(2,.tmp 84)]) ?_);refine az (spc ks lb le) [(0,.string s),(1,.int .i64 lb),(2,.int .i64 le)] rfl (dM s ks HST.out lb le) ?_)
            | ((with_reducible refine aa (some 86) (.buildSlice 45 1 #[(0,.tmp 85)]) ?_);go_must (refine bT (spc ks lb le) rfl rfl rfl hm ?_);clear hm;intro w6 g8 hm hb6;replace HO1:Hid (w6.ownsRow wr.heap.size 40 5 (.slice p1 i c1_) i ((p.take i).flatMap spv)):=am HO1.out hb6;clear hb6)
            | ((with_reducible refine aa (some 87) (.call {callee:=.builtin .append,args:=#[.tmp 81,.tmp 86],argTypes:=#[45,45]}) ?_);go_must (refine aW (.agg spZ.toArray) 5 48 rfl aH cQ rfl (by omega) (by omega) HO1.out hm.size rfl rfl (hm.get 0 rfl) rfl (b7 (ks,lb,le,0,0,0,0)) (by omega) ?_);intro v9 w9 ho9 hgr9 hx9;have HO2:Hid (w9.ownsRow wr.heap.size 40 5 v9 (i+1) ((p.take i++[(ks,lb,le,0,0,0,0)]).flatMap spv)):=(by rw [List.flatMap_append];show World.ownsRow _ _ _ _ _ _ _;simpa [spv,spc] using ho9);replace hm:=hm.tail.grownT hgr9 HO1.out (by simp) (Nat.le_refl _);clear ho9 hgr9 hx9)
            | ((with_reducible refine aa (some 93) (.load 45 (.tmp 92)) ?_);go_must (refine ab (.slice (some ⟨b,0,none⟩) N cap) rfl (ad 0 (.slice (some ⟨b,0,none⟩) N cap) (Row.bel HRW.out hm.below) rfl ay rfl) ?_))
            | ((with_reducible refine aa (some 95) (.slice 45 (.tmp 93) (some (.tmp 94)) none none) ?_);go_must (refine ab (.slice (loS (some ⟨b,0,none⟩) cap i) (N - i) (cap - i)) rfl (exec_loS i (by omega) rfl rfl rfl) ?_))
            | ((with_reducible refine aa (some 96) (.call {callee:=.builtin .append,args:=#[.tmp 89,.tmp 95],argTypes:=#[45,45]}) ?_);go_must (refine cE rfl (addN p (ks,lb,le,0,0,0,0)) HO2.out hm.size rfl rfl (HSD.out _ hm.below) HDL.out (N:=N+1) (by omega) (by omega) HAD.out ?_);intro p3 c3_ w3 ho3 hg3;obtain ⟨b3,tl3,hp3,hc3,hb3,hcc3⟩:=own_atS2 ho3 HLA.out.symm (by omega);subst hp3;have HC3:Hid (N+1≤c3_∧wr.heap.size≤b3∧Row w3 b3 ((addN p (ks,lb,le,0,0,0,0)).flatMap spv++tl3) 40):=⟨hc3,hb3,hcc3⟩;replace hm:=hm.grownT hg3 HO2.out (by simp) (Nat.le_refl _);clear ho3 hg3 hc3 hb3 hcc3)
            | ((with_reducible refine aa none (.store 45 (.tmp 98) (.tmp 96)) ?_);refine b4 0 0 (.slice (some ⟨b3,0,none⟩) (N+1) c3_) (Mem.enter (Row.bel HRW.out hm.below)) rfl rfl rfl sz_sps (by simp) rfl rfl ?_;intro w10 hm10))
           go_ret
           have hu9:=hm10.toUpd
           exact ⟨rfl,⟨b3,c3_,tl3,Nat.le_trans hB (Nat.le_trans HB.out.size HC3.out.2.1),by rw [HLA.out];exact hm10.get 0 rfl,by rw [HLA.out];exact HC3.out.1,hu9.row HC3.out.2.2 (by have:=HC3.out.2.1;have:=HB.out.size;show b3≠rb;omega)⟩,(Upd.of_below (HB.out.trans (hm.below.mono HB.out.size))).trans hu9⟩
open Go Go.ChangeShapes Go.WideShapes Go.ChangeAt Go.RowKit
theorem cy:Tryz.prog.underlying 22=some (.slice 29):=Tryz.underlying22
theorem un_stp:∃fs,Tryz.prog.underlying 29=some (.struct fs)∧(fs[0]?).map (fun f=>(f.type,f.offset))=some (3,0)∧(fs[1]?).map (fun f=>(f.type,f.offset))=some (9,1)∧(fs[2]?).map (fun f=>(f.type,f.offset))=some (3,2)∧(fs[3]?).map (fun f=>(f.type,f.offset))=some (3,3)∧fs.size=4 :=
 ⟨match Tryz.prog.underlying 29 with|some (.struct fs)=>fs|_=>#[],by kernel_rfl,by kernel_rfl,by kernel_rfl,by kernel_rfl,by kernel_rfl,by kernel_rfl⟩
theorem un_intS:Tryz.prog.underlying 3=some (.int .i64):=Tryz.underlying3
theorem cells_stp:Tryz.prog.cellsOf 29=4:=by kernel_rfl
theorem db:Tryz.prog.cellsOf 3=1:=by kernel_rfl
theorem cells_strE:Tryz.prog.cellsOf 9=1:=by kernel_rfl
theorem info_stp:(Tryz.prog.info? 29).map (fun i=>(i.zero,i.size))=some (some (.agg [Value.int .i64 0,.string noStr,.int .i64 0,.int .i64 0].toArray),4):=by kernel_rfl
theorem cS:∀w,(zeroValue 29).run Tryz.prog w=.ok (.agg [Value.int .i64 0,.string noStr,.int .i64 0,.int .i64 0].toArray) w:=(zero_of_info info_stp).1
theorem bD:(Tryz.prog.info? 29).map (·.size)=some 4:=(zero_of_info info_stp).2
theorem dC:Tryz.prog.underlying 29=some (.struct (Tryz.prog.fieldsOf 29)):=by kernel_rfl
structure Stp where
 wh:Int
 path:ByteArray
 b:Int
 e:Int
def stp0:Stp:=⟨0,noStr,0,0⟩
def Stp.row (x:Stp):List Value:=[.int .i64 x.wh,.string x.path,.int .i64 x.b,.int .i64 x.e]
theorem Stp.one (x:Stp):∀v∈x.row,v.oneCell'=true:=by intro v hv;simp [Stp.row] at hv;rcases hv with rfl|rfl|rfl|rfl<;>rfl
structure Stp.Good (x:Stp) (_W:World):Prop where
 any:x.wh=x.wh
theorem open_stp {H:Type} {enc:TypeId×Value→H} {W:World} {cs:List Value} {n:Nat} {x:DataW H×List MemPlace} (hf:DataW.trod enc Tryz.prog W 0 (fun _=>true) true n 29 cs=some x):∃s:Stp,cs=s.row∧s.Good W:=by
 obtain ⟨fs,hu,h0,h1,h2,h3,hsz⟩:=un_stp
 obtain ⟨xs,m,rfl,_,hl,hxl,hget⟩:=DataW.trod_struct hu hf
 rw [cells_stp] at hl
 have key:∀(i:Nat) (T:TypeId),(fs[i]?).map (fun f=>(f.type,f.offset))=some (T,i)→Tryz.prog.cellsOf T=1→i<4→∃y c,cs[i]?=some c∧DataW.trod enc Tryz.prog W 0 (fun _=>true) true m T [c]=some y:=by
  intro i T hi hc hi5
  obtain ⟨f,hf1,hf2⟩:=Option.map_eq_some_iff.1 hi
  simp only [Prod.mk.injEq] at hf2
  obtain ⟨rfl,hfo⟩:=hf2
  have hg:=hget i f hf1
  rw [hc,hfo] at hg
  have hx:xs[i]?=some (xs[i]'(by omega)):=by simp [show i<xs.length by omega]
  rw [hx] at hg
  have hc1:cs[i]?=some (cs[i]'(by omega)):=by simp [show i<cs.length by omega]
  have hd:(cs.drop i).take 1=[cs[i]'(by omega)]:=by
   rw [List.drop_eq_getElem_cons (show i<cs.length by omega)]
   rfl
  rw [hd] at hg
  exact ⟨_,_,hc1,hg⟩
 obtain ⟨y0,c0,e0,t0⟩:=key 0 _ h0 db (by omega)
 obtain ⟨y1,c1,e1,t1⟩:=key 1 _ h1 cells_strE (by omega)
 obtain ⟨y2,c2,e2,t2⟩:=key 2 _ h2 db (by omega)
 obtain ⟨y3,c3,e3,t3⟩:=key 3 _ h3 db (by omega)
 obtain ⟨z0,g0,_,_⟩:=DataW.trod_int un_intS t0
 obtain ⟨z1,g1,_,_⟩:=DataW.trod_string aq t1
 obtain ⟨z2,g2,_,_⟩:=DataW.trod_int un_intS t2
 obtain ⟨z3,g3,_,_⟩:=DataW.trod_int un_intS t3
 simp only [List.cons.injEq,and_true] at g0 g1 g2 g3
 subst g0 g1 g2 g3
 refine ⟨⟨z0,z1,z2,z3⟩,?_,⟨rfl⟩⟩
 match cs,hl,e0,e1,e2,e3 with
 | [a,b,c,d],_,e0,e1,e2,e3 =>
  simp only [List.getElem?_cons_zero,List.getElem?_cons_succ,Option.some.injEq] at e0 e1 e2 e3
  subst e0 e1 e2 e3
  rfl
theorem open_stps {H:Type} {enc:TypeId×Value→H} {W:World} {base:Nat} {v:Value} {d:DataW H} {ps:List MemPlace} (hok:Value.okWide Tryz.prog W .any base 22 v) (h:DataW.Trod enc Tryz.prog W 0 (fun _=>true) true 22 v d ps) :
  ∃(p:Option Addr) (len cap b o:Nat) (X:Nat→Stp),v=.slice p len cap∧(0<len→p=some ⟨b,o,none⟩) ∧
   ∀i,i<len→(∀j u,(X i).row[j]?=some u→W.cell? ⟨b,o+i * 4+j,none⟩=some u)∧(X i).Good W:=by
 obtain ⟨a,len,cap,rfl⟩:=okWide_slice cy hok
 obtain ⟨fuel,hf⟩:=h
 rcases Go.Deep.open_slice cy hf with ⟨hcs,_⟩|⟨x,l,c,m,n,D,Pl,hcs,_,hl,_,hm,_,hel⟩
 ·simp [Value.cells] at hcs
  obtain ⟨rfl,rfl,rfl⟩:=hcs
  exact ⟨none,0,0,0,0,fun _=>stp0,rfl,fun h=>absurd h (by omega),fun i hi=>absurd hi (by omega)⟩
 ·simp [Value.cells] at hcs
  obtain ⟨rfl,rfl,rfl⟩:=hcs
  have hm':m=cap:=by simpa using hm
  rw [cells_stp] at hel
  by_cases h0:0<len
  ·obtain ⟨b,o,spot⟩:=x
   have hspot:spot=none:=by
    obtain ⟨cs',h1,_⟩:=hel 0 (by omega)
    obtain ⟨_,h2,h3⟩:=World.cells?_some h1
    have h4:=h3 0 (by omega)
    rw [List.getElem?_eq_getElem (by omega)] at h4
    simpa [Addr.add] using World.cell?_spot h4
   subst hspot
   haveI:Inhabited Stp:=⟨stp0⟩
   obtain ⟨f,hf⟩:=Go.Deep.choose_lt (α:=Stp) (n:=len) (p:=fun i t=>(∀j u,t.row[j]?=some u→W.cell? ⟨b,o+i * 4+j,none⟩=some u)∧t.Good W)
    (fun i hi=>by
     obtain ⟨cs',h1,h2⟩:=hel i (by omega)
     obtain ⟨s,hs,hg⟩:=open_stp h2
     obtain ⟨_,h3,h4⟩:=World.cells?_some h1
     refine ⟨s,fun j u hu=>?_,hg⟩
     rw [←hs] at hu
     have hj:j<4:=by have:=(List.getElem?_eq_some_iff.1 hu).1;omega
     have h5:=h4 j hj
     rw [aZ,aZ] at h5
     rw [h5]
     exact hu)
   exact ⟨_,len,cap,b,o,f,rfl,fun _=>rfl,hf⟩
  ·exact ⟨some x,len,cap,0,0,fun _=>stp0,rfl,fun h=>absurd h h0,fun i hi=>absurd hi (by omega)⟩
open Go Go.RowKit Go.Maps
structure PlS (w wr:World) (nb m rb c g:Nat) (p q:Nms) (R:List Value):Prop where
 bel:Below w.heap.size w wr
 names:NmAt wr nb m c p
 ref:RfAt w.heap.size wr rb q
 row:Row wr g R 29
 hm:w.heap.size≤m
 hr:w.heap.size≤rb
 ne:g≠rb
theorem PlS.below {w wr w':World} {nb m rb c g:Nat} {p q:Nms} {R:List Value} (h:PlS w wr nb m rb c g p q R) (hb:Below wr.heap.size wr w'):PlS w w' nb m rb c g p q R :=
 ⟨aw h.bel h.bel.size hb,h.names.below hb,h.ref.below hb,Row.bel h.row hb,h.hm,h.hr,h.ne⟩
theorem PlS.updM {w wr w':World} {nb m rb c c' g:Nat} {p p' q:Nms} {R:List Value} (h:PlS w wr nb m rb c g p q R) (hn:NmAt w' nb m c' p') (hu:Upd m wr w'):PlS w w' nb m rb c' g p' q R:=by
 obtain ⟨es,cl,hes⟩:=h.names.isMap
 exact ⟨aM h.bel hu h.hm h.bel.size,hn,h.ref.updO hes hu,hu.row h.row (aJ h.row hes),h.hm,h.hr,h.ne⟩
theorem PlS.updR {w wr w':World} {nb m rb c g:Nat} {p q q':Nms} {R:List Value} (h:PlS w wr nb m rb c g p q R) (hn:RfAt w.heap.size w' rb q') (hu:Upd rb wr w'):PlS w w' nb m rb c g p q' R :=
 ⟨aM h.bel hu h.hr h.bel.size,h.names.updR h.ref hu,hn,hu.row h.row h.ne,h.hm,h.hr,h.ne⟩
theorem PlS.mono {w wr:World} {nb m rb c c' g:Nat} {p q:Nms} {R:List Value} (h:PlS w wr nb m rb c g p q R) (hc:c≤c'):PlS w wr nb m rb c' g p q R :=
 ⟨h.bel,h.names.mono hc,h.ref,h.row,h.hm,h.hr,h.ne⟩
structure ClS (w wr:World) (nb m rb c:Nat) (p:Nms) (nb2 m2 c2:Nat) (q:Nms):Prop where
 bel:Below w.heap.size w wr
 names:NmAt wr nb m c p
 ref:RfAt w.heap.size wr rb p
 cop:NmAt wr nb2 m2 c2 q
 h2:w.heap.size≤m2
 n1:m2≠nb
 n2:m2≠m
theorem ClS.below {w wr w':World} {nb m rb c nb2 m2 c2:Nat} {p q:Nms} (h:ClS w wr nb m rb c p nb2 m2 c2 q) (hb:Below wr.heap.size wr w'):ClS w w' nb m rb c p nb2 m2 c2 q :=
 ⟨aw h.bel h.bel.size hb,h.names.below hb,h.ref.below hb,h.cop.below hb,h.h2,h.n1,h.n2⟩
theorem ClS.upd {w wr w':World} {nb m rb c nb2 m2 c2 c3:Nat} {p q q':Nms} (h:ClS w wr nb m rb c p nb2 m2 c2 q) (hn:NmAt w' nb2 m2 c3 q') (hu:Upd m2 wr w'):ClS w w' nb m rb c p nb2 m2 c3 q':=by
 obtain ⟨es,cl,hes⟩:=h.cop.isMap
 exact ⟨aM h.bel hu h.h2 h.bel.size,h.names.updO hu h.n1 h.n2,h.ref.updO hes hu,hn,h.h2,h.n1,h.n2⟩
theorem ClS.start {w wr w':World} {nb m rb c nb2 m2:Nat} {p:Nms} (hb0:Below w.heap.size w wr) (hn:NmAt wr nb m c p) (hr:RfAt w.heap.size wr rb p) (h2:wr.heap.size≤m2) (hc:NmAt w' nb2 m2 c p) (hb:Below wr.heap.size wr w'):ClS w w' nb m rb c p nb2 m2 c p :=
 ⟨aw hb0 hb0.size hb,hn.below hb,hr.below hb,hc,Nat.le_trans hb0.size h2,by have:=Row.lt hn.row;omega,by have:=hn.lt;omega⟩
theorem add_x {w:World} {nb m c:Nat} {p:Nms} (h:NmAt w nb m c p) (hcc:c≤80000) (s:ByteArray) (hs:s.size≤1000) (hM:MaxL w) (b e:Int) :
  Calls Tryz.prog 10 #[.pointer (some ⟨nb,0,none⟩),.string s,.int .i64 b,.int .i64 e] w fun e_ w'=>∃z q,e_=.returned (.int .i64 z)∧NmAt w' nb m (c+1) q∧q.length≤p.length+1∧Upd m w w':=by
 refine (add_n h hcc s hs hM b e _ rfl).mono ?_
 rintro e_ w' ⟨rfl,h1,h2⟩
 exact ⟨_,_,rfl,h1,addIf_len p s b e,h2⟩
theorem rem_x {w:World} {nb m c:Nat} {p:Nms} (h:NmAt w nb m c p) (hcc:c≤80000) (hpl:p.length≤80000) (s:ByteArray) (hs:s.size≤1000) (hM:MaxL w) :
  Calls Tryz.prog 12 #[.pointer (some ⟨nb,0,none⟩),.string s] w fun e_ w'=>∃v z q,e_=.returned (.tuple #[v,.int .i64 z])∧NmAt w' nb m c q∧Upd m w w':=by
 refine (rem_n h hcc hpl s hs hM _ rfl).mono ?_
 rintro e_ w' ⟨v,rfl,_,h1,h2⟩
 exact ⟨v,_,_,rfl,h1,h2⟩
theorem StN.below {B:Nat} {w w':World} {v:Value} {L:List ByteArray} (h:StN B w v L) (hb:Below w.heap.size w w'):StN B w' v L:=by
 obtain ⟨p,cap,hv,hc⟩:=h
 refine ⟨p,cap,hv,fun h0=>?_⟩
 obtain ⟨b,h1,h2,h3,h4⟩:=hc h0
 exact ⟨b,h1,h2,Nat.lt_of_lt_of_le h3 hb.size,fun i x hx=>(hb.cell (p:=⟨b,i,none⟩) h3).trans (h4 i x hx)⟩
def RfB (w:World) (rb:Nat) (p:Nms) (b cap:Nat):Prop :=
 Row w rb [.slice (some ⟨b,0,none⟩) p.length cap] 49∧p.length≤cap∧∀i x,p[i]?=some x→∀j u,(spv x)[j]?=some u→b<w.heap.size∧w.cell? ⟨b,i * 5+j,none⟩=some u
theorem RfAt.open {B:Nat} {w:World} {rb:Nat} {p:Nms} (h:RfAt B w rb p):∃b cap,RfB w rb p b cap:=h.cells
theorem RfB.below {w w':World} {rb b cap:Nat} {p:Nms} (h:RfB w rb p b cap) (hb:Below w.heap.size w w'):RfB w' rb p b cap:=by
 obtain ⟨h1,h2,h3⟩:=h
 refine ⟨Row.bel h1 hb,h2,fun i x hx j u hu=>?_⟩
 obtain ⟨h4,h5⟩:=h3 i x hx j u hu
 exact ⟨Nat.lt_of_lt_of_le h4 hb.size,(hb.cell (p:=⟨b,i * 5+j,none⟩) h4).trans h5⟩
theorem getV5 (p:Nms) (s:ByteArray):(getV p s).length=5:=by
 unfold getV
 split
 ·exact lookV5 _ _
 ·rfl
theorem dZ (p:Nms) (s:ByteArray):∀v∈getV p s,v.oneCell'=true:=by
 unfold getV
 split
 ·exact lookV_one _ _
 ·exact aY [] 0 0
theorem remL_len (p:Nms) (s:ByteArray) (z:Int):(remL p s z).length≤p.length:=by
 unfold remL
 split
 ·rw [List.length_map];exact List.length_filter_le _ _
 ·exact Nat.zero_le _
end Go.Proofs.YtabncjcfpkhhnaaGreatDoor
