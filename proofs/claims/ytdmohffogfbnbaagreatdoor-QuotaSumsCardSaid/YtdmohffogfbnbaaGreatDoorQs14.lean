import Derived.Test.YtdmohffogfbnbaaGreatDoorQs12
import Derived.Test.YtdmohffogfbnbaaGreatDoorQs13
import Derived.Test.YtdmohffogfbnbaaGreatDoorQs07
set_option maxRecDepth 100000
set_option maxHeartbeats 4000000
namespace Go.Proofs.YtdmohffogfbnbaaGreatDoor
open Go Go.RowKit Go.Maps
section
variable {P:Program} {kT:TypeId} {ops:Array Oper} {rest:List Oper} {a:Act} {w w0 w1:World} {Q:Exit→Act→World→Prop} {dst:Option Tmp} {typ:TypeId} {pos:String} {aft:Array Edge} {gd:Option (Nat×Bool)} {S:List Nat} {rows:List (Nat×List Value×TypeId)}
theorem cA {t e:TypeId} {x ix:Operand} {b o n cap:Nat} (K i:Nat) {ii:Int} (hu:P.underlying t=some (.slice e)) (hs:(P.info? e).map (·.size)=some K) (hx:a.eval x=.slice (some ⟨b,o,none⟩) n cap) (hix:a.eval ix=.int .i64 ii) (hii:ii=(i:Int)) (hi:i<n) :
  (execOp a.eval {dst:=dst,op:=.indexAddr t x ix,type:=typ,pos:=pos,after:=aft,guard:=gd}).run P w=.ok (.value (.pointer (some ⟨b,o+i * K,none⟩))) w:=by
 subst hii
 have h0:(0:Int)≤(i:Int)∧(i:Int)<(n:Int):=by omega
 have hsz:(sizeOf e).run P w=.ok K w:=by
  cases hq:P.info? e with
  | none=>simp [hq] at hs
  | some q =>
   have hs1:q.size=K:=by simpa [hq] using hs
   simp [sizeOf,typeInfo,hq,hs1]
 unfold execOp
 simp [hx,hix,Instr.indexAt,asIntOf,run_underlying hu,hsz,h0,bi]
 omega
end
structure SuS (w wr:World) (lb nb m c g:Nat) (p:Nms) (oB oE:List ByteArray→Int) (R:List Value):Prop where
 bel:Below w.heap.size w wr
 hw:w.heap.size≤m
 st:QtS wr lb nb m c p oB oE
 row:Row wr g R 31
theorem SuS.below {w wr w':World} {lb nb m c g:Nat} {p:Nms} {oB oE:List ByteArray→Int} {R:List Value} (h:SuS w wr lb nb m c g p oB oE R) (hb:Below wr.heap.size wr w'):SuS w w' lb nb m c g p oB oE R :=
 ⟨aJ h.bel h.bel.size hb,h.hw,h.st.below hb,Row.bel h.row hb⟩
theorem SuS.upd {w wr w':World} {lb nb m c c' g:Nat} {p p':Nms} {oB oE oB' oE':List ByteArray→Int} {R:List Value} (h:SuS w wr lb nb m c g p oB oE R) (hn:QtS w' lb nb m c' p' oB' oE') (hu:Upd m wr w'):SuS w w' lb nb m c' g p' oB' oE' R:=by
 obtain ⟨es,cl,hes⟩:=h.st.isMap
 exact ⟨aY h.bel hu h.hw h.bel.size,h.hw,hn,hu.row h.row (aB h.row hes)⟩
theorem au (x:Sp):(spv x)[1]?=some (.int .i64 (lmB x))∧(spv x)[2]?=some (.int .i64 (lmE x))∧(spv x)[3]?=some (.int .i64 (usB x))∧(spv x)[4]?=some (.int .i64 (usE x))∧(spv x)[0]?=some (.string (tx x.1)):=⟨rfl,rfl,rfl,rfl,rfl⟩
theorem qsums_walk (pp:Option Addr) (n cap b o:Nat) (X:Nat→Stp) (w:World) (hp:0<n→pp=some ⟨b,o,none⟩) (hX:∀i,i<n→∀j u,(X i).row[j]?=some u→w.cell? ⟨b,o+i * 4+j,none⟩=some u) (hM:MaxL w) :
  Calls Tryz.prog 4 #[.slice pp n cap] w fun e w'=>e=.returned (.bool true)∧Below w.heap.size w w':=by
 have hm:=Mem.start w
 have HM:Hid (MaxL w):=hM
 have HX:Hid (∀i,i<n→∀j u,(X i).row[j]?=some u→b<w.heap.size∧w.cell? ⟨b,o+i * 4+j,none⟩=some u):=fun i hi j u hu=>by
  have h1:=hX i hi j u hu
  exact ⟨block_lt_of_cell h1,h1⟩
 clear hM hX
 by_cases hn:40<n
 ·have hni:(40:Int)<(n:Int):=by omega
  clear hp HX
  go_enter Tryz.func4,Tryz.ntmps4
  go_wp2_with (first
   | (go_at_call 6;refine (dx _ (HM.out.below hm.below)).mono ?_;rintro e w1 ⟨he,hb⟩;subst he;replace hm:=hm.call hb;clear hb))
  go_ret
  exact ⟨rfl,hm.below⟩
 ·have hni:¬(40:Int)<(n:Int):=by omega
  have hn4:n≤40:=by omega
  clear hn
  go_enter Tryz.func4,Tryz.ntmps4
  go_wp2_with (first
   | (go_at_call 6;refine (dx _ (HM.out.below hm.below)).mono ?_;rintro e w1 ⟨he,hb⟩;subst he;replace hm:=hm.call hb;clear hb)
   | (go_at_call 8;refine (new_n (60) (20) _).mono ?_;rintro e w2 ⟨nb,m,he,hwn,hwm,hn,hb⟩;subst he;have HB:Hid (Below w.heap.size w w2):=hm.below.trans (hb.mono hm.size);replace hwm:w.heap.size≤m:=Nat.le_trans hm.size hwm;have hm0:0<m:=Nat.lt_of_lt_of_le HM.out.lt0 hwm;have HN:Hid (NmAt w2 nb m 1 (newN (60) (20))):=hn;have HM2:Hid (MaxL w2):=HM.out.below HB.out;clear hm;have hm:=Mem.start w2;clear hn hb hwn)
   | (go_at_call 7;refine (newL_s _ HN.out (QtOk.new 60 20) HM2.out hm0).mono ?_;rintro e w3 ⟨lb,he,hs,hb⟩;subst he;have HS0:Hid (Below w.heap.size w w3∧QtS w3 lb nb m (0+1) (newN 60 20) (fun _=>0) (fun _=>0)∧((newN 60 20)).length≤0+1):=⟨aJ HB.out HB.out.size hb,hs,Nat.le_refl _⟩;clear hm HB HN HM2 hb hs))
  go_loopw [4] (fun vi wr=>∃i:Nat,i≤n∧vi=.int .i64 (i:Int)∧∃(p:Nms) (oB oE:List ByteArray→Int),Hid (Below w.heap.size w wr∧QtS wr lb nb m (i+1) p oB oE∧(p).length≤i+1)) (fun vi _=>match vi with | .int _ q=>n - q.toNat|_=>0)
  case atStart=>exact ⟨0,by omega,rfl,_,_,_,HS0⟩
  case round =>
   clear HS0
   obtain ⟨i,hi,rfl,p,oB,oE,HS0⟩:=hrel
   by_cases hlt:i<n
   ·have hki:(i:Int)<(n:Int):=by omega
    have hw:IntKind.i64.wrap ((i:Int)+1)=(i:Int)+1:=cr _ (by omega) (by omega)
    have hpp:=hp (by omega)
    subst hpp
    have hm:=Mem.start wr
    obtain ⟨R,hR⟩:∃R,R=(X i).row:=⟨_,rfl⟩
    obtain ⟨wh,hwh⟩:∃x,x=(X i).wh:=⟨_,rfl⟩
    obtain ⟨s,hs⟩:∃x,x=(X i).path:=⟨_,rfl⟩
    obtain ⟨lb2,hlb⟩:∃x,x=(X i).b:=⟨_,rfl⟩
    obtain ⟨le,hle⟩:∃x,x=(X i).e:=⟨_,rfl⟩
    have HR0:Hid (R[0]?=some (.int .i64 wh)):=by show R[0]?=some (.int .i64 wh);rw [hR,hwh];rfl
    have HR1:Hid (R[1]?=some (.string s)):=by show R[1]?=some (.string s);rw [hR,hs];rfl
    have HR2:Hid (R[2]?=some (.int .i64 lb2)):=by show R[2]?=some (.int .i64 lb2);rw [hR,hlb];rfl
    have HR3:Hid (R[3]?=some (.int .i64 le)):=by show R[3]?=some (.int .i64 le);rw [hR,hle];rfl
    have HRL:Hid (R.length=4):=by show R.length=4;rw [hR];rfl
    have HRO:Hid (∀v∈R,v.oneCell'=true):=by show ∀v∈R,v.oneCell'=true;rw [hR];exact Stp.one _
    have HRC:Hid (∀j u,R[j]?=some u→wr.cell? ⟨b,o+i * 4+j,none⟩=some u):=fun j u hu=>by
     have h1:=HX.out i hlt j u (by rw [←hR];exact hu)
     exact (HS0.out.1.cell (p:=⟨b,o+i * 4+j,none⟩) h1.1).trans h1.2
    clear hR hwh hs hlb hle
    by_cases h60:60<s.size
    ·have h60i:(60:Int)<(s.size:Int):=by omega
     clear h60
     go_wp2_with (first
      | ((with_reducible refine aa (some 29) (.indexAddr 22 (.tmp 27) (.tmp 28)) ?_);go_must (refine ab (.pointer (some ⟨b,o+i * 4,none⟩)) rfl (cA 4 i cB bC rfl rfl rfl hlt) ?_))
      | ((with_reducible refine aa (some 30) (.load 31 (.tmp 29)) ?_);go_must (refine ab (.agg R.toArray) rfl (bg (o+i * 4) 4 R _ rfl HRC.out dM rfl bC HRL.out) ?_))
      | ((with_reducible refine aa (some 5) (.alloc 31) ?_);refine ad _ cT hm ?_;clear hm;intro w3 g5 hm)
      | ((with_reducible refine aa none (.store 31 (.tmp 5) (.tmp 30)) ?_);refine af 0 R hm rfl rfl rfl 4 bC rfl HRL.out HRO.out ?_;clear hm;intro w4 hm;have HS:Hid (SuS w w4 lb nb m (i+1) g5 p oB oE R):=⟨aJ HS0.out.1 HS0.out.1.size hm.below,hwm,HS0.out.2.1.below hm.below,hm.get 0 rfl⟩;clear hm)
      | ((with_reducible refine aa (some 32) (.load 9 (.tmp 31)) ?_);go_must (refine ab (.string s) rfl (ae 1 (.string s) HS.out.row rfl aq HR1.out) ?_)))
     go_ret
     exact ⟨rfl,HS.out.bel⟩
    ·have h60i:¬(60:Int)<(s.size:Int):=by omega
     have HSZ:Hid (s.size≤1000):=by show s.size≤1000;omega
     clear h60
     by_cases h3:wh≤3
     ·skip
      go_wp2_with (first
       | ((with_reducible refine aa (some 29) (.indexAddr 22 (.tmp 27) (.tmp 28)) ?_);go_must (refine ab (.pointer (some ⟨b,o+i * 4,none⟩)) rfl (cA 4 i cB bC rfl rfl rfl hlt) ?_))
       | ((with_reducible refine aa (some 30) (.load 31 (.tmp 29)) ?_);go_must (refine ab (.agg R.toArray) rfl (bg (o+i * 4) 4 R _ rfl HRC.out dM rfl bC HRL.out) ?_))
       | ((with_reducible refine aa (some 5) (.alloc 31) ?_);refine ad _ cT hm ?_;clear hm;intro w3 g5 hm)
       | ((with_reducible refine aa none (.store 31 (.tmp 5) (.tmp 30)) ?_);refine af 0 R hm rfl rfl rfl 4 bC rfl HRL.out HRO.out ?_;clear hm;intro w4 hm;have HS:Hid (SuS w w4 lb nb m (i+1) g5 p oB oE R):=⟨aJ HS0.out.1 HS0.out.1.size hm.below,hwm,HS0.out.2.1.below hm.below,hm.get 0 rfl⟩;clear hm)
       | ((with_reducible refine aa (some 32) (.load 9 (.tmp 31)) ?_);go_must (refine ab (.string s) rfl (ae 1 (.string s) HS.out.row rfl aq HR1.out) ?_))
       | ((with_reducible refine aa (some 41) (.load 3 (.tmp 40)) ?_);go_must (refine ab (.int .i64 wh) rfl (ae 0 (.int .i64 wh) HS.out.row rfl ah HR0.out) ?_))
       | ((with_reducible refine aa (some 45) (.load 9 (.tmp 44)) ?_);go_must (refine ab (.string s) rfl (ae 1 (.string s) HS.out.row rfl aq HR1.out) ?_))
       | ((with_reducible refine aa (some 47) (.load 3 (.tmp 46)) ?_);go_must (refine ab (.int .i64 lb2) rfl (ae 2 (.int .i64 lb2) HS.out.row rfl ah HR2.out) ?_))
       | ((with_reducible refine aa (some 49) (.load 3 (.tmp 48)) ?_);go_must (refine ab (.int .i64 le) rfl (ae 3 (.int .i64 le) HS.out.row rfl ah HR3.out) ?_))
       | (go_at_call 12;refine (charge_x HS.out.st (by omega) s lb2 le).mono ?_;rintro e w5 ⟨r0,p',oB',oE',he,hn,hlen,hu⟩;subst he;replace HS:Hid (SuS w w5 lb nb m (i+1+1) g5 p' oB' oE' R):=HS.out.upd hn hu;have hl9:p'.length≤i+1+1:=(by have:=HS0.out.2.2;omega);clear hn hu hlen))
      have HQ:Hid (QtOk p' oB' oE'):=HS.out.st.qt
      have HPL:Hid (p'.length≤i+1+1):=hl9
      clear hl9
      go_wp2_with (first
       | (go_at_call 14;refine (cW _ HS.out.st.lg).mono ?_;rintro e w6 ⟨he,hb⟩;subst he;replace HS:Hid (SuS w w6 lb nb m (i+1+1) g5 p' oB' oE' R):=HS.out.below hb;clear hb)
       | (go_at_call 23;refine (all_n HS.out.st.lg.nm (by omega) (by have:=HPL.out;omega) HS.out.st.mx).mono ?_;rintro e w7 ⟨va,he,hsp,hb⟩;subst he;replace HS:Hid (SuS w w7 lb nb m (i+1+1) g5 p' oB' oE' R):=HS.out.below hb;obtain ⟨pz,cz,rfl,hz⟩:=hsp;obtain ⟨bz,rfl,_,hz3,hz4⟩:=hz HQ.out.tr.pos;have HZ:Hid (∀i x,p'[i]?=some x→∀j u,(spv x)[j]?=some u→bz<w7.heap.size∧w7.cell? ⟨bz,i * 5+j,none⟩=some u):=fun i x hx j u hu=>⟨hz3,hz4 i x hx j u hu⟩;clear hb hz hz3 hz4))
      obtain ⟨N,hN⟩:∃N,N=p'.length:=⟨_,rfl⟩
      have HNP:Hid (N=p'.length):=hN
      have hN9:N≤42:=by have:=HPL.out;omega
      rw [←hN]
      clear hN
      go_loopw [7] (fun vk wr=>∃k:Nat,k≤N∧vk=.int .i64 (k:Int)∧Hid (Below w7.heap.size w7 wr)) (fun vk _=>match vk with | .int _ q=>N - q.toNat|_=>0)
      case atStart=>exact ⟨0,by omega,rfl,Below.refl _ _⟩
      case round =>
       obtain ⟨k,hk,rfl,HB⟩:=hrel
       by_cases hkl:k<N
       ·have hki:(k:Int)<(N:Int):=by omega
        have hwk:IntKind.i64.wrap ((k:Int)+1)=(k:Int)+1:=cr _ (by omega) (by omega)
        obtain ⟨x,hx⟩:∃x,p'[k]?=some x:=⟨p'[k]'(by have:=HNP.out;omega),by simp [show k<p'.length by have:=HNP.out;omega]⟩
        have hxm:x∈p':=List.mem_of_getElem? hx
        have okx:PlOk x.1:=HQ.out.tr.ok.ok x hxm
        obtain ⟨y,hy⟩:∃y,y=tx x.1:=⟨_,rfl⟩
        obtain ⟨u3,hu3⟩:∃z,z=usB x:=⟨_,rfl⟩
        obtain ⟨u4,hu4⟩:∃z,z=usE x:=⟨_,rfl⟩
        obtain ⟨l1,hl1⟩:∃z,z=lmB x:=⟨_,rfl⟩
        obtain ⟨l2,hl2⟩:∃z,z=lmE x:=⟨_,rfl⟩
        have HXK:Hid (p'[k]?=some x):=hx
        have HYK:Hid (y=tx x.1):=hy
        have HUK:Hid (u3=usB x∧u4=usE x):=⟨hu3,hu4⟩
        have HCX:Hid (∀j u,(spv x)[j]?=some u→bz<wr.heap.size∧wr.cell? ⟨bz,k * 5+j,none⟩=some u):=fun j u hu=>by
         have h1:=HZ.out k x hx j u hu
         exact ⟨Nat.lt_of_lt_of_le h1.1 HB.out.size,(HB.out.cell (p:=⟨bz,k * 5+j,none⟩) h1.1).trans h1.2⟩
        have HC0:Hid (bz<wr.heap.size∧wr.cell? ⟨bz,k * 5,none⟩=some (.string y)):=HCX.out 0 _ (by rw [hy];exact (au x).2.2.2.2)
        have HC1:Hid (bz<wr.heap.size∧wr.cell? ⟨bz,k * 5+1,none⟩=some (.int .i64 l1)):=HCX.out 1 _ (by rw [hl1];exact (au x).1)
        have HC2:Hid (bz<wr.heap.size∧wr.cell? ⟨bz,k * 5+2,none⟩=some (.int .i64 l2)):=HCX.out 2 _ (by rw [hl2];exact (au x).2.1)
        have HC3:Hid (bz<wr.heap.size∧wr.cell? ⟨bz,k * 5+3,none⟩=some (.int .i64 u3)):=HCX.out 3 _ (by rw [hu3];exact (au x).2.2.1)
        have HC4:Hid (bz<wr.heap.size∧wr.cell? ⟨bz,k * 5+4,none⟩=some (.int .i64 u4)):=HCX.out 4 _ (by rw [hu4];exact (au x).2.2.2.1)
        have hlim:=HQ.out.lim x hxm
        rw [←hu3,←hu4,←hl1,←hl2] at hlim
        have hc3:¬l1<u3:=by omega
        have hc4:¬l2<u4:=by omega
        obtain ⟨hgy,hob,hoe⟩:=cC HQ.out y x hxm hy.symm
        obtain ⟨hob2,hoe2⟩:=HQ.out.ow x hxm
        have hpos:=HQ.out.own x.1
        obtain ⟨ob,hob3⟩:∃z,z=oB' x.1:=⟨_,rfl⟩
        obtain ⟨oe,hoe3⟩:∃z,z=oE' x.1:=⟨_,rfl⟩
        have HOW:Hid (∀W,Below w7.heap.size w7 W→Calls Tryz.prog 20 #[.pointer (some ⟨lb,0,none⟩),.string y] W fun e w'=>e=.returned (.tuple #[.int .i64 ob,.int .i64 oe,.bool true])∧Below W.heap.size W w'):=fun W hW=>by
         have h9:=ownF_l (HS.out.st.below hW).lg HQ.out y
         rw [hgy,←hob,←hoe,hob2,hoe2,←hob3,←hoe3] at h9
         exact h9
        rw [←hob3,←hoe3] at hpos
        have hnb:¬ob<0:=by omega
        have hne:¬oe<0:=by omega
        have HLB:Hid (∀j,(0≤ob+sK usB p' x j∧ob+sK usB p' x j≤1000000)∧0≤oe+sK usE p' x j∧oe+sK usE p' x j≤1000000):=fun j=>by rw [hob3,hoe3];exact HQ.out.sK_bd hxm j
        have HALL:Hid (ob+sK usB p' x N=u3∧oe+sK usE p' x N=u4):=by
         have h9:=HQ.out.sK_all hxm
         rw [←HNP.out,←hob3,←hoe3,←hu3,←hu4] at h9
         exact h9
        have HZ0:Hid (ob=ob+sK usB p' x 0∧oe=oe+sK usE p' x 0):=by
         have h9:ob=ob+sK usB p' x 0∧oe=oe+sK usE p' x 0:=by rw [cy,cy];omega
         exact h9
        have HKI:Hid (∀z∈p',isKid z x.1=(!decide (z.1=[])&&decide (tx z.1.dropLast=y))):=fun z hz=>by rw [cR (HQ.out.tr.ok.ok z hz) okx,hy]
        have hm:=Mem.start wr
        have hn33:(u3 != u3)=false:=by simp
        have hn44:(u4 != u4)=false:=by simp
        clear hx hxm okx hy hu3 hu4 hl1 hl2 hlim hgy hob hoe hob2 hoe2 hpos hob3 hoe3
        go_wp2_with (first
         | ((with_reducible refine aa (some 73) (.indexAddr 46 (.tmp 71) (.tmp 72)) ?_);go_must (refine ab (.pointer (some ⟨bz,k * 5,none⟩)) rfl (am 5 k ay ap rfl rfl rfl hkl) ?_))
         | ((with_reducible refine aa (some 75) (.load 9 (.tmp 74)) ?_);go_must (refine ab (.string y) rfl (al (.string y) HC0.out.2 rfl aq) ?_))
         | (go_at_call 20;refine (HOW.out _ HB.out).mono ?_;rintro e w8 ⟨he,hb⟩;subst he;replace hm:=hm.call hb;clear hb))
        refine ak ?_
        refine ag (T:=fun W=>Mem wr [] W []) (by kernel_rfl) hm ?_
        intro wc hbw hmw
        clear hm
        have hm:=hmw
        clear hbw hmw
        refine aT 0 (v:=.bool true) rfl (by kernel_rfl) rfl (fun W _=>by go_simp) hm ?_
        go_simp
        refine aT 1 (v:=.bool false) rfl (by kernel_rfl) rfl (fun W _=>by go_simp) hm ?_
        go_simp
        refine aT 2 (v:=.bool false) rfl (by kernel_rfl) rfl (fun W _=>by go_simp) hm ?_
        go_simp
        refine aG 3 (v:=.int .i64 ob) rfl (by kernel_rfl) rfl (fun W _=>by go_simp) hm ?_
        go_simp
        refine aG 4 (v:=.bool false) rfl (by kernel_rfl) rfl (fun W _=>by go_simp) hm ?_
        go_simp
        refine aT 5 (v:=.bool false) rfl (by kernel_rfl) rfl (fun W _=>by go_simp) hm ?_
        go_simp
        refine aT 6 (v:=.bool false) rfl (by kernel_rfl) rfl (fun W _=>by go_simp) hm ?_
        go_simp
        refine aG 7 (v:=.int .i64 oe) rfl (by kernel_rfl) rfl (fun W _=>by go_simp) hm ?_
        go_simp
        refine aG 8 (v:=.bool false) rfl (by kernel_rfl) rfl (fun W _=>by go_simp) hm ?_
        go_simp
        refine aT 9 (v:=.bool false) rfl (by kernel_rfl) rfl (fun W _=>by go_simp) hm ?_
        go_simp
        refine aT 10 (v:=.bool false) rfl (by kernel_rfl) rfl (fun W _=>by go_simp) hm ?_
        go_simp
        refine aG 11 (v:=.slice (some ⟨bz,0,none⟩) N cz) rfl (by kernel_rfl) rfl (fun W _=>by go_simp) hm ?_
        go_simp
        refine aG 12 (v:=.int .i64 (k:Int)) rfl (by kernel_rfl) rfl (fun W _=>by go_simp) hm ?_
        go_simp
        refine aG 13 (v:=.pointer (some ⟨bz,k * 5,none⟩)) rfl (by kernel_rfl) rfl (fun W _=>am 5 k ay ap rfl rfl rfl hkl) hm ?_
        go_simp
        refine aG 14 (v:=.pointer (some ⟨bz,k * 5+3,none⟩)) rfl (by kernel_rfl) rfl (fun W _=>by go_simp) hm ?_
        go_simp
        refine aG 15 (v:=.int .i64 u3) rfl (by kernel_rfl) rfl (fun W hW=>al (.int .i64 u3) ((hW.below.cell (p:=⟨bz,k * 5+3,none⟩) HC3.out.1).trans HC3.out.2) rfl ah) hm ?_
        go_simp
        refine aG 16 (v:=.slice (some ⟨bz,0,none⟩) N cz) rfl (by kernel_rfl) rfl (fun W _=>by go_simp) hm ?_
        go_simp
        refine aG 17 (v:=.int .i64 (k:Int)) rfl (by kernel_rfl) rfl (fun W _=>by go_simp) hm ?_
        go_simp
        refine aG 18 (v:=.pointer (some ⟨bz,k * 5,none⟩)) rfl (by kernel_rfl) rfl (fun W _=>am 5 k ay ap rfl rfl rfl hkl) hm ?_
        go_simp
        refine aG 19 (v:=.pointer (some ⟨bz,k * 5+1,none⟩)) rfl (by kernel_rfl) rfl (fun W _=>by go_simp) hm ?_
        go_simp
        refine aG 20 (v:=.int .i64 l1) rfl (by kernel_rfl) rfl (fun W hW=>al (.int .i64 l1) ((hW.below.cell (p:=⟨bz,k * 5+1,none⟩) HC1.out.1).trans HC1.out.2) rfl ah) hm ?_
        go_simp
        refine aG 21 (v:=.bool false) rfl (by kernel_rfl) rfl (fun W _=>by go_simp) hm ?_
        go_simp
        refine aT 22 (v:=.bool false) rfl (by kernel_rfl) rfl (fun W _=>by go_simp) hm ?_
        go_simp
        refine aT 23 (v:=.bool false) rfl (by kernel_rfl) rfl (fun W _=>by go_simp) hm ?_
        go_simp
        refine aG 24 (v:=.slice (some ⟨bz,0,none⟩) N cz) rfl (by kernel_rfl) rfl (fun W _=>by go_simp) hm ?_
        go_simp
        refine aG 25 (v:=.int .i64 (k:Int)) rfl (by kernel_rfl) rfl (fun W _=>by go_simp) hm ?_
        go_simp
        refine aG 26 (v:=.pointer (some ⟨bz,k * 5,none⟩)) rfl (by kernel_rfl) rfl (fun W _=>am 5 k ay ap rfl rfl rfl hkl) hm ?_
        go_simp
        refine aG 27 (v:=.pointer (some ⟨bz,k * 5+4,none⟩)) rfl (by kernel_rfl) rfl (fun W _=>by go_simp) hm ?_
        go_simp
        refine aG 28 (v:=.int .i64 u4) rfl (by kernel_rfl) rfl (fun W hW=>al (.int .i64 u4) ((hW.below.cell (p:=⟨bz,k * 5+4,none⟩) HC4.out.1).trans HC4.out.2) rfl ah) hm ?_
        go_simp
        refine aG 29 (v:=.slice (some ⟨bz,0,none⟩) N cz) rfl (by kernel_rfl) rfl (fun W _=>by go_simp) hm ?_
        go_simp
        refine aG 30 (v:=.int .i64 (k:Int)) rfl (by kernel_rfl) rfl (fun W _=>by go_simp) hm ?_
        go_simp
        refine aG 31 (v:=.pointer (some ⟨bz,k * 5,none⟩)) rfl (by kernel_rfl) rfl (fun W _=>am 5 k ay ap rfl rfl rfl hkl) hm ?_
        go_simp
        refine aG 32 (v:=.pointer (some ⟨bz,k * 5+2,none⟩)) rfl (by kernel_rfl) rfl (fun W _=>by go_simp) hm ?_
        go_simp
        refine aG 33 (v:=.int .i64 l2) rfl (by kernel_rfl) rfl (fun W hW=>al (.int .i64 l2) ((hW.below.cell (p:=⟨bz,k * 5+2,none⟩) HC2.out.1).trans HC2.out.2) rfl ah) hm ?_
        go_simp
        refine aG 34 (v:=.bool false) rfl (by kernel_rfl) rfl (fun W _=>by go_simp) hm ?_
        go_simp
        refine aT 35 (v:=.bool false) rfl (by kernel_rfl) rfl (fun W _=>by go_simp) hm ?_
        go_simp
        refine wpAnyH_done (by kernel_rfl) ?_ _
        simp only [endsIn]
        go_wp2_with fail
        have HB8:Hid (Below w7.heap.size w7 _):=HB.out.trans (hm.below.mono HB.out.size)
        clear hm HOW hnb hne hc3 hc4
        go_loopw [11,8,9] (fun vj v8 v9 wr=>∃j:Nat,j≤N∧vj=.int .i64 (j:Int)∧∃vb ve:Int,v8=.int .i64 vb∧v9=.int .i64 ve∧Hid (vb=ob+sK usB p' x j∧ve=oe+sK usE p' x j)∧Hid (Below w7.heap.size w7 wr)) (fun vj _ _ _=>match vj with | .int _ q=>N - q.toNat|_=>0)
        case atStart=>exact ⟨0,by omega,rfl,ob,oe,rfl,rfl,HZ0,HB8⟩
        case round =>
         clear HB8 HC0 HC1 HC2 HC3 HC4 HCX HB
         obtain ⟨j,hj,rfl,vb,ve,rfl,rfl,HV,HB⟩:=hrel
         have HCX:Hid (∀i x,p'[i]?=some x→∀j u,(spv x)[j]?=some u→bz<wr.heap.size∧wr.cell? ⟨bz,i * 5+j,none⟩=some u):=fun i x hx j u hu=>by
          have h1:=HZ.out i x hx j u hu
          exact ⟨Nat.lt_of_lt_of_le h1.1 HB.out.size,(HB.out.cell (p:=⟨bz,i * 5+j,none⟩) h1.1).trans h1.2⟩
         have hub:=HLB.out j
         rw [←HV.out.1] at hub
         rw [←HV.out.2] at hub
         by_cases hjl:j<N
         ·have hji:(j:Int)<(N:Int):=by omega
          have hwj:IntKind.i64.wrap ((j:Int)+1)=(j:Int)+1:=cr _ (by omega) (by omega)
          obtain ⟨z,hz⟩:∃z,p'[j]?=some z:=⟨p'[j]'(by have:=HNP.out;omega),by simp [show j<p'.length by have:=HNP.out;omega]⟩
          have hzm:z∈p':=List.mem_of_getElem? hz
          have okz:PlOk z.1:=HQ.out.tr.ok.ok z hzm
          obtain ⟨d0,hd0⟩:∃y,y=tx z.1:=⟨_,rfl⟩
          obtain ⟨z3,hz3⟩:∃y,y=usB z:=⟨_,rfl⟩
          obtain ⟨z4,hz4⟩:∃y,y=usE z:=⟨_,rfl⟩
          have HJ0:Hid (bz<wr.heap.size∧wr.cell? ⟨bz,j * 5,none⟩=some (.string d0)):=HCX.out j z hz 0 _ (by rw [hd0];exact (au z).2.2.2.2)
          have HZ3:Hid (bz<wr.heap.size∧wr.cell? ⟨bz,j * 5+3,none⟩=some (.int .i64 z3)):=HCX.out j z hz 3 _ (by rw [hz3];exact (au z).2.2.1)
          have HZ4:Hid (bz<wr.heap.size∧wr.cell? ⟨bz,j * 5+4,none⟩=some (.int .i64 z4)):=HCX.out j z hz 4 _ (by rw [hz4];exact (au z).2.2.2.1)
          have HK0:Hid (bz<wr.heap.size∧wr.cell? ⟨bz,k * 5,none⟩=some (.string y)):=HCX.out k x HXK.out 0 _ (by rw [HYK.out];exact (au x).2.2.2.2)
          have hzb:=HQ.out.use z hzm
          rw [←hz3,←hz4] at hzb
          obtain ⟨n1,hn1⟩:∃z,z=vb+z3:=⟨_,rfl⟩
          obtain ⟨n2,hn2⟩:∃z,z=ve+z4:=⟨_,rfl⟩
          have hw1:IntKind.i64.wrap (vb+z3)=n1:=(bo _ (by omega) (by omega)).trans hn1.symm
          have hw2:IntKind.i64.wrap (ve+z4)=n2:=(bo _ (by omega) (by omega)).trans hn2.symm
          obtain ⟨d,hd⟩:∃y,y=tx z.1.dropLast:=⟨_,rfl⟩
          obtain ⟨q,hq⟩:∃y,y = !decide (z.1=[]):=⟨_,rfl⟩
          have HPA:Hid (∀W,Below w7.heap.size w7 W→Calls Tryz.prog 25 #[.string d0] W fun e w'=>e=.returned (.tuple #[.string d,.bool q])∧Below W.heap.size W w'):=fun W hW=>by
           have h1:=bR (tx z.1) W (by have:=aU okz;omega) (HS.out.st.mx.below hW)
           obtain ⟨e1,e2⟩:=dN okz
           rw [e1,e2,←hd,←hq,←hd0] at h1
           exact h1
          have hkid:isKid z x.1=(q&&decide (d=y)):=by rw [hq,hd];exact HKI.out z hzm
          have hm:=Mem.start wr
          cases q with
          | false =>
           have HNX:Hid (vb=ob+sK usB p' x (j+1)∧ve=oe+sK usE p' x (j+1)):=by
            have h1:isKid z x.1=false:=by rw [hkid,Bool.false_and]
            rw [bF hz h1,bF hz h1];exact HV.out
           clear hz hzm okz hd0 hz3 hz4 hn1 hn2 hw1 hw2 hd hq hkid hzb hub HZ3 HZ4
           go_wp2_with (first
            | ((with_reducible refine aa (some 125) (.indexAddr 46 (.tmp 123) (.tmp 124)) ?_);go_must (refine ab (.pointer (some ⟨bz,j * 5,none⟩)) rfl (am 5 j ay ap rfl rfl rfl hjl) ?_))
            | ((with_reducible refine aa (some 127) (.load 9 (.tmp 126)) ?_);go_must (refine ab (.string d0) rfl (al (.string d0) HJ0.out.2 rfl aq) ?_))
            | (go_at_call 25;refine (HPA.out _ HB.out).mono ?_;rintro e w8 ⟨he,hb⟩;subst he;replace hm:=hm.call hb;clear hb))
           go_roundw
           case rel=>exact ⟨j+1,by omega,by go_num,vb,ve,rfl,rfl,HNX,HB.out.trans (hm.below.mono HB.out.size)⟩
           case measure=>show N - ((j:Int)+1).toNat<N - (j:Int).toNat;omega
          | true =>
           by_cases hds:d=y
           ·have HE:Hid ((d==y)=true):=by rw [hds];exact c4 y
            have HNX:Hid (n1=ob+sK usB p' x (j+1)∧n2=oe+sK usE p' x (j+1)):=by
             have h1:isKid z x.1=true:=by rw [hkid,decide_eq_true hds];rfl
             rw [dm hz h1,dm hz h1,hn1,hn2,←hz3,←hz4,HV.out.1,HV.out.2]
             exact ⟨Int.add_assoc _ _ _,Int.add_assoc _ _ _⟩
            clear hz hzm okz hd0 hz3 hz4 hn1 hn2 hd hq hkid hzb hub hds
            go_wp2_with (first
             | ((with_reducible refine aa (some 125) (.indexAddr 46 (.tmp 123) (.tmp 124)) ?_);go_must (refine ab (.pointer (some ⟨bz,j * 5,none⟩)) rfl (am 5 j ay ap rfl rfl rfl hjl) ?_))
             | ((with_reducible refine aa (some 127) (.load 9 (.tmp 126)) ?_);go_must (refine ab (.string d0) rfl (al (.string d0) HJ0.out.2 rfl aq) ?_))
             | (go_at_call 25;refine (HPA.out _ HB.out).mono ?_;rintro e w8 ⟨he,hb⟩;subst he;replace hm:=hm.call hb;clear hb)
             | ((with_reducible refine aw (some 136) (.indexAddr 46 (.tmp 134) (.tmp 135)) (some (1,true)) ?_);go_must (refine ab (.pointer (some ⟨bz,k * 5,none⟩)) rfl (am 5 k ay ap rfl rfl rfl hkl) ?_))
             | ((with_reducible refine aw (some 138) (.load 9 (.tmp 137)) (some (1,true)) ?_);go_must (refine ab (.string y) rfl (al (.string y) ((hm.below.cell (p:=⟨bz,k * 5,none⟩) HK0.out.1).trans HK0.out.2) rfl aq) ?_))
             | ((with_reducible refine aw (some 139) (.binOp .eql 9 (.tmp 133) (.tmp 138) 9) (some (1,true)) ?_);go_must (refine ab (.bool true) rfl (aM d y true rfl rfl HE.out) ?_)))
            refine ak ?_
            refine ag (T:=fun W=>Mem wr [] W []) (by kernel_rfl) hm ?_
            intro wc hbw hmw
            clear hm
            have hm:=hmw
            clear hbw hmw
            refine aT 0 (v:=.int .i64 vb) rfl (by kernel_rfl) rfl (fun W _=>by go_simp) hm ?_
            go_simp
            refine aT 1 (v:=.slice (some ⟨bz,0,none⟩) N cz) rfl (by kernel_rfl) rfl (fun W _=>by go_simp) hm ?_
            go_simp
            refine aT 2 (v:=.int .i64 (j:Int)) rfl (by kernel_rfl) rfl (fun W _=>by go_simp) hm ?_
            go_simp
            refine aT 3 (v:=.pointer (some ⟨bz,j * 5,none⟩)) rfl (by kernel_rfl) rfl (fun W _=>am 5 j ay ap rfl rfl rfl hjl) hm ?_
            go_simp
            refine aT 4 (v:=.pointer (some ⟨bz,j * 5+3,none⟩)) rfl (by kernel_rfl) rfl (fun W _=>by go_simp) hm ?_
            go_simp
            refine aT 5 (v:=.int .i64 z3) rfl (by kernel_rfl) rfl (fun W hW=>al (.int .i64 z3) ((hW.below.cell (p:=⟨bz,j * 5+3,none⟩) HZ3.out.1).trans HZ3.out.2) rfl ah) hm ?_
            go_simp
            refine aT 6 (v:=.int .i64 n1) rfl (by kernel_rfl) rfl (fun W _=>by go_simp<;>exact hw1) hm ?_
            go_simp
            refine aT 7 (v:=.int .i64 ve) rfl (by kernel_rfl) rfl (fun W _=>by go_simp) hm ?_
            go_simp
            refine aT 8 (v:=.slice (some ⟨bz,0,none⟩) N cz) rfl (by kernel_rfl) rfl (fun W _=>by go_simp) hm ?_
            go_simp
            refine aT 9 (v:=.int .i64 (j:Int)) rfl (by kernel_rfl) rfl (fun W _=>by go_simp) hm ?_
            go_simp
            refine aT 10 (v:=.pointer (some ⟨bz,j * 5,none⟩)) rfl (by kernel_rfl) rfl (fun W _=>am 5 j ay ap rfl rfl rfl hjl) hm ?_
            go_simp
            refine aT 11 (v:=.pointer (some ⟨bz,j * 5+4,none⟩)) rfl (by kernel_rfl) rfl (fun W _=>by go_simp) hm ?_
            go_simp
            refine aT 12 (v:=.int .i64 z4) rfl (by kernel_rfl) rfl (fun W hW=>al (.int .i64 z4) ((hW.below.cell (p:=⟨bz,j * 5+4,none⟩) HZ4.out.1).trans HZ4.out.2) rfl ah) hm ?_
            go_simp
            refine aT 13 (v:=.int .i64 n2) rfl (by kernel_rfl) rfl (fun W _=>by go_simp<;>exact hw2) hm ?_
            go_simp
            refine aT 14 (v:=.int .i64 n1) rfl (by kernel_rfl) rfl (fun W _=>by go_simp) hm ?_
            go_simp
            refine aT 15 (v:=.int .i64 n2) rfl (by kernel_rfl) rfl (fun W _=>by go_simp) hm ?_
            go_simp
            refine wpAnyH_done (by kernel_rfl) ?_ _
            simp only [endsIn]
            go_wp2_with fail
            go_roundw
            case rel=>exact ⟨j+1,by omega,by go_num,n1,n2,rfl,rfl,HNX,HB.out.trans (hm.below.mono HB.out.size)⟩
            case measure=>show N - ((j:Int)+1).toNat<N - (j:Int).toNat;omega
           ·have HE:Hid ((d==y)=false):=cE hds
            have HNX:Hid (vb=ob+sK usB p' x (j+1)∧ve=oe+sK usE p' x (j+1)):=by
             have h1:isKid z x.1=false:=by rw [hkid,decide_eq_false hds];rfl
             rw [bF hz h1,bF hz h1];exact HV.out
            clear hz hzm okz hd0 hz3 hz4 hn1 hn2 hw1 hw2 hd hq hkid hzb hub hds HZ3 HZ4
            go_wp2_with (first
             | ((with_reducible refine aa (some 125) (.indexAddr 46 (.tmp 123) (.tmp 124)) ?_);go_must (refine ab (.pointer (some ⟨bz,j * 5,none⟩)) rfl (am 5 j ay ap rfl rfl rfl hjl) ?_))
             | ((with_reducible refine aa (some 127) (.load 9 (.tmp 126)) ?_);go_must (refine ab (.string d0) rfl (al (.string d0) HJ0.out.2 rfl aq) ?_))
             | (go_at_call 25;refine (HPA.out _ HB.out).mono ?_;rintro e w8 ⟨he,hb⟩;subst he;replace hm:=hm.call hb;clear hb)
             | ((with_reducible refine aw (some 136) (.indexAddr 46 (.tmp 134) (.tmp 135)) (some (1,true)) ?_);go_must (refine ab (.pointer (some ⟨bz,k * 5,none⟩)) rfl (am 5 k ay ap rfl rfl rfl hkl) ?_))
             | ((with_reducible refine aw (some 138) (.load 9 (.tmp 137)) (some (1,true)) ?_);go_must (refine ab (.string y) rfl (al (.string y) ((hm.below.cell (p:=⟨bz,k * 5,none⟩) HK0.out.1).trans HK0.out.2) rfl aq) ?_))
             | ((with_reducible refine aw (some 139) (.binOp .eql 9 (.tmp 133) (.tmp 138) 9) (some (1,true)) ?_);go_must (refine ab (.bool false) rfl (aM d y false rfl rfl HE.out) ?_)))
            go_roundw
            case rel=>exact ⟨j+1,by omega,by go_num,vb,ve,rfl,rfl,HNX,HB.out.trans (hm.below.mono HB.out.size)⟩
            case measure=>show N - ((j:Int)+1).toNat<N - (j:Int).toNat;omega
         ·have hjn:j=N:=by omega
          have hji:¬(j:Int)<(N:Int):=by omega
          have e3:vb=u3:=by rw [HV.out.1,hjn];exact HALL.out.1
          have e4:ve=u4:=by rw [HV.out.2,hjn];exact HALL.out.2
          subst e3 e4
          clear hjn hub
          have HC3:Hid (bz<wr.heap.size∧wr.cell? ⟨bz,k * 5+3,none⟩=some (.int .i64 vb)):=HCX.out k x HXK.out 3 _ (by rw [HUK.out.1];exact (au x).2.2.1)
          have HC4:Hid (bz<wr.heap.size∧wr.cell? ⟨bz,k * 5+4,none⟩=some (.int .i64 ve)):=HCX.out k x HXK.out 4 _ (by rw [HUK.out.2];exact (au x).2.2.2.1)
          have hm:=Mem.start wr
          go_wp2_with (first
           | ((with_reducible refine aa (some 158) (.indexAddr 46 (.tmp 156) (.tmp 157)) ?_);go_must (refine ab (.pointer (some ⟨bz,k * 5,none⟩)) rfl (am 5 k ay ap rfl rfl rfl hkl) ?_))
           | ((with_reducible refine aa (some 160) (.load 3 (.tmp 159)) ?_);go_must (refine ab (.int .i64 vb) rfl (al (.int .i64 vb) HC3.out.2 rfl ah) ?_))
           | ((with_reducible refine aw (some 166) (.indexAddr 46 (.tmp 164) (.tmp 165)) (some (7,false)) ?_);go_must (refine ab (.pointer (some ⟨bz,k * 5,none⟩)) rfl (am 5 k ay ap rfl rfl rfl hkl) ?_))
           | ((with_reducible refine aw (some 168) (.load 3 (.tmp 167)) (some (7,false)) ?_);go_must (refine ab (.int .i64 ve) rfl (al (.int .i64 ve) HC4.out.2 rfl ah) ?_)))
          go_roundw
          case rel=>exact ⟨k+1,by omega,by go_num,HB.out⟩
          case measure=>show N - ((k:Int)+1).toNat<N - (k:Int).toNat;omega
       ·have hkn:k=N:=by omega
        have hki:¬(k:Int)<(N:Int):=by omega
        go_wp2_with fail
        go_roundw
        case rel=>exact ⟨i+1,by omega,by go_num,p',oB',oE',aJ HS.out.bel HS.out.bel.size HB.out,HS.out.st.below HB.out,HPL.out⟩
        case measure=>show n - ((i:Int)+1).toNat<n - (i:Int).toNat;omega
     ·by_cases h4:wh=4
      ·subst h4
       go_wp2_with (first
        | ((with_reducible refine aa (some 29) (.indexAddr 22 (.tmp 27) (.tmp 28)) ?_);go_must (refine ab (.pointer (some ⟨b,o+i * 4,none⟩)) rfl (cA 4 i cB bC rfl rfl rfl hlt) ?_))
        | ((with_reducible refine aa (some 30) (.load 31 (.tmp 29)) ?_);go_must (refine ab (.agg R.toArray) rfl (bg (o+i * 4) 4 R _ rfl HRC.out dM rfl bC HRL.out) ?_))
        | ((with_reducible refine aa (some 5) (.alloc 31) ?_);refine ad _ cT hm ?_;clear hm;intro w3 g5 hm)
        | ((with_reducible refine aa none (.store 31 (.tmp 5) (.tmp 30)) ?_);refine af 0 R hm rfl rfl rfl 4 bC rfl HRL.out HRO.out ?_;clear hm;intro w4 hm;have HS:Hid (SuS w w4 lb nb m (i+1) g5 p oB oE R):=⟨aJ HS0.out.1 HS0.out.1.size hm.below,hwm,HS0.out.2.1.below hm.below,hm.get 0 rfl⟩;clear hm)
        | ((with_reducible refine aa (some 32) (.load 9 (.tmp 31)) ?_);go_must (refine ab (.string s) rfl (ae 1 (.string s) HS.out.row rfl aq HR1.out) ?_))
        | ((with_reducible refine aa (some 41) (.load 3 (.tmp 40)) ?_);go_must (refine ab (.int .i64 4) rfl (ae 0 (.int .i64 4) HS.out.row rfl ah HR0.out) ?_))
        | ((with_reducible refine aa (some 53) (.load 3 (.tmp 52)) ?_);go_must (refine ab (.int .i64 4) rfl (ae 0 (.int .i64 4) HS.out.row rfl ah HR0.out) ?_)))
       refine ak ?_
       refine ag (T:=fun W=>Row W g5 R 31) (by kernel_rfl) (Mem.start _) ?_
       intro wc hbw _
       replace HS:Hid (SuS w wc lb nb m (i+1) g5 p oB oE R):=HS.out.below hbw
       clear hbw
       refine aT 0 (v:=.pointer (some ⟨lb,0,none⟩)) rfl (by kernel_rfl) rfl (fun W _=>by go_simp) HS.out.row ?_
       go_simp
       refine aT 2 (v:=.pointer (some ⟨g5,1,none⟩)) rfl (by kernel_rfl) rfl (fun W _=>by go_simp) HS.out.row ?_
       go_simp
       refine aT 3 (v:=.string s) rfl (by kernel_rfl) rfl (fun W hW=>ae 1 (.string s) hW rfl aq HR1.out) HS.out.row ?_
       go_simp
       refine aO 1 (by kernel_rfl) rfl rfl ?_
       intro K hK
       go_wp2_with (go_at_call 14;refine (cW _ HS.out.st.lg).mono ?_;rintro e w5 ⟨he,hb⟩;subst he;replace HS:Hid (SuS w w5 lb nb m (i+1) g5 p oB oE R):=HS.out.below hb;clear hb)
       refine hK _ _ HS.out.row ?_
       clear hK K
       go_simp
       refine aO 4 (by kernel_rfl) rfl rfl ?_
       intro K hK
       go_wp2_with (go_at_call 15;refine (add_xs HS.out.st (by omega) s HSZ.out 40 15).mono ?_;rintro e w6 ⟨r0,p',oB',oE',he,hn,hlen,hu⟩;subst he;replace HS:Hid (SuS w w6 lb nb m (i+1+1) g5 p' oB' oE' R):=HS.out.upd hn hu;have hl9:p'.length≤i+1+1:=(by have:=HS0.out.2.2;omega);clear hn hu hlen)
       refine hK _ _ HS.out.row ?_
       clear hK K
       go_simp
       refine wpAnyH_done (by kernel_rfl) ?_ _
       simp only [endsIn]
       go_wp2_with fail
       have HQ:Hid (QtOk p' oB' oE'):=HS.out.st.qt
       have HPL:Hid (p'.length≤i+1+1):=hl9
       clear hl9
       go_wp2_with (first
        | (go_at_call 14;refine (cW _ HS.out.st.lg).mono ?_;rintro e w6 ⟨he,hb⟩;subst he;replace HS:Hid (SuS w w6 lb nb m (i+1+1) g5 p' oB' oE' R):=HS.out.below hb;clear hb)
        | (go_at_call 23;refine (all_n HS.out.st.lg.nm (by omega) (by have:=HPL.out;omega) HS.out.st.mx).mono ?_;rintro e w7 ⟨va,he,hsp,hb⟩;subst he;replace HS:Hid (SuS w w7 lb nb m (i+1+1) g5 p' oB' oE' R):=HS.out.below hb;obtain ⟨pz,cz,rfl,hz⟩:=hsp;obtain ⟨bz,rfl,_,hz3,hz4⟩:=hz HQ.out.tr.pos;have HZ:Hid (∀i x,p'[i]?=some x→∀j u,(spv x)[j]?=some u→bz<w7.heap.size∧w7.cell? ⟨bz,i * 5+j,none⟩=some u):=fun i x hx j u hu=>⟨hz3,hz4 i x hx j u hu⟩;clear hb hz hz3 hz4))
       obtain ⟨N,hN⟩:∃N,N=p'.length:=⟨_,rfl⟩
       have HNP:Hid (N=p'.length):=hN
       have hN9:N≤42:=by have:=HPL.out;omega
       rw [←hN]
       clear hN
       go_loopw [7] (fun vk wr=>∃k:Nat,k≤N∧vk=.int .i64 (k:Int)∧Hid (Below w7.heap.size w7 wr)) (fun vk _=>match vk with | .int _ q=>N - q.toNat|_=>0)
       case atStart=>exact ⟨0,by omega,rfl,Below.refl _ _⟩
       case round =>
        obtain ⟨k,hk,rfl,HB⟩:=hrel
        by_cases hkl:k<N
        ·have hki:(k:Int)<(N:Int):=by omega
         have hwk:IntKind.i64.wrap ((k:Int)+1)=(k:Int)+1:=cr _ (by omega) (by omega)
         obtain ⟨x,hx⟩:∃x,p'[k]?=some x:=⟨p'[k]'(by have:=HNP.out;omega),by simp [show k<p'.length by have:=HNP.out;omega]⟩
         have hxm:x∈p':=List.mem_of_getElem? hx
         have okx:PlOk x.1:=HQ.out.tr.ok.ok x hxm
         obtain ⟨y,hy⟩:∃y,y=tx x.1:=⟨_,rfl⟩
         obtain ⟨u3,hu3⟩:∃z,z=usB x:=⟨_,rfl⟩
         obtain ⟨u4,hu4⟩:∃z,z=usE x:=⟨_,rfl⟩
         obtain ⟨l1,hl1⟩:∃z,z=lmB x:=⟨_,rfl⟩
         obtain ⟨l2,hl2⟩:∃z,z=lmE x:=⟨_,rfl⟩
         have HXK:Hid (p'[k]?=some x):=hx
         have HYK:Hid (y=tx x.1):=hy
         have HUK:Hid (u3=usB x∧u4=usE x):=⟨hu3,hu4⟩
         have HCX:Hid (∀j u,(spv x)[j]?=some u→bz<wr.heap.size∧wr.cell? ⟨bz,k * 5+j,none⟩=some u):=fun j u hu=>by
          have h1:=HZ.out k x hx j u hu
          exact ⟨Nat.lt_of_lt_of_le h1.1 HB.out.size,(HB.out.cell (p:=⟨bz,k * 5+j,none⟩) h1.1).trans h1.2⟩
         have HC0:Hid (bz<wr.heap.size∧wr.cell? ⟨bz,k * 5,none⟩=some (.string y)):=HCX.out 0 _ (by rw [hy];exact (au x).2.2.2.2)
         have HC1:Hid (bz<wr.heap.size∧wr.cell? ⟨bz,k * 5+1,none⟩=some (.int .i64 l1)):=HCX.out 1 _ (by rw [hl1];exact (au x).1)
         have HC2:Hid (bz<wr.heap.size∧wr.cell? ⟨bz,k * 5+2,none⟩=some (.int .i64 l2)):=HCX.out 2 _ (by rw [hl2];exact (au x).2.1)
         have HC3:Hid (bz<wr.heap.size∧wr.cell? ⟨bz,k * 5+3,none⟩=some (.int .i64 u3)):=HCX.out 3 _ (by rw [hu3];exact (au x).2.2.1)
         have HC4:Hid (bz<wr.heap.size∧wr.cell? ⟨bz,k * 5+4,none⟩=some (.int .i64 u4)):=HCX.out 4 _ (by rw [hu4];exact (au x).2.2.2.1)
         have hlim:=HQ.out.lim x hxm
         rw [←hu3,←hu4,←hl1,←hl2] at hlim
         have hc3:¬l1<u3:=by omega
         have hc4:¬l2<u4:=by omega
         obtain ⟨hgy,hob,hoe⟩:=cC HQ.out y x hxm hy.symm
         obtain ⟨hob2,hoe2⟩:=HQ.out.ow x hxm
         have hpos:=HQ.out.own x.1
         obtain ⟨ob,hob3⟩:∃z,z=oB' x.1:=⟨_,rfl⟩
         obtain ⟨oe,hoe3⟩:∃z,z=oE' x.1:=⟨_,rfl⟩
         have HOW:Hid (∀W,Below w7.heap.size w7 W→Calls Tryz.prog 20 #[.pointer (some ⟨lb,0,none⟩),.string y] W fun e w'=>e=.returned (.tuple #[.int .i64 ob,.int .i64 oe,.bool true])∧Below W.heap.size W w'):=fun W hW=>by
          have h9:=ownF_l (HS.out.st.below hW).lg HQ.out y
          rw [hgy,←hob,←hoe,hob2,hoe2,←hob3,←hoe3] at h9
          exact h9
         rw [←hob3,←hoe3] at hpos
         have hnb:¬ob<0:=by omega
         have hne:¬oe<0:=by omega
         have HLB:Hid (∀j,(0≤ob+sK usB p' x j∧ob+sK usB p' x j≤1000000)∧0≤oe+sK usE p' x j∧oe+sK usE p' x j≤1000000):=fun j=>by rw [hob3,hoe3];exact HQ.out.sK_bd hxm j
         have HALL:Hid (ob+sK usB p' x N=u3∧oe+sK usE p' x N=u4):=by
          have h9:=HQ.out.sK_all hxm
          rw [←HNP.out,←hob3,←hoe3,←hu3,←hu4] at h9
          exact h9
         have HZ0:Hid (ob=ob+sK usB p' x 0∧oe=oe+sK usE p' x 0):=by
          have h9:ob=ob+sK usB p' x 0∧oe=oe+sK usE p' x 0:=by rw [cy,cy];omega
          exact h9
         have HKI:Hid (∀z∈p',isKid z x.1=(!decide (z.1=[])&&decide (tx z.1.dropLast=y))):=fun z hz=>by rw [cR (HQ.out.tr.ok.ok z hz) okx,hy]
         have hm:=Mem.start wr
         have hn33:(u3 != u3)=false:=by simp
         have hn44:(u4 != u4)=false:=by simp
         clear hx hxm okx hy hu3 hu4 hl1 hl2 hlim hgy hob hoe hob2 hoe2 hpos hob3 hoe3
         go_wp2_with (first
          | ((with_reducible refine aa (some 73) (.indexAddr 46 (.tmp 71) (.tmp 72)) ?_);go_must (refine ab (.pointer (some ⟨bz,k * 5,none⟩)) rfl (am 5 k ay ap rfl rfl rfl hkl) ?_))
          | ((with_reducible refine aa (some 75) (.load 9 (.tmp 74)) ?_);go_must (refine ab (.string y) rfl (al (.string y) HC0.out.2 rfl aq) ?_))
          | (go_at_call 20;refine (HOW.out _ HB.out).mono ?_;rintro e w8 ⟨he,hb⟩;subst he;replace hm:=hm.call hb;clear hb))
         refine ak ?_
         refine ag (T:=fun W=>Mem wr [] W []) (by kernel_rfl) hm ?_
         intro wc hbw hmw
         clear hm
         have hm:=hmw
         clear hbw hmw
         refine aT 0 (v:=.bool true) rfl (by kernel_rfl) rfl (fun W _=>by go_simp) hm ?_
         go_simp
         refine aT 1 (v:=.bool false) rfl (by kernel_rfl) rfl (fun W _=>by go_simp) hm ?_
         go_simp
         refine aT 2 (v:=.bool false) rfl (by kernel_rfl) rfl (fun W _=>by go_simp) hm ?_
         go_simp
         refine aG 3 (v:=.int .i64 ob) rfl (by kernel_rfl) rfl (fun W _=>by go_simp) hm ?_
         go_simp
         refine aG 4 (v:=.bool false) rfl (by kernel_rfl) rfl (fun W _=>by go_simp) hm ?_
         go_simp
         refine aT 5 (v:=.bool false) rfl (by kernel_rfl) rfl (fun W _=>by go_simp) hm ?_
         go_simp
         refine aT 6 (v:=.bool false) rfl (by kernel_rfl) rfl (fun W _=>by go_simp) hm ?_
         go_simp
         refine aG 7 (v:=.int .i64 oe) rfl (by kernel_rfl) rfl (fun W _=>by go_simp) hm ?_
         go_simp
         refine aG 8 (v:=.bool false) rfl (by kernel_rfl) rfl (fun W _=>by go_simp) hm ?_
         go_simp
         refine aT 9 (v:=.bool false) rfl (by kernel_rfl) rfl (fun W _=>by go_simp) hm ?_
         go_simp
         refine aT 10 (v:=.bool false) rfl (by kernel_rfl) rfl (fun W _=>by go_simp) hm ?_
         go_simp
         refine aG 11 (v:=.slice (some ⟨bz,0,none⟩) N cz) rfl (by kernel_rfl) rfl (fun W _=>by go_simp) hm ?_
         go_simp
         refine aG 12 (v:=.int .i64 (k:Int)) rfl (by kernel_rfl) rfl (fun W _=>by go_simp) hm ?_
         go_simp
         refine aG 13 (v:=.pointer (some ⟨bz,k * 5,none⟩)) rfl (by kernel_rfl) rfl (fun W _=>am 5 k ay ap rfl rfl rfl hkl) hm ?_
         go_simp
         refine aG 14 (v:=.pointer (some ⟨bz,k * 5+3,none⟩)) rfl (by kernel_rfl) rfl (fun W _=>by go_simp) hm ?_
         go_simp
         refine aG 15 (v:=.int .i64 u3) rfl (by kernel_rfl) rfl (fun W hW=>al (.int .i64 u3) ((hW.below.cell (p:=⟨bz,k * 5+3,none⟩) HC3.out.1).trans HC3.out.2) rfl ah) hm ?_
         go_simp
         refine aG 16 (v:=.slice (some ⟨bz,0,none⟩) N cz) rfl (by kernel_rfl) rfl (fun W _=>by go_simp) hm ?_
         go_simp
         refine aG 17 (v:=.int .i64 (k:Int)) rfl (by kernel_rfl) rfl (fun W _=>by go_simp) hm ?_
         go_simp
         refine aG 18 (v:=.pointer (some ⟨bz,k * 5,none⟩)) rfl (by kernel_rfl) rfl (fun W _=>am 5 k ay ap rfl rfl rfl hkl) hm ?_
         go_simp
         refine aG 19 (v:=.pointer (some ⟨bz,k * 5+1,none⟩)) rfl (by kernel_rfl) rfl (fun W _=>by go_simp) hm ?_
         go_simp
         refine aG 20 (v:=.int .i64 l1) rfl (by kernel_rfl) rfl (fun W hW=>al (.int .i64 l1) ((hW.below.cell (p:=⟨bz,k * 5+1,none⟩) HC1.out.1).trans HC1.out.2) rfl ah) hm ?_
         go_simp
         refine aG 21 (v:=.bool false) rfl (by kernel_rfl) rfl (fun W _=>by go_simp) hm ?_
         go_simp
         refine aT 22 (v:=.bool false) rfl (by kernel_rfl) rfl (fun W _=>by go_simp) hm ?_
         go_simp
         refine aT 23 (v:=.bool false) rfl (by kernel_rfl) rfl (fun W _=>by go_simp) hm ?_
         go_simp
         refine aG 24 (v:=.slice (some ⟨bz,0,none⟩) N cz) rfl (by kernel_rfl) rfl (fun W _=>by go_simp) hm ?_
         go_simp
         refine aG 25 (v:=.int .i64 (k:Int)) rfl (by kernel_rfl) rfl (fun W _=>by go_simp) hm ?_
         go_simp
         refine aG 26 (v:=.pointer (some ⟨bz,k * 5,none⟩)) rfl (by kernel_rfl) rfl (fun W _=>am 5 k ay ap rfl rfl rfl hkl) hm ?_
         go_simp
         refine aG 27 (v:=.pointer (some ⟨bz,k * 5+4,none⟩)) rfl (by kernel_rfl) rfl (fun W _=>by go_simp) hm ?_
         go_simp
         refine aG 28 (v:=.int .i64 u4) rfl (by kernel_rfl) rfl (fun W hW=>al (.int .i64 u4) ((hW.below.cell (p:=⟨bz,k * 5+4,none⟩) HC4.out.1).trans HC4.out.2) rfl ah) hm ?_
         go_simp
         refine aG 29 (v:=.slice (some ⟨bz,0,none⟩) N cz) rfl (by kernel_rfl) rfl (fun W _=>by go_simp) hm ?_
         go_simp
         refine aG 30 (v:=.int .i64 (k:Int)) rfl (by kernel_rfl) rfl (fun W _=>by go_simp) hm ?_
         go_simp
         refine aG 31 (v:=.pointer (some ⟨bz,k * 5,none⟩)) rfl (by kernel_rfl) rfl (fun W _=>am 5 k ay ap rfl rfl rfl hkl) hm ?_
         go_simp
         refine aG 32 (v:=.pointer (some ⟨bz,k * 5+2,none⟩)) rfl (by kernel_rfl) rfl (fun W _=>by go_simp) hm ?_
         go_simp
         refine aG 33 (v:=.int .i64 l2) rfl (by kernel_rfl) rfl (fun W hW=>al (.int .i64 l2) ((hW.below.cell (p:=⟨bz,k * 5+2,none⟩) HC2.out.1).trans HC2.out.2) rfl ah) hm ?_
         go_simp
         refine aG 34 (v:=.bool false) rfl (by kernel_rfl) rfl (fun W _=>by go_simp) hm ?_
         go_simp
         refine aT 35 (v:=.bool false) rfl (by kernel_rfl) rfl (fun W _=>by go_simp) hm ?_
         go_simp
         refine wpAnyH_done (by kernel_rfl) ?_ _
         simp only [endsIn]
         go_wp2_with fail
         have HB8:Hid (Below w7.heap.size w7 _):=HB.out.trans (hm.below.mono HB.out.size)
         clear hm HOW hnb hne hc3 hc4
         go_loopw [11,8,9] (fun vj v8 v9 wr=>∃j:Nat,j≤N∧vj=.int .i64 (j:Int)∧∃vb ve:Int,v8=.int .i64 vb∧v9=.int .i64 ve∧Hid (vb=ob+sK usB p' x j∧ve=oe+sK usE p' x j)∧Hid (Below w7.heap.size w7 wr)) (fun vj _ _ _=>match vj with | .int _ q=>N - q.toNat|_=>0)
         case atStart=>exact ⟨0,by omega,rfl,ob,oe,rfl,rfl,HZ0,HB8⟩
         case round =>
          clear HB8 HC0 HC1 HC2 HC3 HC4 HCX HB
          obtain ⟨j,hj,rfl,vb,ve,rfl,rfl,HV,HB⟩:=hrel
          have HCX:Hid (∀i x,p'[i]?=some x→∀j u,(spv x)[j]?=some u→bz<wr.heap.size∧wr.cell? ⟨bz,i * 5+j,none⟩=some u):=fun i x hx j u hu=>by
           have h1:=HZ.out i x hx j u hu
           exact ⟨Nat.lt_of_lt_of_le h1.1 HB.out.size,(HB.out.cell (p:=⟨bz,i * 5+j,none⟩) h1.1).trans h1.2⟩
          have hub:=HLB.out j
          rw [←HV.out.1] at hub
          rw [←HV.out.2] at hub
          by_cases hjl:j<N
          ·have hji:(j:Int)<(N:Int):=by omega
           have hwj:IntKind.i64.wrap ((j:Int)+1)=(j:Int)+1:=cr _ (by omega) (by omega)
           obtain ⟨z,hz⟩:∃z,p'[j]?=some z:=⟨p'[j]'(by have:=HNP.out;omega),by simp [show j<p'.length by have:=HNP.out;omega]⟩
           have hzm:z∈p':=List.mem_of_getElem? hz
           have okz:PlOk z.1:=HQ.out.tr.ok.ok z hzm
           obtain ⟨d0,hd0⟩:∃y,y=tx z.1:=⟨_,rfl⟩
           obtain ⟨z3,hz3⟩:∃y,y=usB z:=⟨_,rfl⟩
           obtain ⟨z4,hz4⟩:∃y,y=usE z:=⟨_,rfl⟩
           have HJ0:Hid (bz<wr.heap.size∧wr.cell? ⟨bz,j * 5,none⟩=some (.string d0)):=HCX.out j z hz 0 _ (by rw [hd0];exact (au z).2.2.2.2)
           have HZ3:Hid (bz<wr.heap.size∧wr.cell? ⟨bz,j * 5+3,none⟩=some (.int .i64 z3)):=HCX.out j z hz 3 _ (by rw [hz3];exact (au z).2.2.1)
           have HZ4:Hid (bz<wr.heap.size∧wr.cell? ⟨bz,j * 5+4,none⟩=some (.int .i64 z4)):=HCX.out j z hz 4 _ (by rw [hz4];exact (au z).2.2.2.1)
           have HK0:Hid (bz<wr.heap.size∧wr.cell? ⟨bz,k * 5,none⟩=some (.string y)):=HCX.out k x HXK.out 0 _ (by rw [HYK.out];exact (au x).2.2.2.2)
           have hzb:=HQ.out.use z hzm
           rw [←hz3,←hz4] at hzb
           obtain ⟨n1,hn1⟩:∃z,z=vb+z3:=⟨_,rfl⟩
           obtain ⟨n2,hn2⟩:∃z,z=ve+z4:=⟨_,rfl⟩
           have hw1:IntKind.i64.wrap (vb+z3)=n1:=(bo _ (by omega) (by omega)).trans hn1.symm
           have hw2:IntKind.i64.wrap (ve+z4)=n2:=(bo _ (by omega) (by omega)).trans hn2.symm
           obtain ⟨d,hd⟩:∃y,y=tx z.1.dropLast:=⟨_,rfl⟩
           obtain ⟨q,hq⟩:∃y,y = !decide (z.1=[]):=⟨_,rfl⟩
           have HPA:Hid (∀W,Below w7.heap.size w7 W→Calls Tryz.prog 25 #[.string d0] W fun e w'=>e=.returned (.tuple #[.string d,.bool q])∧Below W.heap.size W w'):=fun W hW=>by
            have h1:=bR (tx z.1) W (by have:=aU okz;omega) (HS.out.st.mx.below hW)
            obtain ⟨e1,e2⟩:=dN okz
            rw [e1,e2,←hd,←hq,←hd0] at h1
            exact h1
           have hkid:isKid z x.1=(q&&decide (d=y)):=by rw [hq,hd];exact HKI.out z hzm
           have hm:=Mem.start wr
           cases q with
           | false =>
            have HNX:Hid (vb=ob+sK usB p' x (j+1)∧ve=oe+sK usE p' x (j+1)):=by
             have h1:isKid z x.1=false:=by rw [hkid,Bool.false_and]
             rw [bF hz h1,bF hz h1];exact HV.out
            clear hz hzm okz hd0 hz3 hz4 hn1 hn2 hw1 hw2 hd hq hkid hzb hub HZ3 HZ4
            go_wp2_with (first
             | ((with_reducible refine aa (some 125) (.indexAddr 46 (.tmp 123) (.tmp 124)) ?_);go_must (refine ab (.pointer (some ⟨bz,j * 5,none⟩)) rfl (am 5 j ay ap rfl rfl rfl hjl) ?_))
             | ((with_reducible refine aa (some 127) (.load 9 (.tmp 126)) ?_);go_must (refine ab (.string d0) rfl (al (.string d0) HJ0.out.2 rfl aq) ?_))
             | (go_at_call 25;refine (HPA.out _ HB.out).mono ?_;rintro e w8 ⟨he,hb⟩;subst he;replace hm:=hm.call hb;clear hb))
            go_roundw
            case rel=>exact ⟨j+1,by omega,by go_num,vb,ve,rfl,rfl,HNX,HB.out.trans (hm.below.mono HB.out.size)⟩
            case measure=>show N - ((j:Int)+1).toNat<N - (j:Int).toNat;omega
           | true =>
            by_cases hds:d=y
            ·have HE:Hid ((d==y)=true):=by rw [hds];exact c4 y
             have HNX:Hid (n1=ob+sK usB p' x (j+1)∧n2=oe+sK usE p' x (j+1)):=by
              have h1:isKid z x.1=true:=by rw [hkid,decide_eq_true hds];rfl
              rw [dm hz h1,dm hz h1,hn1,hn2,←hz3,←hz4,HV.out.1,HV.out.2]
              exact ⟨Int.add_assoc _ _ _,Int.add_assoc _ _ _⟩
             clear hz hzm okz hd0 hz3 hz4 hn1 hn2 hd hq hkid hzb hub hds
             go_wp2_with (first
              | ((with_reducible refine aa (some 125) (.indexAddr 46 (.tmp 123) (.tmp 124)) ?_);go_must (refine ab (.pointer (some ⟨bz,j * 5,none⟩)) rfl (am 5 j ay ap rfl rfl rfl hjl) ?_))
              | ((with_reducible refine aa (some 127) (.load 9 (.tmp 126)) ?_);go_must (refine ab (.string d0) rfl (al (.string d0) HJ0.out.2 rfl aq) ?_))
              | (go_at_call 25;refine (HPA.out _ HB.out).mono ?_;rintro e w8 ⟨he,hb⟩;subst he;replace hm:=hm.call hb;clear hb)
              | ((with_reducible refine aw (some 136) (.indexAddr 46 (.tmp 134) (.tmp 135)) (some (1,true)) ?_);go_must (refine ab (.pointer (some ⟨bz,k * 5,none⟩)) rfl (am 5 k ay ap rfl rfl rfl hkl) ?_))
              | ((with_reducible refine aw (some 138) (.load 9 (.tmp 137)) (some (1,true)) ?_);go_must (refine ab (.string y) rfl (al (.string y) ((hm.below.cell (p:=⟨bz,k * 5,none⟩) HK0.out.1).trans HK0.out.2) rfl aq) ?_))
              | ((with_reducible refine aw (some 139) (.binOp .eql 9 (.tmp 133) (.tmp 138) 9) (some (1,true)) ?_);go_must (refine ab (.bool true) rfl (aM d y true rfl rfl HE.out) ?_)))
             refine ak ?_
             refine ag (T:=fun W=>Mem wr [] W []) (by kernel_rfl) hm ?_
             intro wc hbw hmw
             clear hm
             have hm:=hmw
             clear hbw hmw
             refine aT 0 (v:=.int .i64 vb) rfl (by kernel_rfl) rfl (fun W _=>by go_simp) hm ?_
             go_simp
             refine aT 1 (v:=.slice (some ⟨bz,0,none⟩) N cz) rfl (by kernel_rfl) rfl (fun W _=>by go_simp) hm ?_
             go_simp
             refine aT 2 (v:=.int .i64 (j:Int)) rfl (by kernel_rfl) rfl (fun W _=>by go_simp) hm ?_
             go_simp
             refine aT 3 (v:=.pointer (some ⟨bz,j * 5,none⟩)) rfl (by kernel_rfl) rfl (fun W _=>am 5 j ay ap rfl rfl rfl hjl) hm ?_
             go_simp
             refine aT 4 (v:=.pointer (some ⟨bz,j * 5+3,none⟩)) rfl (by kernel_rfl) rfl (fun W _=>by go_simp) hm ?_
             go_simp
             refine aT 5 (v:=.int .i64 z3) rfl (by kernel_rfl) rfl (fun W hW=>al (.int .i64 z3) ((hW.below.cell (p:=⟨bz,j * 5+3,none⟩) HZ3.out.1).trans HZ3.out.2) rfl ah) hm ?_
             go_simp
             refine aT 6 (v:=.int .i64 n1) rfl (by kernel_rfl) rfl (fun W _=>by go_simp<;>exact hw1) hm ?_
             go_simp
             refine aT 7 (v:=.int .i64 ve) rfl (by kernel_rfl) rfl (fun W _=>by go_simp) hm ?_
             go_simp
             refine aT 8 (v:=.slice (some ⟨bz,0,none⟩) N cz) rfl (by kernel_rfl) rfl (fun W _=>by go_simp) hm ?_
             go_simp
             refine aT 9 (v:=.int .i64 (j:Int)) rfl (by kernel_rfl) rfl (fun W _=>by go_simp) hm ?_
             go_simp
             refine aT 10 (v:=.pointer (some ⟨bz,j * 5,none⟩)) rfl (by kernel_rfl) rfl (fun W _=>am 5 j ay ap rfl rfl rfl hjl) hm ?_
             go_simp
             refine aT 11 (v:=.pointer (some ⟨bz,j * 5+4,none⟩)) rfl (by kernel_rfl) rfl (fun W _=>by go_simp) hm ?_
             go_simp
             refine aT 12 (v:=.int .i64 z4) rfl (by kernel_rfl) rfl (fun W hW=>al (.int .i64 z4) ((hW.below.cell (p:=⟨bz,j * 5+4,none⟩) HZ4.out.1).trans HZ4.out.2) rfl ah) hm ?_
             go_simp
             refine aT 13 (v:=.int .i64 n2) rfl (by kernel_rfl) rfl (fun W _=>by go_simp<;>exact hw2) hm ?_
             go_simp
             refine aT 14 (v:=.int .i64 n1) rfl (by kernel_rfl) rfl (fun W _=>by go_simp) hm ?_
             go_simp
             refine aT 15 (v:=.int .i64 n2) rfl (by kernel_rfl) rfl (fun W _=>by go_simp) hm ?_
             go_simp
             refine wpAnyH_done (by kernel_rfl) ?_ _
             simp only [endsIn]
             go_wp2_with fail
             go_roundw
             case rel=>exact ⟨j+1,by omega,by go_num,n1,n2,rfl,rfl,HNX,HB.out.trans (hm.below.mono HB.out.size)⟩
             case measure=>show N - ((j:Int)+1).toNat<N - (j:Int).toNat;omega
            ·have HE:Hid ((d==y)=false):=cE hds
             have HNX:Hid (vb=ob+sK usB p' x (j+1)∧ve=oe+sK usE p' x (j+1)):=by
              have h1:isKid z x.1=false:=by rw [hkid,decide_eq_false hds];rfl
              rw [bF hz h1,bF hz h1];exact HV.out
             clear hz hzm okz hd0 hz3 hz4 hn1 hn2 hw1 hw2 hd hq hkid hzb hub hds HZ3 HZ4
             go_wp2_with (first
              | ((with_reducible refine aa (some 125) (.indexAddr 46 (.tmp 123) (.tmp 124)) ?_);go_must (refine ab (.pointer (some ⟨bz,j * 5,none⟩)) rfl (am 5 j ay ap rfl rfl rfl hjl) ?_))
              | ((with_reducible refine aa (some 127) (.load 9 (.tmp 126)) ?_);go_must (refine ab (.string d0) rfl (al (.string d0) HJ0.out.2 rfl aq) ?_))
              | (go_at_call 25;refine (HPA.out _ HB.out).mono ?_;rintro e w8 ⟨he,hb⟩;subst he;replace hm:=hm.call hb;clear hb)
              | ((with_reducible refine aw (some 136) (.indexAddr 46 (.tmp 134) (.tmp 135)) (some (1,true)) ?_);go_must (refine ab (.pointer (some ⟨bz,k * 5,none⟩)) rfl (am 5 k ay ap rfl rfl rfl hkl) ?_))
              | ((with_reducible refine aw (some 138) (.load 9 (.tmp 137)) (some (1,true)) ?_);go_must (refine ab (.string y) rfl (al (.string y) ((hm.below.cell (p:=⟨bz,k * 5,none⟩) HK0.out.1).trans HK0.out.2) rfl aq) ?_))
              | ((with_reducible refine aw (some 139) (.binOp .eql 9 (.tmp 133) (.tmp 138) 9) (some (1,true)) ?_);go_must (refine ab (.bool false) rfl (aM d y false rfl rfl HE.out) ?_)))
             go_roundw
             case rel=>exact ⟨j+1,by omega,by go_num,vb,ve,rfl,rfl,HNX,HB.out.trans (hm.below.mono HB.out.size)⟩
             case measure=>show N - ((j:Int)+1).toNat<N - (j:Int).toNat;omega
          ·have hjn:j=N:=by omega
           have hji:¬(j:Int)<(N:Int):=by omega
           have e3:vb=u3:=by rw [HV.out.1,hjn];exact HALL.out.1
           have e4:ve=u4:=by rw [HV.out.2,hjn];exact HALL.out.2
           subst e3 e4
           clear hjn hub
           have HC3:Hid (bz<wr.heap.size∧wr.cell? ⟨bz,k * 5+3,none⟩=some (.int .i64 vb)):=HCX.out k x HXK.out 3 _ (by rw [HUK.out.1];exact (au x).2.2.1)
           have HC4:Hid (bz<wr.heap.size∧wr.cell? ⟨bz,k * 5+4,none⟩=some (.int .i64 ve)):=HCX.out k x HXK.out 4 _ (by rw [HUK.out.2];exact (au x).2.2.2.1)
           have hm:=Mem.start wr
           go_wp2_with (first
            | ((with_reducible refine aa (some 158) (.indexAddr 46 (.tmp 156) (.tmp 157)) ?_);go_must (refine ab (.pointer (some ⟨bz,k * 5,none⟩)) rfl (am 5 k ay ap rfl rfl rfl hkl) ?_))
            | ((with_reducible refine aa (some 160) (.load 3 (.tmp 159)) ?_);go_must (refine ab (.int .i64 vb) rfl (al (.int .i64 vb) HC3.out.2 rfl ah) ?_))
            | ((with_reducible refine aw (some 166) (.indexAddr 46 (.tmp 164) (.tmp 165)) (some (7,false)) ?_);go_must (refine ab (.pointer (some ⟨bz,k * 5,none⟩)) rfl (am 5 k ay ap rfl rfl rfl hkl) ?_))
            | ((with_reducible refine aw (some 168) (.load 3 (.tmp 167)) (some (7,false)) ?_);go_must (refine ab (.int .i64 ve) rfl (al (.int .i64 ve) HC4.out.2 rfl ah) ?_)))
           go_roundw
           case rel=>exact ⟨k+1,by omega,by go_num,HB.out⟩
           case measure=>show N - ((k:Int)+1).toNat<N - (k:Int).toNat;omega
        ·have hkn:k=N:=by omega
         have hki:¬(k:Int)<(N:Int):=by omega
         go_wp2_with fail
         go_roundw
         case rel=>exact ⟨i+1,by omega,by go_num,p',oB',oE',aJ HS.out.bel HS.out.bel.size HB.out,HS.out.st.below HB.out,HPL.out⟩
         case measure=>show n - ((i:Int)+1).toNat<n - (i:Int).toNat;omega
      ·have h4b:(wh==4)=false:=by rw [beq_eq_false_iff_ne];exact h4
       clear h4
       go_wp2_with (first
        | ((with_reducible refine aa (some 29) (.indexAddr 22 (.tmp 27) (.tmp 28)) ?_);go_must (refine ab (.pointer (some ⟨b,o+i * 4,none⟩)) rfl (cA 4 i cB bC rfl rfl rfl hlt) ?_))
        | ((with_reducible refine aa (some 30) (.load 31 (.tmp 29)) ?_);go_must (refine ab (.agg R.toArray) rfl (bg (o+i * 4) 4 R _ rfl HRC.out dM rfl bC HRL.out) ?_))
        | ((with_reducible refine aa (some 5) (.alloc 31) ?_);refine ad _ cT hm ?_;clear hm;intro w3 g5 hm)
        | ((with_reducible refine aa none (.store 31 (.tmp 5) (.tmp 30)) ?_);refine af 0 R hm rfl rfl rfl 4 bC rfl HRL.out HRO.out ?_;clear hm;intro w4 hm;have HS:Hid (SuS w w4 lb nb m (i+1) g5 p oB oE R):=⟨aJ HS0.out.1 HS0.out.1.size hm.below,hwm,HS0.out.2.1.below hm.below,hm.get 0 rfl⟩;clear hm)
        | ((with_reducible refine aa (some 32) (.load 9 (.tmp 31)) ?_);go_must (refine ab (.string s) rfl (ae 1 (.string s) HS.out.row rfl aq HR1.out) ?_))
        | ((with_reducible refine aa (some 41) (.load 3 (.tmp 40)) ?_);go_must (refine ab (.int .i64 wh) rfl (ae 0 (.int .i64 wh) HS.out.row rfl ah HR0.out) ?_))
        | ((with_reducible refine aa (some 53) (.load 3 (.tmp 52)) ?_);go_must (refine ab (.int .i64 wh) rfl (ae 0 (.int .i64 wh) HS.out.row rfl ah HR0.out) ?_))
        | ((with_reducible refine aa (some 37) (.load 9 (.tmp 36)) ?_);go_must (refine ab (.string s) rfl (ae 1 (.string s) HS.out.row rfl aq HR1.out) ?_))
        | (go_at_call 17;refine (remove_x HS.out.st (by omega) (by have:=HS0.out.2.2;omega) s HSZ.out).mono ?_;rintro e w5 ⟨v0,r0,p',oB',oE',he,hn,hlen,hu⟩;subst he;replace HS:Hid (SuS w w5 lb nb m (i+1+1) g5 p' oB' oE' R):=HS.out.upd hn hu;have hl9:p'.length≤i+1+1:=(by have:=HS0.out.2.2;omega);clear hn hu hlen))
       have HQ:Hid (QtOk p' oB' oE'):=HS.out.st.qt
       have HPL:Hid (p'.length≤i+1+1):=hl9
       clear hl9
       go_wp2_with (first
        | (go_at_call 14;refine (cW _ HS.out.st.lg).mono ?_;rintro e w6 ⟨he,hb⟩;subst he;replace HS:Hid (SuS w w6 lb nb m (i+1+1) g5 p' oB' oE' R):=HS.out.below hb;clear hb)
        | (go_at_call 23;refine (all_n HS.out.st.lg.nm (by omega) (by have:=HPL.out;omega) HS.out.st.mx).mono ?_;rintro e w7 ⟨va,he,hsp,hb⟩;subst he;replace HS:Hid (SuS w w7 lb nb m (i+1+1) g5 p' oB' oE' R):=HS.out.below hb;obtain ⟨pz,cz,rfl,hz⟩:=hsp;obtain ⟨bz,rfl,_,hz3,hz4⟩:=hz HQ.out.tr.pos;have HZ:Hid (∀i x,p'[i]?=some x→∀j u,(spv x)[j]?=some u→bz<w7.heap.size∧w7.cell? ⟨bz,i * 5+j,none⟩=some u):=fun i x hx j u hu=>⟨hz3,hz4 i x hx j u hu⟩;clear hb hz hz3 hz4))
       obtain ⟨N,hN⟩:∃N,N=p'.length:=⟨_,rfl⟩
       have HNP:Hid (N=p'.length):=hN
       have hN9:N≤42:=by have:=HPL.out;omega
       rw [←hN]
       clear hN
       go_loopw [7] (fun vk wr=>∃k:Nat,k≤N∧vk=.int .i64 (k:Int)∧Hid (Below w7.heap.size w7 wr)) (fun vk _=>match vk with | .int _ q=>N - q.toNat|_=>0)
       case atStart=>exact ⟨0,by omega,rfl,Below.refl _ _⟩
       case round =>
        obtain ⟨k,hk,rfl,HB⟩:=hrel
        by_cases hkl:k<N
        ·have hki:(k:Int)<(N:Int):=by omega
         have hwk:IntKind.i64.wrap ((k:Int)+1)=(k:Int)+1:=cr _ (by omega) (by omega)
         obtain ⟨x,hx⟩:∃x,p'[k]?=some x:=⟨p'[k]'(by have:=HNP.out;omega),by simp [show k<p'.length by have:=HNP.out;omega]⟩
         have hxm:x∈p':=List.mem_of_getElem? hx
         have okx:PlOk x.1:=HQ.out.tr.ok.ok x hxm
         obtain ⟨y,hy⟩:∃y,y=tx x.1:=⟨_,rfl⟩
         obtain ⟨u3,hu3⟩:∃z,z=usB x:=⟨_,rfl⟩
         obtain ⟨u4,hu4⟩:∃z,z=usE x:=⟨_,rfl⟩
         obtain ⟨l1,hl1⟩:∃z,z=lmB x:=⟨_,rfl⟩
         obtain ⟨l2,hl2⟩:∃z,z=lmE x:=⟨_,rfl⟩
         have HXK:Hid (p'[k]?=some x):=hx
         have HYK:Hid (y=tx x.1):=hy
         have HUK:Hid (u3=usB x∧u4=usE x):=⟨hu3,hu4⟩
         have HCX:Hid (∀j u,(spv x)[j]?=some u→bz<wr.heap.size∧wr.cell? ⟨bz,k * 5+j,none⟩=some u):=fun j u hu=>by
          have h1:=HZ.out k x hx j u hu
          exact ⟨Nat.lt_of_lt_of_le h1.1 HB.out.size,(HB.out.cell (p:=⟨bz,k * 5+j,none⟩) h1.1).trans h1.2⟩
         have HC0:Hid (bz<wr.heap.size∧wr.cell? ⟨bz,k * 5,none⟩=some (.string y)):=HCX.out 0 _ (by rw [hy];exact (au x).2.2.2.2)
         have HC1:Hid (bz<wr.heap.size∧wr.cell? ⟨bz,k * 5+1,none⟩=some (.int .i64 l1)):=HCX.out 1 _ (by rw [hl1];exact (au x).1)
         have HC2:Hid (bz<wr.heap.size∧wr.cell? ⟨bz,k * 5+2,none⟩=some (.int .i64 l2)):=HCX.out 2 _ (by rw [hl2];exact (au x).2.1)
         have HC3:Hid (bz<wr.heap.size∧wr.cell? ⟨bz,k * 5+3,none⟩=some (.int .i64 u3)):=HCX.out 3 _ (by rw [hu3];exact (au x).2.2.1)
         have HC4:Hid (bz<wr.heap.size∧wr.cell? ⟨bz,k * 5+4,none⟩=some (.int .i64 u4)):=HCX.out 4 _ (by rw [hu4];exact (au x).2.2.2.1)
         have hlim:=HQ.out.lim x hxm
         rw [←hu3,←hu4,←hl1,←hl2] at hlim
         have hc3:¬l1<u3:=by omega
         have hc4:¬l2<u4:=by omega
         obtain ⟨hgy,hob,hoe⟩:=cC HQ.out y x hxm hy.symm
         obtain ⟨hob2,hoe2⟩:=HQ.out.ow x hxm
         have hpos:=HQ.out.own x.1
         obtain ⟨ob,hob3⟩:∃z,z=oB' x.1:=⟨_,rfl⟩
         obtain ⟨oe,hoe3⟩:∃z,z=oE' x.1:=⟨_,rfl⟩
         have HOW:Hid (∀W,Below w7.heap.size w7 W→Calls Tryz.prog 20 #[.pointer (some ⟨lb,0,none⟩),.string y] W fun e w'=>e=.returned (.tuple #[.int .i64 ob,.int .i64 oe,.bool true])∧Below W.heap.size W w'):=fun W hW=>by
          have h9:=ownF_l (HS.out.st.below hW).lg HQ.out y
          rw [hgy,←hob,←hoe,hob2,hoe2,←hob3,←hoe3] at h9
          exact h9
         rw [←hob3,←hoe3] at hpos
         have hnb:¬ob<0:=by omega
         have hne:¬oe<0:=by omega
         have HLB:Hid (∀j,(0≤ob+sK usB p' x j∧ob+sK usB p' x j≤1000000)∧0≤oe+sK usE p' x j∧oe+sK usE p' x j≤1000000):=fun j=>by rw [hob3,hoe3];exact HQ.out.sK_bd hxm j
         have HALL:Hid (ob+sK usB p' x N=u3∧oe+sK usE p' x N=u4):=by
          have h9:=HQ.out.sK_all hxm
          rw [←HNP.out,←hob3,←hoe3,←hu3,←hu4] at h9
          exact h9
         have HZ0:Hid (ob=ob+sK usB p' x 0∧oe=oe+sK usE p' x 0):=by
          have h9:ob=ob+sK usB p' x 0∧oe=oe+sK usE p' x 0:=by rw [cy,cy];omega
          exact h9
         have HKI:Hid (∀z∈p',isKid z x.1=(!decide (z.1=[])&&decide (tx z.1.dropLast=y))):=fun z hz=>by rw [cR (HQ.out.tr.ok.ok z hz) okx,hy]
         have hm:=Mem.start wr
         have hn33:(u3 != u3)=false:=by simp
         have hn44:(u4 != u4)=false:=by simp
         clear hx hxm okx hy hu3 hu4 hl1 hl2 hlim hgy hob hoe hob2 hoe2 hpos hob3 hoe3
         go_wp2_with (first
          | ((with_reducible refine aa (some 73) (.indexAddr 46 (.tmp 71) (.tmp 72)) ?_);go_must (refine ab (.pointer (some ⟨bz,k * 5,none⟩)) rfl (am 5 k ay ap rfl rfl rfl hkl) ?_))
          | ((with_reducible refine aa (some 75) (.load 9 (.tmp 74)) ?_);go_must (refine ab (.string y) rfl (al (.string y) HC0.out.2 rfl aq) ?_))
          | (go_at_call 20;refine (HOW.out _ HB.out).mono ?_;rintro e w8 ⟨he,hb⟩;subst he;replace hm:=hm.call hb;clear hb))
         refine ak ?_
         refine ag (T:=fun W=>Mem wr [] W []) (by kernel_rfl) hm ?_
         intro wc hbw hmw
         clear hm
         have hm:=hmw
         clear hbw hmw
         refine aT 0 (v:=.bool true) rfl (by kernel_rfl) rfl (fun W _=>by go_simp) hm ?_
         go_simp
         refine aT 1 (v:=.bool false) rfl (by kernel_rfl) rfl (fun W _=>by go_simp) hm ?_
         go_simp
         refine aT 2 (v:=.bool false) rfl (by kernel_rfl) rfl (fun W _=>by go_simp) hm ?_
         go_simp
         refine aG 3 (v:=.int .i64 ob) rfl (by kernel_rfl) rfl (fun W _=>by go_simp) hm ?_
         go_simp
         refine aG 4 (v:=.bool false) rfl (by kernel_rfl) rfl (fun W _=>by go_simp) hm ?_
         go_simp
         refine aT 5 (v:=.bool false) rfl (by kernel_rfl) rfl (fun W _=>by go_simp) hm ?_
         go_simp
         refine aT 6 (v:=.bool false) rfl (by kernel_rfl) rfl (fun W _=>by go_simp) hm ?_
         go_simp
         refine aG 7 (v:=.int .i64 oe) rfl (by kernel_rfl) rfl (fun W _=>by go_simp) hm ?_
         go_simp
         refine aG 8 (v:=.bool false) rfl (by kernel_rfl) rfl (fun W _=>by go_simp) hm ?_
         go_simp
         refine aT 9 (v:=.bool false) rfl (by kernel_rfl) rfl (fun W _=>by go_simp) hm ?_
         go_simp
         refine aT 10 (v:=.bool false) rfl (by kernel_rfl) rfl (fun W _=>by go_simp) hm ?_
         go_simp
         refine aG 11 (v:=.slice (some ⟨bz,0,none⟩) N cz) rfl (by kernel_rfl) rfl (fun W _=>by go_simp) hm ?_
         go_simp
         refine aG 12 (v:=.int .i64 (k:Int)) rfl (by kernel_rfl) rfl (fun W _=>by go_simp) hm ?_
         go_simp
         refine aG 13 (v:=.pointer (some ⟨bz,k * 5,none⟩)) rfl (by kernel_rfl) rfl (fun W _=>am 5 k ay ap rfl rfl rfl hkl) hm ?_
         go_simp
         refine aG 14 (v:=.pointer (some ⟨bz,k * 5+3,none⟩)) rfl (by kernel_rfl) rfl (fun W _=>by go_simp) hm ?_
         go_simp
         refine aG 15 (v:=.int .i64 u3) rfl (by kernel_rfl) rfl (fun W hW=>al (.int .i64 u3) ((hW.below.cell (p:=⟨bz,k * 5+3,none⟩) HC3.out.1).trans HC3.out.2) rfl ah) hm ?_
         go_simp
         refine aG 16 (v:=.slice (some ⟨bz,0,none⟩) N cz) rfl (by kernel_rfl) rfl (fun W _=>by go_simp) hm ?_
         go_simp
         refine aG 17 (v:=.int .i64 (k:Int)) rfl (by kernel_rfl) rfl (fun W _=>by go_simp) hm ?_
         go_simp
         refine aG 18 (v:=.pointer (some ⟨bz,k * 5,none⟩)) rfl (by kernel_rfl) rfl (fun W _=>am 5 k ay ap rfl rfl rfl hkl) hm ?_
         go_simp
         refine aG 19 (v:=.pointer (some ⟨bz,k * 5+1,none⟩)) rfl (by kernel_rfl) rfl (fun W _=>by go_simp) hm ?_
         go_simp
         refine aG 20 (v:=.int .i64 l1) rfl (by kernel_rfl) rfl (fun W hW=>al (.int .i64 l1) ((hW.below.cell (p:=⟨bz,k * 5+1,none⟩) HC1.out.1).trans HC1.out.2) rfl ah) hm ?_
         go_simp
         refine aG 21 (v:=.bool false) rfl (by kernel_rfl) rfl (fun W _=>by go_simp) hm ?_
         go_simp
         refine aT 22 (v:=.bool false) rfl (by kernel_rfl) rfl (fun W _=>by go_simp) hm ?_
         go_simp
         refine aT 23 (v:=.bool false) rfl (by kernel_rfl) rfl (fun W _=>by go_simp) hm ?_
         go_simp
         refine aG 24 (v:=.slice (some ⟨bz,0,none⟩) N cz) rfl (by kernel_rfl) rfl (fun W _=>by go_simp) hm ?_
         go_simp
         refine aG 25 (v:=.int .i64 (k:Int)) rfl (by kernel_rfl) rfl (fun W _=>by go_simp) hm ?_
         go_simp
         refine aG 26 (v:=.pointer (some ⟨bz,k * 5,none⟩)) rfl (by kernel_rfl) rfl (fun W _=>am 5 k ay ap rfl rfl rfl hkl) hm ?_
         go_simp
         refine aG 27 (v:=.pointer (some ⟨bz,k * 5+4,none⟩)) rfl (by kernel_rfl) rfl (fun W _=>by go_simp) hm ?_
         go_simp
         refine aG 28 (v:=.int .i64 u4) rfl (by kernel_rfl) rfl (fun W hW=>al (.int .i64 u4) ((hW.below.cell (p:=⟨bz,k * 5+4,none⟩) HC4.out.1).trans HC4.out.2) rfl ah) hm ?_
         go_simp
         refine aG 29 (v:=.slice (some ⟨bz,0,none⟩) N cz) rfl (by kernel_rfl) rfl (fun W _=>by go_simp) hm ?_
         go_simp
         refine aG 30 (v:=.int .i64 (k:Int)) rfl (by kernel_rfl) rfl (fun W _=>by go_simp) hm ?_
         go_simp
         refine aG 31 (v:=.pointer (some ⟨bz,k * 5,none⟩)) rfl (by kernel_rfl) rfl (fun W _=>am 5 k ay ap rfl rfl rfl hkl) hm ?_
         go_simp
         refine aG 32 (v:=.pointer (some ⟨bz,k * 5+2,none⟩)) rfl (by kernel_rfl) rfl (fun W _=>by go_simp) hm ?_
         go_simp
         refine aG 33 (v:=.int .i64 l2) rfl (by kernel_rfl) rfl (fun W hW=>al (.int .i64 l2) ((hW.below.cell (p:=⟨bz,k * 5+2,none⟩) HC2.out.1).trans HC2.out.2) rfl ah) hm ?_
         go_simp
         refine aG 34 (v:=.bool false) rfl (by kernel_rfl) rfl (fun W _=>by go_simp) hm ?_
         go_simp
         refine aT 35 (v:=.bool false) rfl (by kernel_rfl) rfl (fun W _=>by go_simp) hm ?_
         go_simp
         refine wpAnyH_done (by kernel_rfl) ?_ _
         simp only [endsIn]
         go_wp2_with fail
         have HB8:Hid (Below w7.heap.size w7 _):=HB.out.trans (hm.below.mono HB.out.size)
         clear hm HOW hnb hne hc3 hc4
         go_loopw [11,8,9] (fun vj v8 v9 wr=>∃j:Nat,j≤N∧vj=.int .i64 (j:Int)∧∃vb ve:Int,v8=.int .i64 vb∧v9=.int .i64 ve∧Hid (vb=ob+sK usB p' x j∧ve=oe+sK usE p' x j)∧Hid (Below w7.heap.size w7 wr)) (fun vj _ _ _=>match vj with | .int _ q=>N - q.toNat|_=>0)
         case atStart=>exact ⟨0,by omega,rfl,ob,oe,rfl,rfl,HZ0,HB8⟩
         case round =>
          clear HB8 HC0 HC1 HC2 HC3 HC4 HCX HB
          obtain ⟨j,hj,rfl,vb,ve,rfl,rfl,HV,HB⟩:=hrel
          have HCX:Hid (∀i x,p'[i]?=some x→∀j u,(spv x)[j]?=some u→bz<wr.heap.size∧wr.cell? ⟨bz,i * 5+j,none⟩=some u):=fun i x hx j u hu=>by
           have h1:=HZ.out i x hx j u hu
           exact ⟨Nat.lt_of_lt_of_le h1.1 HB.out.size,(HB.out.cell (p:=⟨bz,i * 5+j,none⟩) h1.1).trans h1.2⟩
          have hub:=HLB.out j
          rw [←HV.out.1] at hub
          rw [←HV.out.2] at hub
          by_cases hjl:j<N
          ·have hji:(j:Int)<(N:Int):=by omega
           have hwj:IntKind.i64.wrap ((j:Int)+1)=(j:Int)+1:=cr _ (by omega) (by omega)
           obtain ⟨z,hz⟩:∃z,p'[j]?=some z:=⟨p'[j]'(by have:=HNP.out;omega),by simp [show j<p'.length by have:=HNP.out;omega]⟩
           have hzm:z∈p':=List.mem_of_getElem? hz
           have okz:PlOk z.1:=HQ.out.tr.ok.ok z hzm
           obtain ⟨d0,hd0⟩:∃y,y=tx z.1:=⟨_,rfl⟩
           obtain ⟨z3,hz3⟩:∃y,y=usB z:=⟨_,rfl⟩
           obtain ⟨z4,hz4⟩:∃y,y=usE z:=⟨_,rfl⟩
           have HJ0:Hid (bz<wr.heap.size∧wr.cell? ⟨bz,j * 5,none⟩=some (.string d0)):=HCX.out j z hz 0 _ (by rw [hd0];exact (au z).2.2.2.2)
           have HZ3:Hid (bz<wr.heap.size∧wr.cell? ⟨bz,j * 5+3,none⟩=some (.int .i64 z3)):=HCX.out j z hz 3 _ (by rw [hz3];exact (au z).2.2.1)
           have HZ4:Hid (bz<wr.heap.size∧wr.cell? ⟨bz,j * 5+4,none⟩=some (.int .i64 z4)):=HCX.out j z hz 4 _ (by rw [hz4];exact (au z).2.2.2.1)
           have HK0:Hid (bz<wr.heap.size∧wr.cell? ⟨bz,k * 5,none⟩=some (.string y)):=HCX.out k x HXK.out 0 _ (by rw [HYK.out];exact (au x).2.2.2.2)
           have hzb:=HQ.out.use z hzm
           rw [←hz3,←hz4] at hzb
           obtain ⟨n1,hn1⟩:∃z,z=vb+z3:=⟨_,rfl⟩
           obtain ⟨n2,hn2⟩:∃z,z=ve+z4:=⟨_,rfl⟩
           have hw1:IntKind.i64.wrap (vb+z3)=n1:=(bo _ (by omega) (by omega)).trans hn1.symm
           have hw2:IntKind.i64.wrap (ve+z4)=n2:=(bo _ (by omega) (by omega)).trans hn2.symm
           obtain ⟨d,hd⟩:∃y,y=tx z.1.dropLast:=⟨_,rfl⟩
           obtain ⟨q,hq⟩:∃y,y = !decide (z.1=[]):=⟨_,rfl⟩
           have HPA:Hid (∀W,Below w7.heap.size w7 W→Calls Tryz.prog 25 #[.string d0] W fun e w'=>e=.returned (.tuple #[.string d,.bool q])∧Below W.heap.size W w'):=fun W hW=>by
            have h1:=bR (tx z.1) W (by have:=aU okz;omega) (HS.out.st.mx.below hW)
            obtain ⟨e1,e2⟩:=dN okz
            rw [e1,e2,←hd,←hq,←hd0] at h1
            exact h1
           have hkid:isKid z x.1=(q&&decide (d=y)):=by rw [hq,hd];exact HKI.out z hzm
           have hm:=Mem.start wr
           cases q with
           | false =>
            have HNX:Hid (vb=ob+sK usB p' x (j+1)∧ve=oe+sK usE p' x (j+1)):=by
             have h1:isKid z x.1=false:=by rw [hkid,Bool.false_and]
             rw [bF hz h1,bF hz h1];exact HV.out
            clear hz hzm okz hd0 hz3 hz4 hn1 hn2 hw1 hw2 hd hq hkid hzb hub HZ3 HZ4
            go_wp2_with (first
             | ((with_reducible refine aa (some 125) (.indexAddr 46 (.tmp 123) (.tmp 124)) ?_);go_must (refine ab (.pointer (some ⟨bz,j * 5,none⟩)) rfl (am 5 j ay ap rfl rfl rfl hjl) ?_))
             | ((with_reducible refine aa (some 127) (.load 9 (.tmp 126)) ?_);go_must (refine ab (.string d0) rfl (al (.string d0) HJ0.out.2 rfl aq) ?_))
             | (go_at_call 25;refine (HPA.out _ HB.out).mono ?_;rintro e w8 ⟨he,hb⟩;subst he;replace hm:=hm.call hb;clear hb))
            go_roundw
            case rel=>exact ⟨j+1,by omega,by go_num,vb,ve,rfl,rfl,HNX,HB.out.trans (hm.below.mono HB.out.size)⟩
            case measure=>show N - ((j:Int)+1).toNat<N - (j:Int).toNat;omega
           | true =>
            by_cases hds:d=y
            ·have HE:Hid ((d==y)=true):=by rw [hds];exact c4 y
             have HNX:Hid (n1=ob+sK usB p' x (j+1)∧n2=oe+sK usE p' x (j+1)):=by
              have h1:isKid z x.1=true:=by rw [hkid,decide_eq_true hds];rfl
              rw [dm hz h1,dm hz h1,hn1,hn2,←hz3,←hz4,HV.out.1,HV.out.2]
              exact ⟨Int.add_assoc _ _ _,Int.add_assoc _ _ _⟩
             clear hz hzm okz hd0 hz3 hz4 hn1 hn2 hd hq hkid hzb hub hds
             go_wp2_with (first
              | ((with_reducible refine aa (some 125) (.indexAddr 46 (.tmp 123) (.tmp 124)) ?_);go_must (refine ab (.pointer (some ⟨bz,j * 5,none⟩)) rfl (am 5 j ay ap rfl rfl rfl hjl) ?_))
              | ((with_reducible refine aa (some 127) (.load 9 (.tmp 126)) ?_);go_must (refine ab (.string d0) rfl (al (.string d0) HJ0.out.2 rfl aq) ?_))
              | (go_at_call 25;refine (HPA.out _ HB.out).mono ?_;rintro e w8 ⟨he,hb⟩;subst he;replace hm:=hm.call hb;clear hb)
              | ((with_reducible refine aw (some 136) (.indexAddr 46 (.tmp 134) (.tmp 135)) (some (1,true)) ?_);go_must (refine ab (.pointer (some ⟨bz,k * 5,none⟩)) rfl (am 5 k ay ap rfl rfl rfl hkl) ?_))
              | ((with_reducible refine aw (some 138) (.load 9 (.tmp 137)) (some (1,true)) ?_);go_must (refine ab (.string y) rfl (al (.string y) ((hm.below.cell (p:=⟨bz,k * 5,none⟩) HK0.out.1).trans HK0.out.2) rfl aq) ?_))
              | ((with_reducible refine aw (some 139) (.binOp .eql 9 (.tmp 133) (.tmp 138) 9) (some (1,true)) ?_);go_must (refine ab (.bool true) rfl (aM d y true rfl rfl HE.out) ?_)))
             refine ak ?_
             refine ag (T:=fun W=>Mem wr [] W []) (by kernel_rfl) hm ?_
             intro wc hbw hmw
             clear hm
             have hm:=hmw
             clear hbw hmw
             refine aT 0 (v:=.int .i64 vb) rfl (by kernel_rfl) rfl (fun W _=>by go_simp) hm ?_
             go_simp
             refine aT 1 (v:=.slice (some ⟨bz,0,none⟩) N cz) rfl (by kernel_rfl) rfl (fun W _=>by go_simp) hm ?_
             go_simp
             refine aT 2 (v:=.int .i64 (j:Int)) rfl (by kernel_rfl) rfl (fun W _=>by go_simp) hm ?_
             go_simp
             refine aT 3 (v:=.pointer (some ⟨bz,j * 5,none⟩)) rfl (by kernel_rfl) rfl (fun W _=>am 5 j ay ap rfl rfl rfl hjl) hm ?_
             go_simp
             refine aT 4 (v:=.pointer (some ⟨bz,j * 5+3,none⟩)) rfl (by kernel_rfl) rfl (fun W _=>by go_simp) hm ?_
             go_simp
             refine aT 5 (v:=.int .i64 z3) rfl (by kernel_rfl) rfl (fun W hW=>al (.int .i64 z3) ((hW.below.cell (p:=⟨bz,j * 5+3,none⟩) HZ3.out.1).trans HZ3.out.2) rfl ah) hm ?_
             go_simp
             refine aT 6 (v:=.int .i64 n1) rfl (by kernel_rfl) rfl (fun W _=>by go_simp<;>exact hw1) hm ?_
             go_simp
             refine aT 7 (v:=.int .i64 ve) rfl (by kernel_rfl) rfl (fun W _=>by go_simp) hm ?_
             go_simp
             refine aT 8 (v:=.slice (some ⟨bz,0,none⟩) N cz) rfl (by kernel_rfl) rfl (fun W _=>by go_simp) hm ?_
             go_simp
             refine aT 9 (v:=.int .i64 (j:Int)) rfl (by kernel_rfl) rfl (fun W _=>by go_simp) hm ?_
             go_simp
             refine aT 10 (v:=.pointer (some ⟨bz,j * 5,none⟩)) rfl (by kernel_rfl) rfl (fun W _=>am 5 j ay ap rfl rfl rfl hjl) hm ?_
             go_simp
             refine aT 11 (v:=.pointer (some ⟨bz,j * 5+4,none⟩)) rfl (by kernel_rfl) rfl (fun W _=>by go_simp) hm ?_
             go_simp
             refine aT 12 (v:=.int .i64 z4) rfl (by kernel_rfl) rfl (fun W hW=>al (.int .i64 z4) ((hW.below.cell (p:=⟨bz,j * 5+4,none⟩) HZ4.out.1).trans HZ4.out.2) rfl ah) hm ?_
             go_simp
             refine aT 13 (v:=.int .i64 n2) rfl (by kernel_rfl) rfl (fun W _=>by go_simp<;>exact hw2) hm ?_
             go_simp
             refine aT 14 (v:=.int .i64 n1) rfl (by kernel_rfl) rfl (fun W _=>by go_simp) hm ?_
             go_simp
             refine aT 15 (v:=.int .i64 n2) rfl (by kernel_rfl) rfl (fun W _=>by go_simp) hm ?_
             go_simp
             refine wpAnyH_done (by kernel_rfl) ?_ _
             simp only [endsIn]
             go_wp2_with fail
             go_roundw
             case rel=>exact ⟨j+1,by omega,by go_num,n1,n2,rfl,rfl,HNX,HB.out.trans (hm.below.mono HB.out.size)⟩
             case measure=>show N - ((j:Int)+1).toNat<N - (j:Int).toNat;omega
            ·have HE:Hid ((d==y)=false):=cE hds
             have HNX:Hid (vb=ob+sK usB p' x (j+1)∧ve=oe+sK usE p' x (j+1)):=by
              have h1:isKid z x.1=false:=by rw [hkid,decide_eq_false hds];rfl
              rw [bF hz h1,bF hz h1];exact HV.out
             clear hz hzm okz hd0 hz3 hz4 hn1 hn2 hw1 hw2 hd hq hkid hzb hub hds HZ3 HZ4
             go_wp2_with (first
              | ((with_reducible refine aa (some 125) (.indexAddr 46 (.tmp 123) (.tmp 124)) ?_);go_must (refine ab (.pointer (some ⟨bz,j * 5,none⟩)) rfl (am 5 j ay ap rfl rfl rfl hjl) ?_))
              | ((with_reducible refine aa (some 127) (.load 9 (.tmp 126)) ?_);go_must (refine ab (.string d0) rfl (al (.string d0) HJ0.out.2 rfl aq) ?_))
              | (go_at_call 25;refine (HPA.out _ HB.out).mono ?_;rintro e w8 ⟨he,hb⟩;subst he;replace hm:=hm.call hb;clear hb)
              | ((with_reducible refine aw (some 136) (.indexAddr 46 (.tmp 134) (.tmp 135)) (some (1,true)) ?_);go_must (refine ab (.pointer (some ⟨bz,k * 5,none⟩)) rfl (am 5 k ay ap rfl rfl rfl hkl) ?_))
              | ((with_reducible refine aw (some 138) (.load 9 (.tmp 137)) (some (1,true)) ?_);go_must (refine ab (.string y) rfl (al (.string y) ((hm.below.cell (p:=⟨bz,k * 5,none⟩) HK0.out.1).trans HK0.out.2) rfl aq) ?_))
              | ((with_reducible refine aw (some 139) (.binOp .eql 9 (.tmp 133) (.tmp 138) 9) (some (1,true)) ?_);go_must (refine ab (.bool false) rfl (aM d y false rfl rfl HE.out) ?_)))
             go_roundw
             case rel=>exact ⟨j+1,by omega,by go_num,vb,ve,rfl,rfl,HNX,HB.out.trans (hm.below.mono HB.out.size)⟩
             case measure=>show N - ((j:Int)+1).toNat<N - (j:Int).toNat;omega
          ·have hjn:j=N:=by omega
           have hji:¬(j:Int)<(N:Int):=by omega
           have e3:vb=u3:=by rw [HV.out.1,hjn];exact HALL.out.1
           have e4:ve=u4:=by rw [HV.out.2,hjn];exact HALL.out.2
           subst e3 e4
           clear hjn hub
           have HC3:Hid (bz<wr.heap.size∧wr.cell? ⟨bz,k * 5+3,none⟩=some (.int .i64 vb)):=HCX.out k x HXK.out 3 _ (by rw [HUK.out.1];exact (au x).2.2.1)
           have HC4:Hid (bz<wr.heap.size∧wr.cell? ⟨bz,k * 5+4,none⟩=some (.int .i64 ve)):=HCX.out k x HXK.out 4 _ (by rw [HUK.out.2];exact (au x).2.2.2.1)
           have hm:=Mem.start wr
           go_wp2_with (first
            | ((with_reducible refine aa (some 158) (.indexAddr 46 (.tmp 156) (.tmp 157)) ?_);go_must (refine ab (.pointer (some ⟨bz,k * 5,none⟩)) rfl (am 5 k ay ap rfl rfl rfl hkl) ?_))
            | ((with_reducible refine aa (some 160) (.load 3 (.tmp 159)) ?_);go_must (refine ab (.int .i64 vb) rfl (al (.int .i64 vb) HC3.out.2 rfl ah) ?_))
            | ((with_reducible refine aw (some 166) (.indexAddr 46 (.tmp 164) (.tmp 165)) (some (7,false)) ?_);go_must (refine ab (.pointer (some ⟨bz,k * 5,none⟩)) rfl (am 5 k ay ap rfl rfl rfl hkl) ?_))
            | ((with_reducible refine aw (some 168) (.load 3 (.tmp 167)) (some (7,false)) ?_);go_must (refine ab (.int .i64 ve) rfl (al (.int .i64 ve) HC4.out.2 rfl ah) ?_)))
           go_roundw
           case rel=>exact ⟨k+1,by omega,by go_num,HB.out⟩
           case measure=>show N - ((k:Int)+1).toNat<N - (k:Int).toNat;omega
        ·have hkn:k=N:=by omega
         have hki:¬(k:Int)<(N:Int):=by omega
         go_wp2_with fail
         go_roundw
         case rel=>exact ⟨i+1,by omega,by go_num,p',oB',oE',aJ HS.out.bel HS.out.bel.size HB.out,HS.out.st.below HB.out,HPL.out⟩
         case measure=>show n - ((i:Int)+1).toNat<n - (i:Int).toNat;omega
   ·have hin:i=n:=by omega
    have hki:¬(i:Int)<(n:Int):=by omega
    go_wp2_with fail
    go_ret
    exact ⟨rfl,HS0.out.1⟩
end Go.Proofs.YtdmohffogfbnbaaGreatDoor
