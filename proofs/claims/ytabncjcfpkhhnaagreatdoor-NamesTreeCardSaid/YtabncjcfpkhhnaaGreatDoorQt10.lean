import Derived.Laws.Strings3
import Derived.Sort.Walk0
import Derived.Test.YtabncjcfpkhhnaaGreatDoorQt09
set_option maxRecDepth 100000
set_option maxHeartbeats 4000000
namespace Go.Proofs.YtabncjcfpkhhnaaGreatDoor
open Go Go.RowKit Go.Maps Go.Sort
theorem exec_nesB {a:Act} {w:World} {dst:Option Tmp} {typ:TypeId} {pos:String} {aft:Array Edge} {gd:Option (Nat×Bool)} {t:TypeId} {x y:Operand} {rt:TypeId} (s s':ByteArray) (v:Bool) (hx:a.eval x=.string s) (hy:a.eval y=.string s') (hv:(s==s')=v) :
  (execOp a.eval {dst:=dst,op:=.binOp .neq t x y rt,type:=typ,pos:=pos,after:=aft,guard:=gd}).run Tryz.prog w=.ok (.value (.bool (!v))) w:=by
 subst hv
 unfold execOp
 simp only [hx,hy]
 simp only [eqGuard,binOp,Op.stringOp,go_sem]
 rw [beq_toListBytes s s']
 rfl
section
variable {P:Program} {kT:TypeId} {ops:Array Oper} {rest:List Oper} {a:Act} {w w0 w1:World} {Q:Exit→Act→World→Prop} {dst:Option Tmp} {typ:TypeId} {pos:String} {aft:Array Edge} {gd:Option (Nat×Bool)} {S:List Nat} {rows:List (Nat×List Value×TypeId)}
theorem a8 {t e:TypeId} {x ix:Operand} {b o n cap:Nat} (K i:Nat) {ii:Int} (hu:P.underlying t=some (.slice e)) (hs:(P.info? e).map (·.size)=some K) (hx:a.eval x=.slice (some ⟨b,o,none⟩) n cap) (hix:a.eval ix=.int .i64 ii) (hii:ii=(i:Int)) (hi:i<n) :
  (execOp a.eval {dst:=dst,op:=.indexAddr t x ix,type:=typ,pos:=pos,after:=aft,guard:=gd}).run P w=.ok (.value (.pointer (some ⟨b,o+i * K,none⟩))) w:=by
 subst hii
 have h0:(0:Int)≤(i:Int)∧(i:Int)<(n:Int):=by omega
 have hsz:(sizeOf e).run P w=.ok K w:=by
  cases hq:P.info? e with
  | none=>simp [hq] at hs
  | some q =>
   have hs1:q.size=K:=by simpa [hq] using hs
   simp [sizeOf,typeInfo,hq,hs1]
 unfold execOp
 simp [hx,hix,Instr.indexAt,asIntOf,run_underlying hu,hsz,h0,aR]
 omega
theorem exec_geqS {t:TypeId} {x y:Operand} {rt:TypeId} (s s':ByteArray) (v:Bool) (hx:a.eval x=.string s) (hy:a.eval y=.string s') (hv:(!Op.bytesLess s.toList s'.toList)=v) :
  (execOp a.eval {dst:=dst,op:=.binOp .geq t x y rt,type:=typ,pos:=pos,after:=aft,guard:=gd}).run P w=.ok (.value (.bool v)) w:=by
 subst hv
 unfold execOp
 simp only [hx,hy]
 simp [eqGuard,binOp,Op.stringOp]
end
theorem less_cd {a b:List UInt8} (h:a<b):(!Op.bytesLess (mkS a).toList (mkS b).toList)=false:=by
 rw [bytesLess_eq,ByteArray.toList_eq,ByteArray.toList_eq,Bool.not_eq_false']
 exact decide_eq_true (show (mkS a).data.toList<(mkS b).data.toList from h)
theorem ntree_walk (pp:Option Addr) (n cap b o:Nat) (X:Nat→Stp) (w:World) (hp:0<n→pp=some ⟨b,o,none⟩) (hX:∀i,i<n→∀j u,(X i).row[j]?=some u→w.cell? ⟨b,o+i * 4+j,none⟩=some u) (hM:MaxL w) :
  Calls Tryz.prog 4 #[.slice pp n cap] w fun e w'=>e=.returned (.bool true)∧Below w.heap.size w w':=by
 have hm:=Mem.start w
 have HM:Hid (MaxL w):=hM
 have HX:Hid (∀i,i<n→∀j u,(X i).row[j]?=some u→b<w.heap.size∧w.cell? ⟨b,o+i * 4+j,none⟩=some u):=fun i hi j u hu=>by
  have h1:=hX i hi j u hu
  exact ⟨block_lt_of_cell h1,h1⟩
 clear hM hX
 by_cases hn:40<n
 ·have hni:(40:Int)<(n:Int):=by omega
  clear hp HX
  go_enter Tryz.func4,Tryz.ntmps4
  go_wp2_with (first
   | (go_at_call 7;refine (cA _ (HM.out.below hm.below)).mono ?_;rintro e w1 ⟨he,hb⟩;subst he;replace hm:=hm.call hb;clear hb))
  go_ret
  exact ⟨rfl,hm.below⟩
 ·have hni:¬(40:Int)<(n:Int):=by omega
  have hn4:n≤40:=by omega
  clear hn
  go_enter Tryz.func4,Tryz.ntmps4
  go_wp2_with (first
   | (go_at_call 7;refine (cA _ (HM.out.below hm.below)).mono ?_;rintro e w1 ⟨he,hb⟩;subst he;replace hm:=hm.call hb;clear hb)
   | (go_at_call 8;refine (new_n (10) (10) _).mono ?_;rintro e w2 ⟨nb,m,he,hwn,hwm,hn,hb⟩;subst he;have HB:Hid (Below w.heap.size w w2):=hm.below.trans (hb.mono hm.size);replace hwm:w.heap.size≤m:=Nat.le_trans hm.size hwm;have hm0:0<m:=Nat.lt_of_lt_of_le HM.out.lt0 hwm;have HN:Hid (NmAt w2 nb m 1 (newN (10) (10))):=hn;have HM2:Hid (MaxL w2):=HM.out.below HB.out;clear hm;have hm:=Mem.start w2;clear hn hb hwn))
  have HS:Hid (Below w.heap.size w w2∧NmAt w2 nb m (0+1) (newN 10 10)∧TrOk (newN 10 10)∧(newN 10 10).length≤0+1):=⟨HB.out,HN.out,TrOk.new 10 10,Nat.le_refl _⟩
  clear hm HB HN HM2
  go_loopw [4] (fun vi wr=>∃i:Nat,i≤n∧vi=.int .i64 (i:Int)∧∃p:Nms,Hid (Below w.heap.size w wr∧NmAt wr nb m (i+1) (p)∧TrOk (p)∧(p).length≤i+1)) (fun vi _=>match vi with | .int _ q=>n - q.toNat|_=>0)
  case atStart=>exact ⟨0,by omega,rfl,_,HS⟩
  case round =>
   clear HS
   obtain ⟨i,hi,rfl,p,HS⟩:=hrel
   by_cases hlt:i<n
   ·have hki:(i:Int)<(n:Int):=by omega
    have hw:IntKind.i64.wrap ((i:Int)+1)=(i:Int)+1:=bH _ (by omega) (by omega)
    have hpp:=hp (by omega)
    subst hpp
    obtain ⟨wh,hwh⟩:∃x,x=(X i).wh:=⟨_,rfl⟩
    obtain ⟨s,hs⟩:∃x,x=(X i).path:=⟨_,rfl⟩
    have HC0:Hid (wr.cell? ⟨b,o+i * 4,none⟩=some (.int .i64 wh)):=by
     have h1:=HX.out i hlt 0 (.int .i64 wh) (by rw [hwh];rfl)
     rw [Nat.add_zero] at h1
     exact (HS.out.1.cell (p:=⟨b,o+i * 4,none⟩) h1.1).trans h1.2
    have HC1:Hid (wr.cell? ⟨b,o+i * 4+1,none⟩=some (.string s)):=by
     have h1:=HX.out i hlt 1 (.string s) (by rw [hs];rfl)
     exact (HS.out.1.cell (p:=⟨b,o+i * 4+1,none⟩) h1.1).trans h1.2
    have HMR:Hid (MaxL wr):=HM.out.below HS.out.1
    clear hwh hs
    by_cases h60:60<s.size
    ·have h60i:(60:Int)<(s.size:Int):=by omega
     clear h60
     go_wp2_with (first
      | ((with_reducible refine aa (some 25) (.indexAddr 22 (.tmp 23) (.tmp 24)) ?_);go_must (refine ad (.pointer (some ⟨b,o+i * 4,none⟩)) rfl (a8 4 i bg bZ rfl rfl rfl hlt) ?_))
      | ((with_reducible refine aa (some 27) (.load 9 (.tmp 26)) ?_);go_must (refine ad (.string s) rfl (an (.string s) (HC1.out) rfl ap) ?_)))
     go_ret
     exact ⟨rfl,HS.out.1⟩
    ·have h60i:¬(60:Int)<(s.size:Int):=by omega
     have HSZ:Hid (s.size≤1000):=by show s.size≤1000;omega
     clear h60
     by_cases h4:wh=4
     ·subst h4
      obtain ⟨p',hp'⟩:∃p',p'=(if remE p s=0 then delN p (segsB s) else p):=⟨_,rfl⟩
      have HP':Hid (TrOk p'∧p'.length≤i+1+1):=by rw [hp'];exact ⟨HS.out.2.2.1.delIf s,Nat.le_trans (delIf_len p s) (by have:=HS.out.2.2.2;omega)⟩
      have HCL:Hid (∀_:Unit,Calls Tryz.prog 12 #[.pointer (some ⟨nb,0,none⟩),.string s] wr fun e w'=>∃v z,e=.returned (.tuple #[v,.int .i64 z])∧NmAt w' nb m (i+1+1) p'∧Upd m wr w'):=fun _=>by
       refine (rem_n HS.out.2.1 (by omega) (by have:=HS.out.2.2.2;omega) s HSZ.out HMR.out _ rfl).mono ?_
       rintro e w' ⟨v,rfl,_,h2,h3⟩
       rw [hp']
       exact ⟨v,_,rfl,h2.mono (by omega),h3⟩
      clear hp'
      go_wp2_with (first
       | ((with_reducible refine aa (some 25) (.indexAddr 22 (.tmp 23) (.tmp 24)) ?_);go_must (refine ad (.pointer (some ⟨b,o+i * 4,none⟩)) rfl (a8 4 i bg bZ rfl rfl rfl hlt) ?_))
       | ((with_reducible refine aa (some 27) (.load 9 (.tmp 26)) ?_);go_must (refine ad (.string s) rfl (an (.string s) (HC1.out) rfl ap) ?_))
       | ((with_reducible refine aa (some 32) (.indexAddr 22 (.tmp 30) (.tmp 31)) ?_);go_must (refine ad (.pointer (some ⟨b,o+i * 4,none⟩)) rfl (a8 4 i bg bZ rfl rfl rfl hlt) ?_))
       | ((with_reducible refine aa (some 34) (.load 3 (.tmp 33)) ?_);go_must (refine ad (.int .i64 4) rfl (an (.int .i64 4) (HC0.out) rfl cm) ?_))
       | ((with_reducible refine aa (some 39) (.indexAddr 22 (.tmp 37) (.tmp 38)) ?_);go_must (refine ad (.pointer (some ⟨b,o+i * 4,none⟩)) rfl (a8 4 i bg bZ rfl rfl rfl hlt) ?_))
       | ((with_reducible refine aa (some 41) (.load 9 (.tmp 40)) ?_);go_must (refine ad (.string s) rfl (an (.string s) (HC1.out) rfl ap) ?_))
       | (go_at_call 12;refine (HCL.out ()).mono ?_;rintro e w3 ⟨v9,z9,he,hn,hu⟩;subst he;have HS3:Hid (Below w.heap.size w w3∧NmAt w3 nb m (i+1+1) (p')∧TrOk (p')∧(p').length≤i+1+1):=⟨aA HS.out.1 hu hwm HS.out.1.size,hn,HP'.out.1,HP'.out.2⟩;clear hn hu)
       | (go_at_call 18;refine (all_n HS3.out.2.1 (by omega) (by have:=HS3.out.2.2.2;omega) (HM.out.below HS3.out.1)).mono ?_;rintro e wa ⟨v,he,⟨pz,cz,hv,hz⟩,hb⟩;subst hv;subst he;obtain ⟨bz,hz1,hz2,hz3,hz4⟩:=hz HS3.out.2.2.1.pos;subst hz1;have HSA:Hid (Below w.heap.size w wa∧NmAt wa nb m (i+1+1) (p')∧TrOk (p')∧(p').length≤i+1+1):=⟨bC HS3.out.1 HS3.out.1.size hb,HS3.out.2.1.below hb,HS3.out.2.2.1,HS3.out.2.2.2⟩;have HZ:Hid (bz<wa.heap.size∧∀i x,p'[i]?=some x→∀j u,(spv x)[j]?=some u→wa.cell? ⟨bz,i * 5+j,none⟩=some u):=⟨hz3,hz4⟩;obtain ⟨NP,hNP⟩:∃k,k=p'.length:=⟨_,rfl⟩;have HNP:Hid (NP=p'.length):=hNP;rw [←hNP];have hNP0:0<NP:=by {rw [hNP];exact HS3.out.2.2.1.pos};have hNP9:NP≤1000:=by {rw [hNP];have:=HS3.out.2.2.2;omega};have h0i:((NP:Int)==0)=false:=by {rw [beq_eq_false_iff_ne];omega};have HR0:Hid (wa.cell? ⟨bz,0,none⟩=some (.string ⟨#[]⟩)):=(by {obtain ⟨r,t,hpr,hr⟩:=HS3.out.2.2.1.root;have h9:=hz4 0 r (by rw [hpr];rfl) 0 (.string ⟨#[]⟩) (by show some (Value.string (tx r.1))=_;rw [hr];rfl);exact h9});clear hb hz hz2 hz3 hz4 hNP)
       | ((with_reducible refine aL (some 57) (.indexAddr 45 (.tmp 56) (.const (.int .i64 0))) (some (3,false)) ?_);go_must (refine ad (.pointer (some ⟨bz,0 * 5,none⟩)) rfl (aI 5 0 bf ar rfl rfl rfl hNP0) ?_))
       | ((with_reducible refine aL (some 59) (.load 9 (.tmp 58)) (some (3,false)) ?_);go_must (refine ad (.string ⟨#[]⟩) rfl (an (.string ⟨#[]⟩) HR0.out rfl ap) ?_))
       | ((with_reducible refine aL (some 60) (.binOp .neq 9 (.tmp 59) (.const (.string {data:=#[]})) 9) (some (3,false)) ?_);go_must (refine ad (.bool false) rfl (exec_nesB ⟨#[]⟩ ⟨#[]⟩ true rfl rfl (bB _)) ?_)))
      rename_i _ _ _
      clear HC0 HC1 HMR HCL
      go_loopw [6] (fun vj wq=>∃j:Nat,j<NP∧vj=.int .i64 ((j:Int)+1)∧Hid (Below wa.heap.size wa wq)) (fun vj _=>match vj with | .int _ q=>NP - q.toNat|_=>0)
      case atStart=>exact ⟨0,hNP0,by simp,Below.refl _ _⟩
      case round =>
       obtain ⟨j,hj,rfl,HBQ⟩:=hrel
       by_cases hlj:j+1<NP
       ·have hkj:(j:Int)+1<(NP:Int):=by omega
        have HJ1:Hid ((j:Int)+1=((j+1:Nat):Int)):=by show (j:Int)+1=((j+1:Nat):Int);omega
        have hwj2:IntKind.i64.wrap ((j:Int)+1+1)=(j:Int)+1+1:=bH _ (by omega) (by omega)
        have hwj:IntKind.i64.wrap ((j:Int)+1 - 1)=(j:Int):=(bH _ (by omega) (by omega)).trans (by omega)
        have hpl:=HNP.out
        obtain ⟨x0,hx0⟩:∃x,p'[j]?=some x:=⟨p'[j]'(by omega),by simp [show j<p'.length by omega]⟩
        obtain ⟨x1,hx1⟩:∃x,p'[j+1]?=some x:=⟨p'[j+1]'(by omega),by simp [show j+1<p'.length by omega]⟩
        have ok0:PlOk x0.1:=HSA.out.2.2.1.ok.ok x0 (List.mem_of_getElem? hx0)
        have ok1:PlOk x1.1:=HSA.out.2.2.1.ok.ok x1 (List.mem_of_getElem? hx1)
        have hne:x1.1≠[]:=HSA.out.2.2.1.at hx1
        obtain ⟨y0,hy0⟩:∃y,y=tx x0.1:=⟨_,rfl⟩
        obtain ⟨y1,hy1⟩:∃y,y=tx x1.1:=⟨_,rfl⟩
        obtain ⟨d1,hd1⟩:∃y,y=tx x1.1.dropLast:=⟨_,rfl⟩
        obtain ⟨k0,hk0⟩:∃y,y=cd x0.1:=⟨_,rfl⟩
        obtain ⟨k1,hk1⟩:∃y,y=cd x1.1:=⟨_,rfl⟩
        obtain ⟨V,hV⟩:∃V,V=getV p' d1:=⟨_,rfl⟩
        obtain ⟨L,hL⟩:∃L,L=(kidsN p' y1).length:=⟨_,rfl⟩
        have hL2:¬(2:Int)<(L:Int):=by have:=HSA.out.2.2.1.kids y1;omega
        have HY0:Hid (bz<wr.heap.size∧wr.cell? ⟨bz,j * 5,none⟩=some (.string y0)):=⟨Nat.lt_of_lt_of_le HZ.out.1 HBQ.out.size,(HBQ.out.cell (p:=⟨bz,j * 5,none⟩) HZ.out.1).trans (HZ.out.2 j x0 hx0 0 (.string y0) (by rw [hy0];rfl))⟩
        have HY1:Hid (bz<wr.heap.size∧wr.cell? ⟨bz,(j+1) * 5,none⟩=some (.string y1)):=⟨Nat.lt_of_lt_of_le HZ.out.1 HBQ.out.size,(HBQ.out.cell (p:=⟨bz,(j+1) * 5,none⟩) HZ.out.1).trans (HZ.out.2 (j+1) x1 hx1 0 (.string y1) (by rw [hy1];rfl))⟩
        have HMQ:Hid (MaxL wr):=(HM.out.below HSA.out.1).below HBQ.out
        have HNQ:Hid (NmAt wr nb m (i+1+1) p'):=HSA.out.2.1.below HBQ.out
        have hpt:=par_tx ok1 hne
        have HPA:Hid (Calls Tryz.prog 22 #[.string y1] wr fun e w'=>e=.returned (.tuple #[.string d1,.bool true])∧Below wr.heap.size wr w'):=by
         have h9:=cD (tx x1.1) wr (by have:=aH ok1;omega) HMQ.out
         rw [hpt.1,hpt.2] at h9
         rw [hy1,hd1];exact h9
        have hgt:getV p' d1=V∧getB p' d1=true:=by
         refine ⟨hV.symm,?_⟩
         obtain ⟨z,hz,e⟩:=aw.1 (HSA.out.2.2.1.par x1 (List.mem_of_getElem? hx1) hne)
         have h9:=cQ HSA.out.2.2.1.ok hz (s:=d1) (by rw [hd1];exact cq ok1.drop) (by rw [hd1,bV ok1.drop,e])
         exact h9.2
        have HGT:Hid (∀W,Below wr.heap.size wr W→Calls Tryz.prog 15 #[.pointer (some ⟨nb,0,none⟩),.string d1] W fun e w'=>e=.returned (.tuple #[.agg V.toArray,.bool true])∧Below W.heap.size W w'):=fun W hW=>get_k (HNQ.out.below hW) d1 (by rw [hd1];have:=aH ok1.drop;omega) (HMQ.out.below hW) V true hgt.1 hgt.2
        have HV5:Hid (V.length=5):=by
         rw [hV];unfold getV
         split
         ·exact lookV5 _ _
         ·rfl
        have HV1:Hid (∀v∈V,v.oneCell'=true):=by
         rw [hV];unfold getV
         split
         ·exact cg _ _
         ·exact aE [] 0 0
        have HCD0:Hid (∀W,MaxL W→Calls Tryz.prog 23 #[.string y0] W fun e w'=>e=.returned (.string (mkS k0))∧Below W.heap.size W w'):=fun W hW=>by
         have h3:=bp (tx x0.1) W (by have:=aH ok0;omega) hW
         rw [bR ok0] at h3
         rw [hy0,hk0];exact h3
        have HCD1:Hid (∀W,MaxL W→Calls Tryz.prog 23 #[.string y1] W fun e w'=>e=.returned (.string (mkS k1))∧Below W.heap.size W w'):=fun W hW=>by
         have h3:=bp (tx x1.1) W (by have:=aH ok1;omega) hW
         rw [bR ok1] at h3
         rw [hy1,hk1];exact h3
        have HLS:Hid (∀_:Unit,(!Op.bytesLess (mkS k0).toList (mkS k1).toList)=false):=fun _=>by rw [hk0,hk1];exact less_cd (HSA.out.2.2.1.next hx0 hx1)
        have HKD:Hid (∀W,Below wr.heap.size wr W→Calls Tryz.prog 19 #[.pointer (some ⟨nb,0,none⟩),.string y1] W fun e w'=>∃p9 c9,e=.returned (.slice p9 L c9)∧Below W.heap.size W w'):=fun W hW=>by
         refine (kids_n (HNQ.out.below hW) (by omega) y1).mono ?_
         rintro e w' ⟨v,rfl,⟨p9,c9,hv,_⟩,hb⟩
         exact ⟨p9,c9,by rw [hv,hL],hb⟩
        have hm:=Mem.start wr
        clear hx0 hx1 ok0 ok1 hne hy0 hy1 hd1 hk0 hk1 hV hL hpt hgt hpl
        go_wp2_with (first
         | ((with_reducible refine aa (some 71) (.indexAddr 45 (.tmp 69) (.tmp 70)) ?_);go_must (refine ad (.pointer (some ⟨bz,(j+1) * 5,none⟩)) rfl (aI 5 (j+1) bf ar rfl rfl HJ1.out (by omega)) ?_))
         | ((with_reducible refine aa (some 73) (.load 9 (.tmp 72)) ?_);go_must (refine ad (.string y1) rfl (an (.string y1) HY1.out.2 rfl ap) ?_))
         | (go_at_call 22;refine HPA.out.mono ?_;rintro e w' ⟨he,hb⟩;subst he;replace hm:=hm.call hb;clear hb)
         | (go_at_call 15;refine (HGT.out _ hm.below).mono ?_;rintro e w' ⟨he,hb⟩;subst he;replace hm:=hm.call hb;clear hb)
         | ((with_reducible refine aa (some 9) (.alloc 40) ?_);refine ab _ aD hm ?_;clear hm;intro w5 g9 hm)
         | ((with_reducible refine aa none (.store 40 (.tmp 9) (.tmp 81)) ?_);refine af 0 V hm rfl rfl rfl 5 ar rfl HV5.out HV1.out ?_;clear hm;intro w6 hm))
        refine ai ?_
        refine ae (T:=fun W=>∃l,Mem wr [] W l) (by kernel_rfl) hm ?_
        intro wc hbw hmw
        clear hm
        have hm:=hmw
        clear hbw hmw
        refine aT 0 (v:=.bool true) rfl (by kernel_rfl) rfl (fun W _=>by go_simp) ⟨_,hm⟩ ?_
        go_simp
        refine aT 1 (v:=.bool false) rfl (by kernel_rfl) rfl (fun W _=>by go_simp) ⟨_,hm⟩ ?_
        go_simp
        refine aT 2 (v:=.bool false) rfl (by kernel_rfl) rfl (fun W _=>by go_simp) ⟨_,hm⟩ ?_
        go_simp
        refine aG 3 (v:=.bool true) rfl (by kernel_rfl) rfl (fun W _=>by go_simp) ⟨_,hm⟩ ?_
        go_simp
        refine aG 4 (v:=.bool false) rfl (by kernel_rfl) rfl (fun W _=>by go_simp) ⟨_,hm⟩ ?_
        go_simp
        refine aT 5 (v:=.bool false) rfl (by kernel_rfl) rfl (fun W _=>by go_simp) ⟨_,hm⟩ ?_
        go_simp
        refine aT 6 (v:=.bool false) rfl (by kernel_rfl) rfl (fun W _=>by go_simp) ⟨_,hm⟩ ?_
        go_simp
        refine aG 7 (v:=.slice (some ⟨bz,0,none⟩) NP cz) rfl (by kernel_rfl) rfl (fun W _=>by go_simp) ⟨_,hm⟩ ?_
        go_simp
        refine aG 8 (v:=.int .i64 ((j:Int)+1)) rfl (by kernel_rfl) rfl (fun W _=>by go_simp) ⟨_,hm⟩ ?_
        go_simp
        refine aG 9 (v:=.int .i64 (j:Int)) rfl (by kernel_rfl) rfl (fun W _=>by go_simp<;>exact bH _ (by omega) (by omega)) ⟨_,hm⟩ ?_
        go_simp
        refine aG 10 (v:=.pointer (some ⟨bz,j * 5,none⟩)) rfl (by kernel_rfl) rfl (fun W _=>aI 5 j bf ar rfl rfl rfl (by omega)) ⟨_,hm⟩ ?_
        go_simp
        refine aG 11 (v:=.pointer (some ⟨bz,j * 5,none⟩)) rfl (by kernel_rfl) rfl (fun W _=>by go_simp) ⟨_,hm⟩ ?_
        go_simp
        refine aG 12 (v:=.string y0) rfl (by kernel_rfl) rfl (fun W hW=>by obtain ⟨l,hW⟩:=hW;exact an _ ((hW.below.cell (p:=⟨bz,_,none⟩) HY0.out.1).trans HY0.out.2) rfl ap) ⟨_,hm⟩ ?_
        go_simp
        refine aG 14 (v:=.slice (some ⟨bz,0,none⟩) NP cz) rfl (by kernel_rfl) rfl (fun W _=>by go_simp) ⟨_,hm⟩ ?_
        go_simp
        refine aG 15 (v:=.int .i64 ((j:Int)+1)) rfl (by kernel_rfl) rfl (fun W _=>by go_simp) ⟨_,hm⟩ ?_
        go_simp
        refine aG 16 (v:=.pointer (some ⟨bz,(j+1) * 5,none⟩)) rfl (by kernel_rfl) rfl (fun W _=>aI 5 (j+1) bf ar rfl rfl HJ1.out (by omega)) ⟨_,hm⟩ ?_
        go_simp
        refine aG 17 (v:=.pointer (some ⟨bz,(j+1) * 5,none⟩)) rfl (by kernel_rfl) rfl (fun W _=>by go_simp) ⟨_,hm⟩ ?_
        go_simp
        refine aG 18 (v:=.string y1) rfl (by kernel_rfl) rfl (fun W hW=>by obtain ⟨l,hW⟩:=hW;exact an _ ((hW.below.cell (p:=⟨bz,_,none⟩) HY1.out.1).trans HY1.out.2) rfl ap) ⟨_,hm⟩ ?_
        go_simp
        refine aO 13 (by kernel_rfl) rfl rfl ?_
        intro K hK
        go_wp2_with (go_at_call 23;refine (HCD0.out _ (HMQ.out.below hm.below)).mono ?_;rintro e w' ⟨he,hb⟩;subst he;replace hm:=hm.call hb;clear hb)
        refine hK _ _ ⟨_,hm⟩ ?_
        clear hK K
        go_simp
        refine aO 19 (by kernel_rfl) rfl rfl ?_
        intro K hK
        go_wp2_with (go_at_call 23;refine (HCD1.out _ (HMQ.out.below hm.below)).mono ?_;rintro e w' ⟨he,hb⟩;subst he;replace hm:=hm.call hb;clear hb)
        refine hK _ _ ⟨_,hm⟩ ?_
        clear hK K
        go_simp
        refine aG 20 (v:=.bool false) rfl (by kernel_rfl) rfl (fun W _=>exec_geqS (mkS k0) (mkS k1) false rfl rfl (HLS.out ())) ⟨_,hm⟩ ?_
        go_simp
        refine aT 21 (v:=.bool false) rfl (by kernel_rfl) rfl (fun W _=>by go_simp) ⟨_,hm⟩ ?_
        go_simp
        refine aT 22 (v:=.bool false) rfl (by kernel_rfl) rfl (fun W _=>by go_simp) ⟨_,hm⟩ ?_
        go_simp
        refine aG 23 (v:=.pointer (some ⟨nb,0,none⟩)) rfl (by kernel_rfl) rfl (fun W _=>by go_simp) ⟨_,hm⟩ ?_
        go_simp
        refine aG 24 (v:=.slice (some ⟨bz,0,none⟩) NP cz) rfl (by kernel_rfl) rfl (fun W _=>by go_simp) ⟨_,hm⟩ ?_
        go_simp
        refine aG 25 (v:=.int .i64 ((j:Int)+1)) rfl (by kernel_rfl) rfl (fun W _=>by go_simp) ⟨_,hm⟩ ?_
        go_simp
        refine aG 26 (v:=.pointer (some ⟨bz,(j+1) * 5,none⟩)) rfl (by kernel_rfl) rfl (fun W _=>aI 5 (j+1) bf ar rfl rfl HJ1.out (by omega)) ⟨_,hm⟩ ?_
        go_simp
        refine aG 27 (v:=.pointer (some ⟨bz,(j+1) * 5,none⟩)) rfl (by kernel_rfl) rfl (fun W _=>by go_simp) ⟨_,hm⟩ ?_
        go_simp
        refine aG 28 (v:=.string y1) rfl (by kernel_rfl) rfl (fun W hW=>by obtain ⟨l,hW⟩:=hW;exact an _ ((hW.below.cell (p:=⟨bz,_,none⟩) HY1.out.1).trans HY1.out.2) rfl ap) ⟨_,hm⟩ ?_
        go_simp
        refine aO 29 (by kernel_rfl) rfl rfl ?_
        intro K hK
        go_wp2_with (go_at_call 19;refine (HKD.out _ hm.below).mono ?_;rintro e w' ⟨p9,c9,he,hb⟩;subst he;replace hm:=hm.call hb;clear hb)
        refine hK _ _ ⟨_,hm⟩ ?_
        clear hK K
        go_simp
        refine aG 30 (v:=.int .i64 (L:Int)) rfl (by kernel_rfl) rfl (fun W _=>by go_simp) ⟨_,hm⟩ ?_
        go_simp
        refine aG 31 (v:=.bool false) rfl (by kernel_rfl) rfl (fun W _=>by go_simp<;>first|exact hL2|exact decide_eq_false hL2|omega) ⟨_,hm⟩ ?_
        go_simp
        refine aT 32 (v:=.bool false) rfl (by kernel_rfl) rfl (fun W _=>by go_simp) ⟨_,hm⟩ ?_
        go_simp
        refine wpAnyH_done (by kernel_rfl) ?_ _
        simp only [endsIn]
        go_wp2_with fail
        go_roundw
        case rel=>exact ⟨j+1,by omega,by first|rfl|go_num|(simp),HBQ.out.trans (hm.below.mono HBQ.out.size)⟩
        case measure=>show NP - ((j:Int)+1+1).toNat<NP - ((j:Int)+1).toNat;omega
       ·have hkj:¬(j:Int)+1<(NP:Int):=by omega
        go_wp2_with fail
        go_roundw
        case rel=>exact ⟨i+1,by omega,by go_num,p',⟨HSA.out.1.trans (HBQ.out.mono HSA.out.1.size),HSA.out.2.1.below HBQ.out,HSA.out.2.2.1,HSA.out.2.2.2⟩⟩
        case measure=>show n - ((i:Int)+1).toNat<n - (i:Int).toNat;omega
     ·obtain ⟨p',hp'⟩:∃p',p'=(if addE p s 1 1=0 then addN p (segsB s,1,1,0,0,0,0) else p):=⟨_,rfl⟩
      have h4b:(wh==4)=false:=by rw [beq_eq_false_iff_ne];exact h4
      have HP':Hid (TrOk p'∧p'.length≤i+1+1):=by rw [hp'];exact ⟨HS.out.2.2.1.addIf s 1 1,Nat.le_trans (addIf_len p s 1 1) (by have:=HS.out.2.2.2;omega)⟩
      have HCL:Hid (∀_:Unit,Calls Tryz.prog 10 #[.pointer (some ⟨nb,0,none⟩),.string s,.int .i64 1,.int .i64 1] wr fun e w'=>∃z,e=.returned (.int .i64 z)∧NmAt w' nb m (i+1+1) p'∧Upd m wr w'):=fun _=>by
       refine (add_n HS.out.2.1 (by omega) s HSZ.out HMR.out 1 1 _ rfl).mono ?_
       rintro e w' ⟨rfl,h2,h3⟩
       rw [hp']
       exact ⟨_,rfl,h2,h3⟩
      clear hp' h4
      go_wp2_with (first
       | ((with_reducible refine aa (some 25) (.indexAddr 22 (.tmp 23) (.tmp 24)) ?_);go_must (refine ad (.pointer (some ⟨b,o+i * 4,none⟩)) rfl (a8 4 i bg bZ rfl rfl rfl hlt) ?_))
       | ((with_reducible refine aa (some 27) (.load 9 (.tmp 26)) ?_);go_must (refine ad (.string s) rfl (an (.string s) (HC1.out) rfl ap) ?_))
       | ((with_reducible refine aa (some 32) (.indexAddr 22 (.tmp 30) (.tmp 31)) ?_);go_must (refine ad (.pointer (some ⟨b,o+i * 4,none⟩)) rfl (a8 4 i bg bZ rfl rfl rfl hlt) ?_))
       | ((with_reducible refine aa (some 34) (.load 3 (.tmp 33)) ?_);go_must (refine ad (.int .i64 wh) rfl (an (.int .i64 wh) (HC0.out) rfl cm) ?_))
       | ((with_reducible refine aa (some 46) (.indexAddr 22 (.tmp 44) (.tmp 45)) ?_);go_must (refine ad (.pointer (some ⟨b,o+i * 4,none⟩)) rfl (a8 4 i bg bZ rfl rfl rfl hlt) ?_))
       | ((with_reducible refine aa (some 48) (.load 9 (.tmp 47)) ?_);go_must (refine ad (.string s) rfl (an (.string s) (HC1.out) rfl ap) ?_))
       | (go_at_call 10;refine (HCL.out ()).mono ?_;rintro e w3 ⟨z9,he,hn,hu⟩;subst he;have HS3:Hid (Below w.heap.size w w3∧NmAt w3 nb m (i+1+1) (p')∧TrOk (p')∧(p').length≤i+1+1):=⟨aA HS.out.1 hu hwm HS.out.1.size,hn,HP'.out.1,HP'.out.2⟩;clear hn hu)
       | (go_at_call 18;refine (all_n HS3.out.2.1 (by omega) (by have:=HS3.out.2.2.2;omega) (HM.out.below HS3.out.1)).mono ?_;rintro e wa ⟨v,he,⟨pz,cz,hv,hz⟩,hb⟩;subst hv;subst he;obtain ⟨bz,hz1,hz2,hz3,hz4⟩:=hz HS3.out.2.2.1.pos;subst hz1;have HSA:Hid (Below w.heap.size w wa∧NmAt wa nb m (i+1+1) (p')∧TrOk (p')∧(p').length≤i+1+1):=⟨bC HS3.out.1 HS3.out.1.size hb,HS3.out.2.1.below hb,HS3.out.2.2.1,HS3.out.2.2.2⟩;have HZ:Hid (bz<wa.heap.size∧∀i x,p'[i]?=some x→∀j u,(spv x)[j]?=some u→wa.cell? ⟨bz,i * 5+j,none⟩=some u):=⟨hz3,hz4⟩;obtain ⟨NP,hNP⟩:∃k,k=p'.length:=⟨_,rfl⟩;have HNP:Hid (NP=p'.length):=hNP;rw [←hNP];have hNP0:0<NP:=by {rw [hNP];exact HS3.out.2.2.1.pos};have hNP9:NP≤1000:=by {rw [hNP];have:=HS3.out.2.2.2;omega};have h0i:((NP:Int)==0)=false:=by {rw [beq_eq_false_iff_ne];omega};have HR0:Hid (wa.cell? ⟨bz,0,none⟩=some (.string ⟨#[]⟩)):=(by {obtain ⟨r,t,hpr,hr⟩:=HS3.out.2.2.1.root;have h9:=hz4 0 r (by rw [hpr];rfl) 0 (.string ⟨#[]⟩) (by show some (Value.string (tx r.1))=_;rw [hr];rfl);exact h9});clear hb hz hz2 hz3 hz4 hNP)
       | ((with_reducible refine aL (some 57) (.indexAddr 45 (.tmp 56) (.const (.int .i64 0))) (some (3,false)) ?_);go_must (refine ad (.pointer (some ⟨bz,0 * 5,none⟩)) rfl (aI 5 0 bf ar rfl rfl rfl hNP0) ?_))
       | ((with_reducible refine aL (some 59) (.load 9 (.tmp 58)) (some (3,false)) ?_);go_must (refine ad (.string ⟨#[]⟩) rfl (an (.string ⟨#[]⟩) HR0.out rfl ap) ?_))
       | ((with_reducible refine aL (some 60) (.binOp .neq 9 (.tmp 59) (.const (.string {data:=#[]})) 9) (some (3,false)) ?_);go_must (refine ad (.bool false) rfl (exec_nesB ⟨#[]⟩ ⟨#[]⟩ true rfl rfl (bB _)) ?_)))
      rename_i _ _ _
      clear HC0 HC1 HMR HCL
      go_loopw [6] (fun vj wq=>∃j:Nat,j<NP∧vj=.int .i64 ((j:Int)+1)∧Hid (Below wa.heap.size wa wq)) (fun vj _=>match vj with | .int _ q=>NP - q.toNat|_=>0)
      case atStart=>exact ⟨0,hNP0,by simp,Below.refl _ _⟩
      case round =>
       obtain ⟨j,hj,rfl,HBQ⟩:=hrel
       by_cases hlj:j+1<NP
       ·have hkj:(j:Int)+1<(NP:Int):=by omega
        have HJ1:Hid ((j:Int)+1=((j+1:Nat):Int)):=by show (j:Int)+1=((j+1:Nat):Int);omega
        have hwj2:IntKind.i64.wrap ((j:Int)+1+1)=(j:Int)+1+1:=bH _ (by omega) (by omega)
        have hwj:IntKind.i64.wrap ((j:Int)+1 - 1)=(j:Int):=(bH _ (by omega) (by omega)).trans (by omega)
        have hpl:=HNP.out
        obtain ⟨x0,hx0⟩:∃x,p'[j]?=some x:=⟨p'[j]'(by omega),by simp [show j<p'.length by omega]⟩
        obtain ⟨x1,hx1⟩:∃x,p'[j+1]?=some x:=⟨p'[j+1]'(by omega),by simp [show j+1<p'.length by omega]⟩
        have ok0:PlOk x0.1:=HSA.out.2.2.1.ok.ok x0 (List.mem_of_getElem? hx0)
        have ok1:PlOk x1.1:=HSA.out.2.2.1.ok.ok x1 (List.mem_of_getElem? hx1)
        have hne:x1.1≠[]:=HSA.out.2.2.1.at hx1
        obtain ⟨y0,hy0⟩:∃y,y=tx x0.1:=⟨_,rfl⟩
        obtain ⟨y1,hy1⟩:∃y,y=tx x1.1:=⟨_,rfl⟩
        obtain ⟨d1,hd1⟩:∃y,y=tx x1.1.dropLast:=⟨_,rfl⟩
        obtain ⟨k0,hk0⟩:∃y,y=cd x0.1:=⟨_,rfl⟩
        obtain ⟨k1,hk1⟩:∃y,y=cd x1.1:=⟨_,rfl⟩
        obtain ⟨V,hV⟩:∃V,V=getV p' d1:=⟨_,rfl⟩
        obtain ⟨L,hL⟩:∃L,L=(kidsN p' y1).length:=⟨_,rfl⟩
        have hL2:¬(2:Int)<(L:Int):=by have:=HSA.out.2.2.1.kids y1;omega
        have HY0:Hid (bz<wr.heap.size∧wr.cell? ⟨bz,j * 5,none⟩=some (.string y0)):=⟨Nat.lt_of_lt_of_le HZ.out.1 HBQ.out.size,(HBQ.out.cell (p:=⟨bz,j * 5,none⟩) HZ.out.1).trans (HZ.out.2 j x0 hx0 0 (.string y0) (by rw [hy0];rfl))⟩
        have HY1:Hid (bz<wr.heap.size∧wr.cell? ⟨bz,(j+1) * 5,none⟩=some (.string y1)):=⟨Nat.lt_of_lt_of_le HZ.out.1 HBQ.out.size,(HBQ.out.cell (p:=⟨bz,(j+1) * 5,none⟩) HZ.out.1).trans (HZ.out.2 (j+1) x1 hx1 0 (.string y1) (by rw [hy1];rfl))⟩
        have HMQ:Hid (MaxL wr):=(HM.out.below HSA.out.1).below HBQ.out
        have HNQ:Hid (NmAt wr nb m (i+1+1) p'):=HSA.out.2.1.below HBQ.out
        have hpt:=par_tx ok1 hne
        have HPA:Hid (Calls Tryz.prog 22 #[.string y1] wr fun e w'=>e=.returned (.tuple #[.string d1,.bool true])∧Below wr.heap.size wr w'):=by
         have h9:=cD (tx x1.1) wr (by have:=aH ok1;omega) HMQ.out
         rw [hpt.1,hpt.2] at h9
         rw [hy1,hd1];exact h9
        have hgt:getV p' d1=V∧getB p' d1=true:=by
         refine ⟨hV.symm,?_⟩
         obtain ⟨z,hz,e⟩:=aw.1 (HSA.out.2.2.1.par x1 (List.mem_of_getElem? hx1) hne)
         have h9:=cQ HSA.out.2.2.1.ok hz (s:=d1) (by rw [hd1];exact cq ok1.drop) (by rw [hd1,bV ok1.drop,e])
         exact h9.2
        have HGT:Hid (∀W,Below wr.heap.size wr W→Calls Tryz.prog 15 #[.pointer (some ⟨nb,0,none⟩),.string d1] W fun e w'=>e=.returned (.tuple #[.agg V.toArray,.bool true])∧Below W.heap.size W w'):=fun W hW=>get_k (HNQ.out.below hW) d1 (by rw [hd1];have:=aH ok1.drop;omega) (HMQ.out.below hW) V true hgt.1 hgt.2
        have HV5:Hid (V.length=5):=by
         rw [hV];unfold getV
         split
         ·exact lookV5 _ _
         ·rfl
        have HV1:Hid (∀v∈V,v.oneCell'=true):=by
         rw [hV];unfold getV
         split
         ·exact cg _ _
         ·exact aE [] 0 0
        have HCD0:Hid (∀W,MaxL W→Calls Tryz.prog 23 #[.string y0] W fun e w'=>e=.returned (.string (mkS k0))∧Below W.heap.size W w'):=fun W hW=>by
         have h3:=bp (tx x0.1) W (by have:=aH ok0;omega) hW
         rw [bR ok0] at h3
         rw [hy0,hk0];exact h3
        have HCD1:Hid (∀W,MaxL W→Calls Tryz.prog 23 #[.string y1] W fun e w'=>e=.returned (.string (mkS k1))∧Below W.heap.size W w'):=fun W hW=>by
         have h3:=bp (tx x1.1) W (by have:=aH ok1;omega) hW
         rw [bR ok1] at h3
         rw [hy1,hk1];exact h3
        have HLS:Hid (∀_:Unit,(!Op.bytesLess (mkS k0).toList (mkS k1).toList)=false):=fun _=>by rw [hk0,hk1];exact less_cd (HSA.out.2.2.1.next hx0 hx1)
        have HKD:Hid (∀W,Below wr.heap.size wr W→Calls Tryz.prog 19 #[.pointer (some ⟨nb,0,none⟩),.string y1] W fun e w'=>∃p9 c9,e=.returned (.slice p9 L c9)∧Below W.heap.size W w'):=fun W hW=>by
         refine (kids_n (HNQ.out.below hW) (by omega) y1).mono ?_
         rintro e w' ⟨v,rfl,⟨p9,c9,hv,_⟩,hb⟩
         exact ⟨p9,c9,by rw [hv,hL],hb⟩
        have hm:=Mem.start wr
        clear hx0 hx1 ok0 ok1 hne hy0 hy1 hd1 hk0 hk1 hV hL hpt hgt hpl
        go_wp2_with (first
         | ((with_reducible refine aa (some 71) (.indexAddr 45 (.tmp 69) (.tmp 70)) ?_);go_must (refine ad (.pointer (some ⟨bz,(j+1) * 5,none⟩)) rfl (aI 5 (j+1) bf ar rfl rfl HJ1.out (by omega)) ?_))
         | ((with_reducible refine aa (some 73) (.load 9 (.tmp 72)) ?_);go_must (refine ad (.string y1) rfl (an (.string y1) HY1.out.2 rfl ap) ?_))
         | (go_at_call 22;refine HPA.out.mono ?_;rintro e w' ⟨he,hb⟩;subst he;replace hm:=hm.call hb;clear hb)
         | (go_at_call 15;refine (HGT.out _ hm.below).mono ?_;rintro e w' ⟨he,hb⟩;subst he;replace hm:=hm.call hb;clear hb)
         | ((with_reducible refine aa (some 9) (.alloc 40) ?_);refine ab _ aD hm ?_;clear hm;intro w5 g9 hm)
         | ((with_reducible refine aa none (.store 40 (.tmp 9) (.tmp 81)) ?_);refine af 0 V hm rfl rfl rfl 5 ar rfl HV5.out HV1.out ?_;clear hm;intro w6 hm))
        refine ai ?_
        refine ae (T:=fun W=>∃l,Mem wr [] W l) (by kernel_rfl) hm ?_
        intro wc hbw hmw
        clear hm
        have hm:=hmw
        clear hbw hmw
        refine aT 0 (v:=.bool true) rfl (by kernel_rfl) rfl (fun W _=>by go_simp) ⟨_,hm⟩ ?_
        go_simp
        refine aT 1 (v:=.bool false) rfl (by kernel_rfl) rfl (fun W _=>by go_simp) ⟨_,hm⟩ ?_
        go_simp
        refine aT 2 (v:=.bool false) rfl (by kernel_rfl) rfl (fun W _=>by go_simp) ⟨_,hm⟩ ?_
        go_simp
        refine aG 3 (v:=.bool true) rfl (by kernel_rfl) rfl (fun W _=>by go_simp) ⟨_,hm⟩ ?_
        go_simp
        refine aG 4 (v:=.bool false) rfl (by kernel_rfl) rfl (fun W _=>by go_simp) ⟨_,hm⟩ ?_
        go_simp
        refine aT 5 (v:=.bool false) rfl (by kernel_rfl) rfl (fun W _=>by go_simp) ⟨_,hm⟩ ?_
        go_simp
        refine aT 6 (v:=.bool false) rfl (by kernel_rfl) rfl (fun W _=>by go_simp) ⟨_,hm⟩ ?_
        go_simp
        refine aG 7 (v:=.slice (some ⟨bz,0,none⟩) NP cz) rfl (by kernel_rfl) rfl (fun W _=>by go_simp) ⟨_,hm⟩ ?_
        go_simp
        refine aG 8 (v:=.int .i64 ((j:Int)+1)) rfl (by kernel_rfl) rfl (fun W _=>by go_simp) ⟨_,hm⟩ ?_
        go_simp
        refine aG 9 (v:=.int .i64 (j:Int)) rfl (by kernel_rfl) rfl (fun W _=>by go_simp<;>exact bH _ (by omega) (by omega)) ⟨_,hm⟩ ?_
        go_simp
        refine aG 10 (v:=.pointer (some ⟨bz,j * 5,none⟩)) rfl (by kernel_rfl) rfl (fun W _=>aI 5 j bf ar rfl rfl rfl (by omega)) ⟨_,hm⟩ ?_
        go_simp
        refine aG 11 (v:=.pointer (some ⟨bz,j * 5,none⟩)) rfl (by kernel_rfl) rfl (fun W _=>by go_simp) ⟨_,hm⟩ ?_
        go_simp
        refine aG 12 (v:=.string y0) rfl (by kernel_rfl) rfl (fun W hW=>by obtain ⟨l,hW⟩:=hW;exact an _ ((hW.below.cell (p:=⟨bz,_,none⟩) HY0.out.1).trans HY0.out.2) rfl ap) ⟨_,hm⟩ ?_
        go_simp
        refine aG 14 (v:=.slice (some ⟨bz,0,none⟩) NP cz) rfl (by kernel_rfl) rfl (fun W _=>by go_simp) ⟨_,hm⟩ ?_
        go_simp
        refine aG 15 (v:=.int .i64 ((j:Int)+1)) rfl (by kernel_rfl) rfl (fun W _=>by go_simp) ⟨_,hm⟩ ?_
        go_simp
        refine aG 16 (v:=.pointer (some ⟨bz,(j+1) * 5,none⟩)) rfl (by kernel_rfl) rfl (fun W _=>aI 5 (j+1) bf ar rfl rfl HJ1.out (by omega)) ⟨_,hm⟩ ?_
        go_simp
        refine aG 17 (v:=.pointer (some ⟨bz,(j+1) * 5,none⟩)) rfl (by kernel_rfl) rfl (fun W _=>by go_simp) ⟨_,hm⟩ ?_
        go_simp
        refine aG 18 (v:=.string y1) rfl (by kernel_rfl) rfl (fun W hW=>by obtain ⟨l,hW⟩:=hW;exact an _ ((hW.below.cell (p:=⟨bz,_,none⟩) HY1.out.1).trans HY1.out.2) rfl ap) ⟨_,hm⟩ ?_
        go_simp
        refine aO 13 (by kernel_rfl) rfl rfl ?_
        intro K hK
        go_wp2_with (go_at_call 23;refine (HCD0.out _ (HMQ.out.below hm.below)).mono ?_;rintro e w' ⟨he,hb⟩;subst he;replace hm:=hm.call hb;clear hb)
        refine hK _ _ ⟨_,hm⟩ ?_
        clear hK K
        go_simp
        refine aO 19 (by kernel_rfl) rfl rfl ?_
        intro K hK
        go_wp2_with (go_at_call 23;refine (HCD1.out _ (HMQ.out.below hm.below)).mono ?_;rintro e w' ⟨he,hb⟩;subst he;replace hm:=hm.call hb;clear hb)
        refine hK _ _ ⟨_,hm⟩ ?_
        clear hK K
        go_simp
        refine aG 20 (v:=.bool false) rfl (by kernel_rfl) rfl (fun W _=>exec_geqS (mkS k0) (mkS k1) false rfl rfl (HLS.out ())) ⟨_,hm⟩ ?_
        go_simp
        refine aT 21 (v:=.bool false) rfl (by kernel_rfl) rfl (fun W _=>by go_simp) ⟨_,hm⟩ ?_
        go_simp
        refine aT 22 (v:=.bool false) rfl (by kernel_rfl) rfl (fun W _=>by go_simp) ⟨_,hm⟩ ?_
        go_simp
        refine aG 23 (v:=.pointer (some ⟨nb,0,none⟩)) rfl (by kernel_rfl) rfl (fun W _=>by go_simp) ⟨_,hm⟩ ?_
        go_simp
        refine aG 24 (v:=.slice (some ⟨bz,0,none⟩) NP cz) rfl (by kernel_rfl) rfl (fun W _=>by go_simp) ⟨_,hm⟩ ?_
        go_simp
        refine aG 25 (v:=.int .i64 ((j:Int)+1)) rfl (by kernel_rfl) rfl (fun W _=>by go_simp) ⟨_,hm⟩ ?_
        go_simp
        refine aG 26 (v:=.pointer (some ⟨bz,(j+1) * 5,none⟩)) rfl (by kernel_rfl) rfl (fun W _=>aI 5 (j+1) bf ar rfl rfl HJ1.out (by omega)) ⟨_,hm⟩ ?_
        go_simp
        refine aG 27 (v:=.pointer (some ⟨bz,(j+1) * 5,none⟩)) rfl (by kernel_rfl) rfl (fun W _=>by go_simp) ⟨_,hm⟩ ?_
        go_simp
        refine aG 28 (v:=.string y1) rfl (by kernel_rfl) rfl (fun W hW=>by obtain ⟨l,hW⟩:=hW;exact an _ ((hW.below.cell (p:=⟨bz,_,none⟩) HY1.out.1).trans HY1.out.2) rfl ap) ⟨_,hm⟩ ?_
        go_simp
        refine aO 29 (by kernel_rfl) rfl rfl ?_
        intro K hK
        go_wp2_with (go_at_call 19;refine (HKD.out _ hm.below).mono ?_;rintro e w' ⟨p9,c9,he,hb⟩;subst he;replace hm:=hm.call hb;clear hb)
        refine hK _ _ ⟨_,hm⟩ ?_
        clear hK K
        go_simp
        refine aG 30 (v:=.int .i64 (L:Int)) rfl (by kernel_rfl) rfl (fun W _=>by go_simp) ⟨_,hm⟩ ?_
        go_simp
        refine aG 31 (v:=.bool false) rfl (by kernel_rfl) rfl (fun W _=>by go_simp<;>first|exact hL2|exact decide_eq_false hL2|omega) ⟨_,hm⟩ ?_
        go_simp
        refine aT 32 (v:=.bool false) rfl (by kernel_rfl) rfl (fun W _=>by go_simp) ⟨_,hm⟩ ?_
        go_simp
        refine wpAnyH_done (by kernel_rfl) ?_ _
        simp only [endsIn]
        go_wp2_with fail
        go_roundw
        case rel=>exact ⟨j+1,by omega,by first|rfl|go_num|(simp),HBQ.out.trans (hm.below.mono HBQ.out.size)⟩
        case measure=>show NP - ((j:Int)+1+1).toNat<NP - ((j:Int)+1).toNat;omega
       ·have hkj:¬(j:Int)+1<(NP:Int):=by omega
        go_wp2_with fail
        go_roundw
        case rel=>exact ⟨i+1,by omega,by go_num,p',⟨HSA.out.1.trans (HBQ.out.mono HSA.out.1.size),HSA.out.2.1.below HBQ.out,HSA.out.2.2.1,HSA.out.2.2.2⟩⟩
        case measure=>show n - ((i:Int)+1).toNat<n - (i:Int).toNat;omega
   ·have hin:i=n:=by omega
    have hki:¬(i:Int)<(n:Int):=by omega
    go_wp2_with fail
    go_ret
    exact ⟨rfl,HS.out.1⟩
end Go.Proofs.YtabncjcfpkhhnaaGreatDoor
