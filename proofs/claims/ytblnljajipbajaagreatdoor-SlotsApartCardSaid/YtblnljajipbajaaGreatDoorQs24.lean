import Derived.Test.YtblnljajipbajaaGreatDoorQs22
set_option maxRecDepth 100000
set_option maxHeartbeats 4000000
namespace Go.Proofs.YtblnljajipbajaaGreatDoor
open Go Go.RowKit Go.Maps
def tA:Nat→Slt
 | 0=>newS
 | i+1=>putS (tA i) i (entN (tA i) i (keyB 1) (keyB (i:Int)))
theorem tA_puts:∀i,(tA i).puts=i
 | 0=>rfl
 | i+1=>by show (tA i).puts+1=i+1;rw [tA_puts i]
theorem tA_none:∀i j,i≤j→(tA i).held j=none
 | 0,_,_=>rfl
 | i+1,j,h=>(az _ _ (by omega)).trans (tA_none i j (by omega))
theorem tA_has:∀i j,j<i→(tA i).held j=some (entN (tA j) j (keyB 1) (keyB (j:Int)))
 | 0,_,h=>absurd h (by omega)
 | i+1,j,h=>by
  by_cases he:j=i
  ·subst he;exact aQ _ _ _
  ·exact (az _ _ he).trans (tA_has i j (by omega))
theorem fZ {held:Nat→Option Ent} {i:Nat} (hs:∀j,j<i→(held j).isSome=true) (hn:held i=none):∀(m k f:Nat),k+m=i→m<f→freeFrom held f k=(i:Int)
 | 0,k,f,hk,hf=>by
  obtain ⟨f',rfl⟩:∃f',f=f'+1:=⟨f - 1,by omega⟩
  have e:k=i:=by omega
  subst e
  rw [freeFrom,if_neg (by rw [hn];simp)]
 | m+1,k,f,hk,hf=>by
  obtain ⟨f',rfl⟩:∃f',f=f'+1:=⟨f - 1,by omega⟩
  rw [freeFrom,if_pos (hs k (by omega))]
  exact fZ hs hn m (k+1) f' (by omega) (by omega)
theorem fg {held:Nat→Option Ent} {n:Nat} (hs:∀j,j<n→(held j).isSome=true):∀(f k:Nat),k+f=n→freeFrom held f k = -1
 | 0,_,_=>rfl
 | f+1,k,hk=>by
  rw [freeFrom,if_pos (hs k (by omega))]
  exact fg hs f (k+1) (by omega)
theorem tA_free {i:Nat} (h:i<24):freeI (tA i).held=(i:Int):=fZ (fun j hj=>by rw [tA_has i j hj];rfl) (tA_none i i (Nat.le_refl _)) i 0 24 (by omega) (by omega)
theorem tA_full:freeI (tA 24).held = -1:=fg (n:=24) (fun j hj=>by rw [tA_has 24 j hj];rfl) 24 0 (by omega)
def bls (l:List Bool):List Value:=l.map Value.bool
theorem bls_length (l:List Bool):(bls l).length=l.length:=by simp [bls]
theorem gf {l:List Bool} {i:Nat} (h:i<l.length):(bls l)[i]?=some (.bool (l.getD i false)):=by
 simp [bls,h]
theorem bls_set (l:List Bool) (i:Nat) (b:Bool):(bls l).set i (.bool b)=bls (l.set i b):=by simp [bls,List.map_set]
theorem info_b24:(Tryz.prog.info? 58).map (fun i=>(i.zero,i.size))=some (some (.agg (bls (List.replicate 24 false)).toArray),24):=by kernel_rfl
theorem zero_b24:∀w,(zeroValue 58).run Tryz.prog w=.ok (.agg (bls (List.replicate 24 false)).toArray) w:=(zero_of_info info_b24).1
section
variable {ops:Array Oper} {rest:List Oper} {a:Act} {w:World} {Q:Exit→Act→World→Prop} {typ:TypeId} {pos:String} {aft:Array Edge} {P:Program}
theorem wpl_stcV {ty:TypeId} {x y:Operand} {q j:Nat} {l:List Value} {t:TypeId} (v:Value) (hr:Row w q l t) (hx:a.eval x=.pointer (some ⟨q,j,none⟩)) (hy:a.eval y=v) (hs:(P.info? ty).map (·.size)=some 1) (hj:j<l.length) (hv:v.cells=#[v]) (hv2:v.oneCell'=true)
  (h:∀w',Upd q w w'→Row w' q (l.set j v) t→wpList P ops Q rest a w') :
  wpList P ops Q ({dst:=none,op:=.store ty x y,type:=typ,pos:=pos,after:=aft,guard:=none}::rest) a w:=by
 refine aS 0 j v (Mem.enter hr) rfl hx hy hs hj hv hv2 ?_
 intro w' hm
 exact h w' hm.toUpd (hm.get 0 rfl)
end
theorem apart_walk (cs:List Int) (p:Option Addr) (n cap:Nat) (hcb:Bytes cs) (w:World) (ht:Tab w) (hq:QTab w) (_h2:2≤w.heap.size) (hl:SlOld w (.slice p n cap) cs) :
  Calls Tryz.prog 6 #[.slice p n cap] w fun e w'=>e=.returned (.bool true)∧Below w.heap.size w w':=by
 have HT:Hid (Tab w):=ht
 have HQT:Hid (QTab w):=hq
 have HL:Hid (SlOld w (.slice p n cap) cs):=hl
 have HCB:Hid (Bytes cs):=hcb
 have hm:=Mem.start w
 clear ht hq hl hcb
 by_cases hbad:30<n
 ·have hn1:(30:Int)<(n:Int):=by omega
  go_enter Tryz.func6,Tryz.ntmps6
  go_wp2_with (first
   | (go_at_call 9;refine (cx _ HT.out HQT.out).mono ?_;rintro e w1 ⟨rfl,hb1⟩;replace hm:=hm.call hb1;clear hb1))
  go_ret
  exact ⟨rfl,hm.below⟩
 ·have hn1:¬(30:Int)<(n:Int):=by omega
  have hn30:n≤30:=by omega
  have tk1:Nat:=0
  clear hbad
  go_enter Tryz.func6,Tryz.ntmps6
  go_wp2_with (first
   | (go_at_call 9;refine (cx _ HT.out HQT.out).mono ?_;rintro e w1 ⟨rfl,hb1⟩;replace hm:=hm.call hb1;clear hb1)
   | (go_at_call 10;go_must (refine (fh 64 _).mono ?_);rintro e w1 ⟨g,rfl,mb,kv,hd,hf,hb1⟩;rw [iK] at hd;have HD:Hid (DkAt w1 g mb kv (Dk.new 64)):=hd;have HF:Hid (∀q∈foot g mb kv,w.heap.size≤q):=fun q hq=>Nat.le_trans hm.size (hf q hq);replace hm:=hm.call hb1;clear hd hf hb1)
   | (go_at_call 11;go_must (refine (gV (by omega) (by omega) hm HD.out HF.out (by simp) HT.out).mono ?_);rintro e w2 ⟨sb,hb,rfl,st,_,_,_⟩;obtain ⟨d0,hd0⟩:∃x,x=makeD (Dk.new 64):=⟨_,rfl⟩;rw [←hd0] at st;clear hd0 hm HD HF))
  go_loopw [6] (fun vi wr=>∃(i:Nat) (d:Dk),i≤24∧vi=.int .i64 (i:Int)∧Hid (Sv w wr g mb kv sb hb d (tA i) (1000+1000 * i) [])) (fun vi _=>24 - (intOf vi).toNat)
  case atStart=>exact ⟨0,d0,by omega,rfl,st⟩
  case round =>
   clear st
   obtain ⟨i,d,hi,rfl,HST⟩:=hrel
   have st:=HST.out
   clear HST
   by_cases hlt:i<24
   ·have hli:(i:Int)<24:=by omega
    have HW8:IntKind.u8.wrap (i:Int)=(i:Int):=by simp [IntKind.wrap,IntKind.bits,IntKind.signed];omega
    have HIB:Hid ((0:Int)≤(i:Int)∧(i:Int)<256):=by show (0:Int)≤_∧_;omega
    have HFR:Hid (freeI (tA i).held=(i:Int)):=tA_free hlt
    go_wp2_with (first
     | (go_at_call 25;go_must (refine (free_v st).mono ?_);rintro e wf ⟨he,st9⟩;rw [HFR.out] at he;subst he;replace st:=st9;clear st9)
     | (go_at_call 14;refine (co _ _).mono ?_;rintro e wk ⟨rfl,hbk⟩;replace st:=st.below hbk;clear hbk)
     | (go_at_call 13;go_must (refine (put_w st HT.out HQT.out (by omega) (by rw [tA_puts];omega) i hlt (keyB 1) (keyB (i:Int)) (ak 1) (aZ (by omega)) (ak _) (aZ HIB.out) (tA (i+1)) rfl).mono ?_);rintro e wp ⟨rfl,⟨d1,st9⟩,_⟩;replace st:=st9;clear st9))
    go_roundw
    case rel=>exact ⟨i+1,d1,by omega,by go_num,st.mono (by omega)⟩
    case measure=>simp [intOf];omega
   ·have hi24:i=24:=by omega
    have hli:¬(i:Int)<24:=by omega
    subst hi24
    go_wp2_with (first
     | (go_at_call 25;go_must (refine (free_v st).mono ?_);rintro e wf ⟨he,st9⟩;rw [tA_full] at he;subst he;replace st:=st9;clear st9)
     | ((with_reducible refine ae (some 7) (.alloc 58) ?_);go_must (refine bW _ zero_b24 ?_);intro wa g7 hba hqa hra;replace st:=st.add hba hra hqa;clear hba hqa hra))
    go_loopw [8] (fun vi wr=>∃(i:Nat) (d:Dk) (t:Slt) (G:List Bool),i≤n∧vi=.int .i64 (i:Int)∧Hid (Sv w wr g mb kv sb hb d t (30000+1000 * i) [(g7,bls G,58)])∧Hid (G.length=24∧∀j,j<24→t.held j=if G.getD j false=true then none else (tA 24).held j)) (fun vi _=>n - (intOf vi).toNat)
    case atStart=>exact ⟨0,d,tA 24,List.replicate 24 false,by omega,rfl,st.mono (by omega),⟨by simp,fun j hj=>by rw [show (List.replicate 24 false).getD j false=false by rw [List.getD_eq_getElem?_getD,List.getElem?_replicate];split<;>rfl];rfl⟩⟩
    case round =>
     clear st
     obtain ⟨i,d,t,G,hi,rfl,HST,HTG⟩:=hrel
     have st:=HST.out
     clear HST
     by_cases hlt:i<n
     ·have hli:(i:Int)<(n:Int):=by omega
      obtain ⟨b,o,hp,hc⟩:=byte_at HL.out hlt
      subst hp
      obtain ⟨x,hx⟩:∃x,x=cs.getD i 0:=⟨_,rfl⟩
      rw [←hx] at hc
      have HC0:Hid (w.cell? ⟨b,o+i,none⟩=some (.int .u8 x)):=hc
      have hxb:0≤x∧x<256:=by rw [hx];exact Bytes.get HCB.out i
      obtain ⟨k,hk⟩:∃k:Nat,(k:Int)=x.tmod 24:=⟨(x.tmod 24).toNat,by rw [Int.tmod_eq_emod_of_nonneg hxb.1];omega⟩
      have hk24:k<24:=by rw [Int.tmod_eq_emod_of_nonneg hxb.1] at hk;omega
      have HKM:x.tmod 24=(k:Int):=hk.symm
      have HKW:IntKind.i64.wrap (k:Int)=(k:Int):=by rw [IntKind.wrap_i64];omega
      have hki:(k:Int)<24:=by omega
      obtain ⟨t1,ht1⟩:∃t1,t1=eraS t k:=⟨_,rfl⟩
      have HT1:Hid (∀_:Unit,t1=eraS t k):=fun _=>ht1
      have HGL:Hid (G.length=24):=HTG.out.1
      have HTG1:Hid ((G.set k true).length=24∧∀j,j<24→t1.held j=if (G.set k true).getD j false=true then none else (tA 24).held j):=by
       refine ⟨by rw [List.length_set];exact HGL.out,fun j hj=>?_⟩
       rw [ht1]
       by_cases he:j=k
       ·subst he
        rw [show (eraS t j).held j=none from aQ _ _ _,if_pos]
        simp [HGL.out,hj]
       ·rw [show (eraS t k).held j=t.held j from az _ _ he,HTG.out.2 j hj,show (G.set k true).getD j false=G.getD j false by simp [Ne.symm he]]
      clear hc hx hk ht1 hxb HTG
      go_wp2_with (first
       | ((with_reducible refine ae (some 55) (.indexAddr 33 (.tmp 53) (.tmp 54)) ?_);go_must (refine aq (.pointer (some ⟨b,o+i,none⟩)) rfl (bw au aC i rfl rfl rfl hlt) ?_))
       | ((with_reducible refine ae (some 56) (.load 5 (.tmp 55)) ?_);go_must (refine aM (.int .u8 x) (st.cell HC0.out) rfl d3 ?_))
       | ((with_reducible refine ae none (.store 4 (.tmp 60) (.const (.bool true))) ?_);go_must (refine wpl_stcV (j:=k) (.bool true) (st.mem.get 0 rfl) rfl rfl ge (by rw [bls_length,HGL.out];exact hk24) rfl rfl ?_);intro wb hub hrb;rw [bls_set] at hrb;replace st:=st.upd 0 rfl hub hrb;clear hub hrb)
       | (go_at_call 15;go_must (refine (erase_w st (by omega) k hk24 t1 (HT1.out ())).mono ?_);rintro e wp ⟨rfl,⟨d1,st9⟩,_⟩;replace st:=st9;clear st9))
      go_roundw
      case rel=>exact ⟨i+1,d1,t1,G.set k true,by omega,by go_num,st.mono (by omega),HTG1.out⟩
      case measure=>simp [intOf];omega
     ·have hli:¬(i:Int)<(n:Int):=by omega
      obtain ⟨KK,hKK⟩:∃KK,KK=30000+1000 * i:=⟨_,rfl⟩
      rw [←hKK] at st
      have hKK2:KK≤100000:=by omega
      clear hKK hli
      go_wp2_with fail
      go_loopw [10] (fun vi wr=>∃(j:Nat),j≤24∧vi=.int .i64 (j:Int)∧Hid (Sv w wr g mb kv sb hb d t KK [(g7,bls G,58)])) (fun vi _=>24 - (intOf vi).toNat)
      case atStart=>exact ⟨0,by omega,rfl,st⟩
      case round =>
       clear st
       rename_i i0
       obtain ⟨i,hi,rfl,HST⟩:=hrel
       have st:=HST.out
       clear HST
       by_cases hlt:i<24
       ·have hli:(i:Int)<24:=by omega
        have HW8:IntKind.u8.wrap (i:Int)=(i:Int):=by simp [IntKind.wrap,IntKind.bits,IntKind.signed];omega
        have HGL:Hid (G.length=24):=HTG.out.1
        have HHE:=HTG.out.2 i hlt
        cases hg:G.getD i false with
        | true =>
         have HGI:Hid (G.getD i false=true):=hg
         rw [if_pos hg] at HHE
         have HGV:Hid (∀_:Unit,getV t.held (i:Int) (keyB 1)=(zero32,120)):=fun _=>iI hlt HHE _
         clear hg HHE
         go_wp2_with (first
          | (go_at_call 14;refine (co _ _).mono ?_;rintro e wk ⟨rfl,hbk⟩;replace st:=st.below hbk;clear hbk)
          | (go_at_call 16;go_must (refine (iG st HT.out HQT.out (i:Int) (keyB 1) (ak 1) (aZ (by omega))).mono ?_);rintro e wg ⟨he,st9⟩;rw [HGV.out ()] at he;subst he;replace st:=st9;clear st9)
          | ((with_reducible refine ae (some 11) (.alloc 39) ?_);go_must (refine bW _ br ?_);intro wa q11 hba hqa hra;replace st:=st.add hba hra hqa;clear hba hqa hra)
          | ((with_reducible refine ae none (.store 39 (.tmp 11) (.tmp 74)) ?_);go_must (refine eb (u8s zero32) (st.mem.get 0 rfl) rfl rfl 32 aw (by simp [aa]) (by simp [aa,zero32]) (aj _) ?_);intro wb hub hrb;replace st:=st.upd 0 rfl hub hrb;clear hub hrb))
         refine av ?_
         refine aV (T:=fun W=>(Row W g7 (bls G) 58∧Row W q11 (u8s zero32) 39)) (by kernel_rfl) st.mem ?_
         intro wz hbz hmz
         replace st:=st.below hbz
         have HTW:Hid (Row wz g7 (bls G) 58∧Row wz q11 (u8s zero32) 39):=⟨st.mem.get 1 rfl,st.mem.get 0 rfl⟩
         clear hbz hmz
         refine aT 0 (v:=.int .i64 (i:Int)) rfl (by kernel_rfl) rfl (fun W _=>by go_simp) HTW.out ?_
         go_simp
         refine aT 1 (v:=.pointer (some ⟨g7,i,none⟩)) rfl (by kernel_rfl) rfl (fun W _=>by go_simp) HTW.out ?_
         go_simp
         refine aT 2 (v:=.bool true) rfl (by kernel_rfl) rfl (fun W hW=>cB i _ hW.1 rfl dy (by rw [gf (by rw [HGL.out];exact hlt),HGI.out])) HTW.out ?_
         go_simp
         refine aT 3 (v:=.int .i64 120) rfl (by kernel_rfl) rfl (fun W _=>by go_simp) HTW.out ?_
         go_simp
         refine aT 4 (v:=.bool true) rfl (by kernel_rfl) rfl (fun W _=>by go_simp) HTW.out ?_
         go_simp
         refine aT 5 (v:=.bool false) rfl (by kernel_rfl) rfl (fun W _=>by go_simp) HTW.out ?_
         go_simp
         refine aT 6 (v:=.bool false) rfl (by kernel_rfl) rfl (fun W _=>by go_simp) HTW.out ?_
         go_simp
         refine aG 7 (v:=.int .i64 (i:Int)) rfl (by kernel_rfl) rfl (fun W _=>by go_simp) HTW.out ?_
         go_simp
         refine aG 8 (v:=.pointer (some ⟨g7,i,none⟩)) rfl (by kernel_rfl) rfl (fun W _=>by go_simp) HTW.out ?_
         go_simp
         refine aG 9 (v:=.bool true) rfl (by kernel_rfl) rfl (fun W hW=>cy i _ hW.1 rfl dy (by rw [gf (by rw [HGL.out];exact hlt),HGI.out])) HTW.out ?_
         go_simp
         refine aG 10 (v:=.bool false) rfl (by kernel_rfl) rfl (fun W _=>by go_simp) HTW.out ?_
         go_simp
         refine aG 11 (v:=.bool false) rfl (by kernel_rfl) rfl (fun W _=>by go_simp) HTW.out ?_
         go_simp
         refine bn 12 rfl (by kernel_rfl) (by kernel_rfl) (by kernel_rfl) rfl HTW.out ?_
         go_simp
         refine bn 13 rfl (by kernel_rfl) (by kernel_rfl) (by kernel_rfl) rfl HTW.out ?_
         go_simp
         refine bn 14 rfl (by kernel_rfl) (by kernel_rfl) (by kernel_rfl) rfl HTW.out ?_
         go_simp
         refine bn 15 rfl (by kernel_rfl) (by kernel_rfl) (by kernel_rfl) rfl HTW.out ?_
         go_simp
         refine bn 16 rfl (by kernel_rfl) (by kernel_rfl) (by kernel_rfl) rfl HTW.out ?_
         go_simp
         refine bn 17 rfl (by kernel_rfl) (by kernel_rfl) (by kernel_rfl) rfl HTW.out ?_
         go_simp
         refine bn 18 rfl (by kernel_rfl) (by kernel_rfl) (by kernel_rfl) rfl HTW.out ?_
         go_simp
         refine bn 19 rfl (by kernel_rfl) (by kernel_rfl) (by kernel_rfl) rfl HTW.out ?_
         go_simp
         refine bn 20 rfl (by kernel_rfl) (by kernel_rfl) (by kernel_rfl) rfl HTW.out ?_
         go_simp
         refine aG 21 (v:=.bool false) rfl (by kernel_rfl) rfl (fun W _=>by go_simp) HTW.out ?_
         go_simp
         refine aT 22 (v:=.bool false) rfl (by kernel_rfl) rfl (fun W _=>by go_simp) HTW.out ?_
         go_simp
         refine wpAnyH_done (by kernel_rfl) ?_ _
         simp only [endsIn]
         go_wp2_with fail
         go_roundw
         case rel=>exact ⟨i+1,by omega,by go_num,st.tail⟩
         case measure=>simp [intOf];omega
        | false =>
         have HGI:Hid (G.getD i false=false):=hg
         rw [if_neg (by rw [hg];simp),tA_has 24 i hlt] at HHE
         have HGV:Hid (∀_:Unit,getV t.held (i:Int) (keyB 1)=(keyB (i:Int),0)):=fun _=>by rw [gt hlt HHE];exact unw_own (keyB 1) (keyB (i:Int)) i _ (ak _) (aZ (by omega))
         clear hg HHE
         go_wp2_with (first
          | (go_at_call 14;refine (co _ _).mono ?_;rintro e wk ⟨rfl,hbk⟩;replace st:=st.below hbk;clear hbk)
          | (go_at_call 16;go_must (refine (iG st HT.out HQT.out (i:Int) (keyB 1) (ak 1) (aZ (by omega))).mono ?_);rintro e wg ⟨he,st9⟩;rw [HGV.out ()] at he;subst he;replace st:=st9;clear st9)
          | ((with_reducible refine ae (some 11) (.alloc 39) ?_);go_must (refine bW _ br ?_);intro wa q11 hba hqa hra;replace st:=st.add hba hra hqa;clear hba hqa hra)
          | ((with_reducible refine ae none (.store 39 (.tmp 11) (.tmp 74)) ?_);go_must (refine eb (u8s (keyB (i:Int))) (st.mem.get 0 rfl) rfl rfl 32 aw (by simp [aa]) (by rw [aa,ak]) (aj _) ?_);intro wb hub hrb;replace st:=st.upd 0 rfl hub hrb;clear hub hrb))
         refine av ?_
         refine aV (T:=fun W=>(Row W g7 (bls G) 58∧Row W q11 (u8s (keyB (i:Int))) 39)) (by kernel_rfl) st.mem ?_
         intro wz hbz hmz
         replace st:=st.below hbz
         have HTW:Hid (Row wz g7 (bls G) 58∧Row wz q11 (u8s (keyB (i:Int))) 39):=⟨st.mem.get 1 rfl,st.mem.get 0 rfl⟩
         clear hbz hmz
         refine aT 0 (v:=.int .i64 (i:Int)) rfl (by kernel_rfl) rfl (fun W _=>by go_simp) HTW.out ?_
         go_simp
         refine aT 1 (v:=.pointer (some ⟨g7,i,none⟩)) rfl (by kernel_rfl) rfl (fun W _=>by go_simp) HTW.out ?_
         go_simp
         refine aT 2 (v:=.bool false) rfl (by kernel_rfl) rfl (fun W hW=>cB i _ hW.1 rfl dy (by rw [gf (by rw [HGL.out];exact hlt),HGI.out])) HTW.out ?_
         go_simp
         refine aT 3 (v:=.int .i64 0) rfl (by kernel_rfl) rfl (fun W _=>by go_simp) HTW.out ?_
         go_simp
         refine aT 4 (v:=.bool false) rfl (by kernel_rfl) rfl (fun W _=>by go_simp) HTW.out ?_
         go_simp
         refine aT 5 (v:=.bool false) rfl (by kernel_rfl) rfl (fun W _=>by go_simp) HTW.out ?_
         go_simp
         refine aT 6 (v:=.bool false) rfl (by kernel_rfl) rfl (fun W _=>by go_simp) HTW.out ?_
         go_simp
         refine aG 7 (v:=.int .i64 (i:Int)) rfl (by kernel_rfl) rfl (fun W _=>by go_simp) HTW.out ?_
         go_simp
         refine aG 8 (v:=.pointer (some ⟨g7,i,none⟩)) rfl (by kernel_rfl) rfl (fun W _=>by go_simp) HTW.out ?_
         go_simp
         refine aG 9 (v:=.bool false) rfl (by kernel_rfl) rfl (fun W hW=>cy i _ hW.1 rfl dy (by rw [gf (by rw [HGL.out];exact hlt),HGI.out])) HTW.out ?_
         go_simp
         refine aG 10 (v:=.bool true) rfl (by kernel_rfl) rfl (fun W _=>by go_simp) HTW.out ?_
         go_simp
         refine aG 11 (v:=.bool true) rfl (by kernel_rfl) rfl (fun W _=>by go_simp) HTW.out ?_
         go_simp
         refine aG 12 (v:=.int .i64 0) rfl (by kernel_rfl) rfl (fun W _=>by go_simp) HTW.out ?_
         go_simp
         refine aG 13 (v:=.bool false) rfl (by kernel_rfl) rfl (fun W _=>by go_simp) HTW.out ?_
         go_simp
         refine aG 14 (v:=.bool false) rfl (by kernel_rfl) rfl (fun W _=>by go_simp) HTW.out ?_
         go_simp
         refine aG 15 (v:=.agg (u8s (keyB (i:Int))).toArray) rfl (by kernel_rfl) rfl (fun W hW=>aN 0 _ hW.2 rfl _ aF rfl 32 aw (by rw [aa,ak];omega) (by rw [List.drop_zero,List.take_of_length_le (by rw [aa,ak];omega)])) HTW.out ?_
         go_simp
         refine aG 16 (v:=.int .i64 (i:Int)) rfl (by kernel_rfl) rfl (fun W _=>by go_simp) HTW.out ?_
         go_simp
         refine aG 17 (v:=.int .u8 (i:Int)) rfl (by kernel_rfl) rfl (fun W _=>by go_simp) HTW.out ?_
         go_simp
         refine aO 18 (by kernel_rfl) rfl rfl ?_
         intro K hK
         go_wp2_with ((go_at_call 14;refine (co _ _).mono ?_;rintro e wk ⟨rfl,hbk⟩;replace st:=st.below hbk;clear hbk HTW;have HTW:Hid (Row wk g7 (bls G) 58∧Row wk q11 (u8s (keyB (i:Int))) 39):=⟨st.mem.get 1 rfl,st.mem.get 0 rfl⟩))
         refine hK _ _ HTW.out ?_
         clear hK K
         go_simp
         refine aG 19 (v:=.bool false) rfl (by kernel_rfl) rfl (fun W hW=>gC 5 32 .u8 (keyB (i:Int)) rfl rfl aF ce aC eg_key (ak _)) HTW.out ?_
         go_simp
         refine aG 20 (v:=.bool false) rfl (by kernel_rfl) rfl (fun W _=>by go_simp) HTW.out ?_
         go_simp
         refine aG 21 (v:=.bool false) rfl (by kernel_rfl) rfl (fun W _=>by go_simp) HTW.out ?_
         go_simp
         refine aT 22 (v:=.bool false) rfl (by kernel_rfl) rfl (fun W _=>by go_simp) HTW.out ?_
         go_simp
         refine wpAnyH_done (by kernel_rfl) ?_ _
         simp only [endsIn]
         go_wp2_with fail
         go_roundw
         case rel=>exact ⟨i+1,by omega,by go_num,st.tail⟩
         case measure=>simp [intOf];omega
       ·have hli:¬(i:Int)<24:=by omega
        go_wp2_with fail
        go_ret
        exact ⟨rfl,st.mem.below⟩
end Go.Proofs.YtblnljajipbajaaGreatDoor
