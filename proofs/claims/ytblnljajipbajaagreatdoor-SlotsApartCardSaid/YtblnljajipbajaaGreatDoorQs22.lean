import Derived.Test.YtblnljajipbajaaGreatDoorQs21
set_option maxRecDepth 100000
set_option maxHeartbeats 4000000
namespace Go.Proofs.YtblnljajipbajaaGreatDoor
open Go Go.RowKit Go.Maps
theorem used_one {held:Nat→Option Ent} {k:Nat} (hk:k<24) (h1:∀j,j≠k→held j=none) (h2:(held k).isSome=true):usedL held 24=[k]:=by
 unfold usedL
 have h:(fun j=>(held j).isSome)=fun j=>decide (j=k):=by
  funext j
  by_cases hj:j=k
  ·subst hj;rw [h2];simp
  ·rw [h1 j hj,decide_eq_false hj];rfl
 rw [h]
 have:∀q:Fin 24,(List.range 24).filter (fun j=>decide (j=q.val))=[q.val]:=by decide
 exact this ⟨k,hk⟩
theorem used_length {held:Nat→Option Ent} {k:Nat} (hk:k<24) (h1:∀j,j≠k→held j=none) (h2:(held k).isSome=true):(usedL held 24).length=1:=by rw [used_one hk h1 h2];rfl
theorem Sv.cell {w0 w:World} {g mb:Nat} {kv:Value} {sb hb:Nat} {d:Dk} {t:Slt} {k:Nat} {rows:List (Nat×List Value×TypeId)} (h:Sv w0 w g mb kv sb hb d t k rows) {b o:Nat} {v:Value} (hc:w0.cell? ⟨b,o,none⟩=some v):w.cell? ⟨b,o,none⟩=some v :=
 (h.mem.old (p:=⟨b,o,none⟩) (block_lt_of_cell hc) (by simp)).trans hc
theorem byte_at {w:World} {p:Option Addr} {n cap:Nat} {cs:List Int} (h:SlOld w (.slice p n cap) cs) {i:Nat} (hi:i<n):∃b o,p=some ⟨b,o,none⟩∧w.cell? ⟨b,o+i,none⟩=some (.int .u8 (cs.getD i 0)):=by
 obtain ⟨hn,_,hs⟩:=h.src0
 obtain ⟨b,o,rfl,hseg⟩:=hs (by omega)
 exact ⟨b,o,rfl,hseg i (by omega)⟩
theorem gC {P:Program} {a:Act} {w:World} {dst:Option Tmp} {typ:TypeId} {pos:String} {aft:Array Edge} {gd:Option (Nat×Bool)} {t:TypeId} {x y:Operand} {rt:TypeId} (e:TypeId) (n:Nat) (k:IntKind) (xs:List Int) (hx:a.eval x=.agg (xs.map (Value.int k)).toArray) (hy:a.eval y=.agg (xs.map (Value.int k)).toArray) (ht:P.underlying t=some (.array n e)) (he:P.underlying e=some (.int k)) (hs:(P.info? e).map (·.size)=some 1) (hm:P.eqGuardType P.depth t=false) (h1:xs.length=n) :
  (execOp a.eval {dst:=dst,op:=.binOp .neq t x y rt,type:=typ,pos:=pos,after:=aft,guard:=gd}).run P w=.ok (.value (.bool false)) w:=by
 have hq:=run_neqa (P:=P) w t e n k ht he hs xs xs h1 h1
 unfold execOp
 simp only [hx,hy,Sem.run_bind,run_eqGuard_agg w .neq t x y _ _ hm,Sem.run_pure,Result.andThen_ok,hq]
 simp
theorem last_walk (a:Int) (cs ch:List Int) (p p2:Option Addr) (n cap n2 cap2:Nat) (ha:0≤a∧a<256) (hcb:Bytes cs) (hchb:Bytes ch) (w:World) (ht:Tab w) (hq:QTab w) (_h2:2≤w.heap.size) (hl:SlOld w (.slice p n cap) cs) (hl2:SlOld w (.slice p2 n2 cap2) ch) :
  Calls Tryz.prog 8 #[.int .u8 a,.slice p n cap,.slice p2 n2 cap2] w fun e w'=>e=.returned (.bool true)∧Below w.heap.size w w':=by
 have HT:Hid (Tab w):=ht
 have HQT:Hid (QTab w):=hq
 have HL:Hid (SlOld w (.slice p n cap) cs):=hl
 have HL2:Hid (SlOld w (.slice p2 n2 cap2) ch):=hl2
 have HCB:Hid (Bytes cs):=hcb
 have HCHB:Hid (Bytes ch):=hchb
 obtain ⟨k,hk⟩:∃k:Nat,(k:Int)=a % 24:=⟨(a % 24).toNat,by omega⟩
 have hk24:k<24:=by omega
 have HKA:Hid (a % 24=(k:Int)):=hk.symm
 have HKM:a % 24=(k:Int):=hk.symm
 have HKW:IntKind.i64.wrap (k:Int)=(k:Int):=by rw [IntKind.wrap_i64];omega
 have hm:=Mem.start w
 clear ht hq hl hl2 hcb hchb hk
 by_cases hbad:n=0∨20<n∨20<n2
 ·by_cases h0:n=0
  ·have HN0:(n:Int)=0:=by omega
   go_enter Tryz.func8,Tryz.ntmps8
   go_wp2_with (first
    | (go_at_call 9;refine (cx _ HT.out HQT.out).mono ?_;rintro e w1 ⟨rfl,hb1⟩;replace hm:=hm.call hb1;clear hb1))
   go_ret
   exact ⟨rfl,hm.below⟩
  ·have hn0:¬(n:Int)=0:=by omega
   by_cases h1:20<n
   ·have hn1:(20:Int)<(n:Int):=by omega
    go_enter Tryz.func8,Tryz.ntmps8
    go_wp2_with (first
     | (go_at_call 9;refine (cx _ HT.out HQT.out).mono ?_;rintro e w1 ⟨rfl,hb1⟩;replace hm:=hm.call hb1;clear hb1))
    go_ret
    exact ⟨rfl,hm.below⟩
   ·have hn1:¬(20:Int)<(n:Int):=by omega
    have hn2:(20:Int)<(n2:Int):=by omega
    go_enter Tryz.func8,Tryz.ntmps8
    go_wp2_with (first
     | (go_at_call 9;refine (cx _ HT.out HQT.out).mono ?_;rintro e w1 ⟨rfl,hb1⟩;replace hm:=hm.call hb1;clear hb1))
    go_ret
    exact ⟨rfl,hm.below⟩
 ·have hn0:¬(n:Int)=0:=by omega
  have hn1:¬(20:Int)<(n:Int):=by omega
  have hn2:¬(20:Int)<(n2:Int):=by omega
  have hn20:n≤20:=by omega
  have HB0:((n:Int)==0)=false:=by simp;omega
  have HB1:decide ((20:Int)<(n:Int))=false:=decide_eq_false (by omega)
  have HB2:decide ((20:Int)<(n2:Int))=false:=decide_eq_false (by omega)
  have hz0:¬n=0:=by omega
  clear hbad hn0 hn1 hn2
  go_enter Tryz.func8,Tryz.ntmps8
  go_wp2_with (first
   | (go_at_call 9;refine (cx _ HT.out HQT.out).mono ?_;rintro e w1 ⟨rfl,hb1⟩;replace hm:=hm.call hb1;clear hb1)
   | (go_at_call 10;go_must (refine (fh 64 _).mono ?_);rintro e w1 ⟨g,rfl,mb,kv,hd,hf,hb1⟩;rw [iK] at hd;have HD:Hid (DkAt w1 g mb kv (Dk.new 64)):=hd;have HF:Hid (∀q∈foot g mb kv,w.heap.size≤q):=fun q hq=>Nat.le_trans hm.size (hf q hq);replace hm:=hm.call hb1;clear hd hf hb1)
   | (go_at_call 11;go_must (refine (gV (by omega) (by omega) hm HD.out HF.out (by simp) HT.out).mono ?_);rintro e w2 ⟨sb,hb,rfl,st,_,_,_⟩;obtain ⟨d0,hd0⟩:∃x,x=makeD (Dk.new 64):=⟨_,rfl⟩;rw [←hd0] at st;clear hd0 hm HD HF))
  rw [HKM]
  clear HKM
  go_loopw [8,9,11] (fun vs ve vi wr=>∃(i sb hb:Nat) (d:Dk) (t:Slt),i≤n∧vi=.int .i64 (i:Int)∧vs=.pointer (some ⟨sb,0,none⟩)∧ve=.int .i64 0∧Hid (Sv w wr g mb kv sb hb d t (1000+3000 * i) [])∧Hid (t.puts=i∧∀j,j≠k→t.held j=none)) (fun _ _ vi _=>n - (intOf vi).toNat)
  case atStart=>exact ⟨0,sb,hb,d0,newS,by omega,rfl,rfl,rfl,st,⟨rfl,fun _ _=>rfl⟩⟩
  case round =>
   clear st
   obtain ⟨i,sb,hb,d,t,hi,rfl,rfl,rfl,HST,HTI⟩:=hrel
   have st:=HST.out
   by_cases hlt:i<n
   ·have hli:(i:Int)<(n:Int):=by omega
    obtain ⟨b,o,hp,hc⟩:=byte_at HL.out hlt
    subst hp
    obtain ⟨x,hx⟩:∃x,x=cs.getD i 0:=⟨_,rfl⟩
    rw [←hx] at hc
    have HC0:Hid (w.cell? ⟨b,o+i,none⟩=some (.int .u8 x)):=hc
    have HXB:Hid (0≤x∧x<256):=by rw [hx];exact Bytes.get HCB.out i
    obtain ⟨y,hy⟩:∃y,y=(x+1) % 256:=⟨_,rfl⟩
    have HYY:IntKind.u8.wrap (x+1)=y:=by rw [hy];simp [IntKind.wrap,IntKind.bits,IntKind.signed]
    have HYB:Hid (0≤y∧y<256):=by rw [hy];show 0≤_∧_;omega
    have HPU:Hid (t.puts=i):=HTI.out.1
    obtain ⟨t1,ht1⟩:∃t1,t1=putS t k (entN t k (keyB x) (keyB y)):=⟨_,rfl⟩
    have HT1:Hid (∀_:Unit,t1=putS t k (entN t k (keyB x) (keyB y))):=fun _=>ht1
    have HG1:Hid (∀_:Unit,getV t1.held (k:Int) (keyB x)=(keyB y,0)):=fun _=>by rw [ht1];exact putS_get hk24 (keyB x) (keyB y) (ak y) (aZ HYB.out)
    have HN1:Hid (t1.puts=i+1∧∀j,j≠k→t1.held j=none):=⟨by rw [ht1];show t.puts+1=i+1;rw [HPU.out],fun j hj=>by rw [ht1];exact (az _ _ hj).trans (HTI.out.2 j hj)⟩
    have HUS:Hid (∀_:Unit,(usedL t1.held 24).length=1):=fun _=>used_length hk24 HN1.out.2 (by rw [ht1];rw [show (putS t k (entN t k (keyB x) (keyB y))).held k=some (entN t k (keyB x) (keyB y)) from aQ _ _ _];rfl)
    clear hc hx hy ht1 HST HTI
    go_wp2_with fail
    refine av ?_
    refine aV (T:=fun W=>(W.cell? ⟨b,o+i,none⟩=some (.int .u8 x))) (by kernel_rfl) st.mem ?_
    intro wz hbz hmz
    replace st:=st.below hbz
    have HTW:Hid (wz.cell? ⟨b,o+i,none⟩=some (.int .u8 x)):=st.cell HC0.out
    clear hbz hmz
    refine aT 0 (v:=.pointer (some ⟨sb,0,none⟩)) rfl (by kernel_rfl) rfl (fun W _=>by go_simp) HTW.out ?_
    go_simp
    refine aT 1 (v:=.int .i64 (k:Int)) rfl (by kernel_rfl) rfl (fun W _=>by go_simp) HTW.out ?_
    go_simp
    refine aT 2 (v:=.slice (some ⟨b,o,none⟩) n cap) rfl (by kernel_rfl) rfl (fun W _=>by go_simp) HTW.out ?_
    go_simp
    refine aT 3 (v:=.int .i64 (i:Int)) rfl (by kernel_rfl) rfl (fun W _=>by go_simp) HTW.out ?_
    go_simp
    refine aT 4 (v:=.pointer (some ⟨b,o+i,none⟩)) rfl (by kernel_rfl) rfl (fun W hW=>bw au aC i rfl rfl rfl hlt) HTW.out ?_
    go_simp
    refine aT 5 (v:=.int .u8 x) rfl (by kernel_rfl) rfl (fun W hW=>bG hW rfl d3) HTW.out ?_
    go_simp
    refine aT 7 (v:=.slice (some ⟨b,o,none⟩) n cap) rfl (by kernel_rfl) rfl (fun W _=>by go_simp) HTW.out ?_
    go_simp
    refine aT 8 (v:=.int .i64 (i:Int)) rfl (by kernel_rfl) rfl (fun W _=>by go_simp) HTW.out ?_
    go_simp
    refine aT 9 (v:=.pointer (some ⟨b,o+i,none⟩)) rfl (by kernel_rfl) rfl (fun W hW=>bw au aC i rfl rfl rfl hlt) HTW.out ?_
    go_simp
    refine aT 10 (v:=.int .u8 x) rfl (by kernel_rfl) rfl (fun W hW=>bG hW rfl d3) HTW.out ?_
    go_simp
    refine aT 11 (v:=.int .u8 y) rfl (by kernel_rfl) rfl (fun W _=>by go_simp) HTW.out ?_
    go_simp
    refine aO 6 (by kernel_rfl) rfl rfl ?_
    intro K hK
    go_wp2_with ((go_at_call 14;refine (co _ _).mono ?_;rintro e wk ⟨rfl,hbk⟩;replace st:=st.below hbk;clear hbk HTW;have HTW:Hid (wk.cell? ⟨b,o+i,none⟩=some (.int .u8 x)):=st.cell HC0.out))
    refine hK _ _ HTW.out ?_
    clear hK K
    go_simp
    refine aO 12 (by kernel_rfl) rfl rfl ?_
    intro K hK
    go_wp2_with ((go_at_call 14;refine (co _ _).mono ?_;rintro e wk ⟨rfl,hbk⟩;replace st:=st.below hbk;clear hbk HTW;have HTW:Hid (wk.cell? ⟨b,o+i,none⟩=some (.int .u8 x)):=st.cell HC0.out))
    refine hK _ _ HTW.out ?_
    clear hK K
    go_simp
    refine aO 13 (by kernel_rfl) rfl rfl ?_
    intro K hK
    go_wp2_with ((go_at_call 13;go_must (refine (put_w st HT.out HQT.out (by omega) (by have:=HPU.out;omega) k hk24 (keyB x) (keyB y) (ak x) (aZ HXB.out) (ak y) (aZ HYB.out) t1 (HT1.out ())).mono ?_);rintro e wp ⟨rfl,⟨d1,st9⟩,_⟩;replace st:=st9;clear st9 HTW;have HTW:Hid (wp.cell? ⟨b,o+i,none⟩=some (.int .u8 x)):=st.cell HC0.out))
    refine hK _ _ HTW.out ?_
    clear hK K
    go_simp
    refine aT 14 (v:=.bool false) rfl (by kernel_rfl) rfl (fun W _=>by go_simp) HTW.out ?_
    go_simp
    refine wpAnyH_done (by kernel_rfl) ?_ _
    simp only [endsIn]
    clear HTW
    by_cases h3:x.tmod 3=0
    ·have HX3:(x.tmod 3==0)=true:=by simpa using h3
     go_wp2_with (first
      | ((with_reducible refine ae (some 63) (.indexAddr 33 (.tmp 61) (.tmp 62)) ?_);go_must (refine aq (.pointer (some ⟨b,o+i,none⟩)) rfl (bw au aC i rfl rfl rfl hlt) ?_))
      | ((with_reducible refine ae (some 64) (.load 5 (.tmp 63)) ?_);go_must (refine aM (.int .u8 x) (st.cell HC0.out) rfl d3 ?_))
      | (go_at_call 18;go_must (refine (crash_w st ch _ HCHB.out (st.old HL2.out)).mono ?_);rintro e wc ⟨rfl,d2,st9⟩;replace st:=st9;clear st9)
      | (go_at_call 19;go_must (refine (open_v st HT.out (by omega)).mono ?_);rintro e wo ⟨sb2,hb2,rfl,st9⟩;replace st:=st9;clear st9)
      | ((with_reducible refine ae (some 82) (.indexAddr 33 (.tmp 80) (.tmp 81)) ?_);go_must (refine aq (.pointer (some ⟨b,o+i,none⟩)) rfl (bw au aC i rfl rfl rfl hlt) ?_))
      | ((with_reducible refine ae (some 83) (.load 5 (.tmp 82)) ?_);go_must (refine aM (.int .u8 x) (st.cell HC0.out) rfl d3 ?_))
      | (go_at_call 14;refine (co _ _).mono ?_;rintro e wk ⟨rfl,hbk⟩;replace st:=st.below hbk;clear hbk)
      | (go_at_call 16;go_must (refine (iG st HT.out HQT.out (k:Int) (keyB x) (ak x) (aZ HXB.out)).mono ?_);rintro e wg ⟨he,st9⟩;rw [HG1.out ()] at he;subst he;replace st:=st9;clear st9)
      | ((with_reducible refine ae (some 12) (.alloc 39) ?_);go_must (refine bW _ br ?_);intro wa q12 hba hqa hra;replace st:=st.add hba hra hqa;clear hba hqa hra)
      | ((with_reducible refine ae none (.store 39 (.tmp 12) (.tmp 86)) ?_);go_must (refine eb (u8s (keyB y)) (st.mem.get 0 rfl) rfl rfl 32 aw (by simp [aa]) (by rw [aa,ak]) (aj _) ?_);intro wb hub hrb;replace st:=st.upd 0 rfl hub hrb;clear hub hrb))
     refine av ?_
     refine aV (T:=fun W=>(W.cell? ⟨b,o+i,none⟩=some (.int .u8 x)∧Row W q12 (u8s (keyB y)) 39)) (by kernel_rfl) st.mem ?_
     intro wz hbz hmz
     replace st:=st.below hbz
     have HTW:Hid (wz.cell? ⟨b,o+i,none⟩=some (.int .u8 x)∧Row wz q12 (u8s (keyB y)) 39):=⟨st.cell HC0.out,st.mem.get 0 rfl⟩
     clear hbz hmz
     refine aT 0 (v:=.int .i64 0) rfl (by kernel_rfl) rfl (fun W _=>by go_simp) HTW.out ?_
     go_simp
     refine aT 1 (v:=.bool false) rfl (by kernel_rfl) rfl (fun W _=>by go_simp) HTW.out ?_
     go_simp
     refine aT 2 (v:=.bool false) rfl (by kernel_rfl) rfl (fun W _=>by go_simp) HTW.out ?_
     go_simp
     refine aG 3 (v:=.agg (u8s (keyB y)).toArray) rfl (by kernel_rfl) rfl (fun W hW=>aN 0 _ hW.2 rfl _ aF rfl 32 aw (by rw [aa,ak];omega) (by rw [List.drop_zero,List.take_of_length_le (by rw [aa,ak];omega)])) HTW.out ?_
     go_simp
     refine aG 4 (v:=.slice (some ⟨b,o,none⟩) n cap) rfl (by kernel_rfl) rfl (fun W _=>by go_simp) HTW.out ?_
     go_simp
     refine aG 5 (v:=.int .i64 (i:Int)) rfl (by kernel_rfl) rfl (fun W _=>by go_simp) HTW.out ?_
     go_simp
     refine aG 6 (v:=.pointer (some ⟨b,o+i,none⟩)) rfl (by kernel_rfl) rfl (fun W hW=>bw au aC i rfl rfl rfl hlt) HTW.out ?_
     go_simp
     refine aG 7 (v:=.int .u8 x) rfl (by kernel_rfl) rfl (fun W hW=>bG hW.1 rfl d3) HTW.out ?_
     go_simp
     refine aG 8 (v:=.int .u8 y) rfl (by kernel_rfl) rfl (fun W _=>by go_simp) HTW.out ?_
     go_simp
     refine aO 9 (by kernel_rfl) rfl rfl ?_
     intro K hK
     go_wp2_with ((go_at_call 14;refine (co _ _).mono ?_;rintro e wk ⟨rfl,hbk⟩;replace st:=st.below hbk;clear hbk HTW;have HTW:Hid (wk.cell? ⟨b,o+i,none⟩=some (.int .u8 x)∧Row wk q12 (u8s (keyB y)) 39):=⟨st.cell HC0.out,st.mem.get 0 rfl⟩))
     refine hK _ _ HTW.out ?_
     clear hK K
     go_simp
     refine aG 10 (v:=.bool false) rfl (by kernel_rfl) rfl (fun W hW=>gC 5 32 .u8 (keyB y) rfl rfl aF ce aC eg_key (ak y)) HTW.out ?_
     go_simp
     refine aT 11 (v:=.bool false) rfl (by kernel_rfl) rfl (fun W _=>by go_simp) HTW.out ?_
     go_simp
     refine aT 12 (v:=.bool false) rfl (by kernel_rfl) rfl (fun W _=>by go_simp) HTW.out ?_
     go_simp
     refine aG 13 (v:=.pointer (some ⟨sb2,0,none⟩)) rfl (by kernel_rfl) rfl (fun W _=>by go_simp) HTW.out ?_
     go_simp
     refine aO 14 (by kernel_rfl) rfl rfl ?_
     intro K hK
     go_wp2_with ((go_at_call 26;go_must (refine (used_v st).mono ?_);rintro e wu ⟨vu,rfl,hin,st9,_⟩;obtain ⟨pu,cu,hvu,_⟩:=hin;rw [HUS.out ()] at hvu;subst hvu;replace st:=st9;clear st9 HTW;have HTW:Hid (wu.cell? ⟨b,o+i,none⟩=some (.int .u8 x)∧Row wu q12 (u8s (keyB y)) 39):=⟨st.cell HC0.out,st.mem.get 0 rfl⟩))
     refine hK _ _ HTW.out ?_
     clear hK K
     go_simp
     refine aG 15 (v:=.int .i64 1) rfl (by kernel_rfl) rfl (fun W _=>by go_simp) HTW.out ?_
     go_simp
     refine aG 16 (v:=.bool false) rfl (by kernel_rfl) rfl (fun W _=>by go_simp) HTW.out ?_
     go_simp
     refine aT 17 (v:=.bool false) rfl (by kernel_rfl) rfl (fun W _=>by go_simp) HTW.out ?_
     go_simp
     refine wpAnyH_done (by kernel_rfl) ?_ _
     simp only [endsIn]
     go_wp2_with fail
     go_roundw
     case rel=>exact ⟨i+1,sb2,hb2,_,t1,by omega,by go_num,rfl,rfl,(st.tail).mono (by omega),HN1.out⟩
     case measure=>simp [intOf];omega
    ·have HX3:(x.tmod 3==0)=false:=by simpa using h3
     go_wp2_with (first
      | ((with_reducible refine ae (some 63) (.indexAddr 33 (.tmp 61) (.tmp 62)) ?_);go_must (refine aq (.pointer (some ⟨b,o+i,none⟩)) rfl (bw au aC i rfl rfl rfl hlt) ?_))
      | ((with_reducible refine ae (some 64) (.load 5 (.tmp 63)) ?_);go_must (refine aM (.int .u8 x) (st.cell HC0.out) rfl d3 ?_))
      | ((with_reducible refine ae (some 82) (.indexAddr 33 (.tmp 80) (.tmp 81)) ?_);go_must (refine aq (.pointer (some ⟨b,o+i,none⟩)) rfl (bw au aC i rfl rfl rfl hlt) ?_))
      | ((with_reducible refine ae (some 83) (.load 5 (.tmp 82)) ?_);go_must (refine aM (.int .u8 x) (st.cell HC0.out) rfl d3 ?_))
      | (go_at_call 14;refine (co _ _).mono ?_;rintro e wk ⟨rfl,hbk⟩;replace st:=st.below hbk;clear hbk)
      | (go_at_call 16;go_must (refine (iG st HT.out HQT.out (k:Int) (keyB x) (ak x) (aZ HXB.out)).mono ?_);rintro e wg ⟨he,st9⟩;rw [HG1.out ()] at he;subst he;replace st:=st9;clear st9)
      | ((with_reducible refine ae (some 12) (.alloc 39) ?_);go_must (refine bW _ br ?_);intro wa q12 hba hqa hra;replace st:=st.add hba hra hqa;clear hba hqa hra)
      | ((with_reducible refine ae none (.store 39 (.tmp 12) (.tmp 86)) ?_);go_must (refine eb (u8s (keyB y)) (st.mem.get 0 rfl) rfl rfl 32 aw (by simp [aa]) (by rw [aa,ak]) (aj _) ?_);intro wb hub hrb;replace st:=st.upd 0 rfl hub hrb;clear hub hrb))
     refine av ?_
     refine aV (T:=fun W=>(W.cell? ⟨b,o+i,none⟩=some (.int .u8 x)∧Row W q12 (u8s (keyB y)) 39)) (by kernel_rfl) st.mem ?_
     intro wz hbz hmz
     replace st:=st.below hbz
     have HTW:Hid (wz.cell? ⟨b,o+i,none⟩=some (.int .u8 x)∧Row wz q12 (u8s (keyB y)) 39):=⟨st.cell HC0.out,st.mem.get 0 rfl⟩
     clear hbz hmz
     refine aT 0 (v:=.int .i64 0) rfl (by kernel_rfl) rfl (fun W _=>by go_simp) HTW.out ?_
     go_simp
     refine aT 1 (v:=.bool false) rfl (by kernel_rfl) rfl (fun W _=>by go_simp) HTW.out ?_
     go_simp
     refine aT 2 (v:=.bool false) rfl (by kernel_rfl) rfl (fun W _=>by go_simp) HTW.out ?_
     go_simp
     refine aG 3 (v:=.agg (u8s (keyB y)).toArray) rfl (by kernel_rfl) rfl (fun W hW=>aN 0 _ hW.2 rfl _ aF rfl 32 aw (by rw [aa,ak];omega) (by rw [List.drop_zero,List.take_of_length_le (by rw [aa,ak];omega)])) HTW.out ?_
     go_simp
     refine aG 4 (v:=.slice (some ⟨b,o,none⟩) n cap) rfl (by kernel_rfl) rfl (fun W _=>by go_simp) HTW.out ?_
     go_simp
     refine aG 5 (v:=.int .i64 (i:Int)) rfl (by kernel_rfl) rfl (fun W _=>by go_simp) HTW.out ?_
     go_simp
     refine aG 6 (v:=.pointer (some ⟨b,o+i,none⟩)) rfl (by kernel_rfl) rfl (fun W hW=>bw au aC i rfl rfl rfl hlt) HTW.out ?_
     go_simp
     refine aG 7 (v:=.int .u8 x) rfl (by kernel_rfl) rfl (fun W hW=>bG hW.1 rfl d3) HTW.out ?_
     go_simp
     refine aG 8 (v:=.int .u8 y) rfl (by kernel_rfl) rfl (fun W _=>by go_simp) HTW.out ?_
     go_simp
     refine aO 9 (by kernel_rfl) rfl rfl ?_
     intro K hK
     go_wp2_with ((go_at_call 14;refine (co _ _).mono ?_;rintro e wk ⟨rfl,hbk⟩;replace st:=st.below hbk;clear hbk HTW;have HTW:Hid (wk.cell? ⟨b,o+i,none⟩=some (.int .u8 x)∧Row wk q12 (u8s (keyB y)) 39):=⟨st.cell HC0.out,st.mem.get 0 rfl⟩))
     refine hK _ _ HTW.out ?_
     clear hK K
     go_simp
     refine aG 10 (v:=.bool false) rfl (by kernel_rfl) rfl (fun W hW=>gC 5 32 .u8 (keyB y) rfl rfl aF ce aC eg_key (ak y)) HTW.out ?_
     go_simp
     refine aT 11 (v:=.bool false) rfl (by kernel_rfl) rfl (fun W _=>by go_simp) HTW.out ?_
     go_simp
     refine aT 12 (v:=.bool false) rfl (by kernel_rfl) rfl (fun W _=>by go_simp) HTW.out ?_
     go_simp
     refine aG 13 (v:=.pointer (some ⟨sb,0,none⟩)) rfl (by kernel_rfl) rfl (fun W _=>by go_simp) HTW.out ?_
     go_simp
     refine aO 14 (by kernel_rfl) rfl rfl ?_
     intro K hK
     go_wp2_with ((go_at_call 26;go_must (refine (used_v st).mono ?_);rintro e wu ⟨vu,rfl,hin,st9,_⟩;obtain ⟨pu,cu,hvu,_⟩:=hin;rw [HUS.out ()] at hvu;subst hvu;replace st:=st9;clear st9 HTW;have HTW:Hid (wu.cell? ⟨b,o+i,none⟩=some (.int .u8 x)∧Row wu q12 (u8s (keyB y)) 39):=⟨st.cell HC0.out,st.mem.get 0 rfl⟩))
     refine hK _ _ HTW.out ?_
     clear hK K
     go_simp
     refine aG 15 (v:=.int .i64 1) rfl (by kernel_rfl) rfl (fun W _=>by go_simp) HTW.out ?_
     go_simp
     refine aG 16 (v:=.bool false) rfl (by kernel_rfl) rfl (fun W _=>by go_simp) HTW.out ?_
     go_simp
     refine aT 17 (v:=.bool false) rfl (by kernel_rfl) rfl (fun W _=>by go_simp) HTW.out ?_
     go_simp
     refine wpAnyH_done (by kernel_rfl) ?_ _
     simp only [endsIn]
     go_wp2_with fail
     go_roundw
     case rel=>exact ⟨i+1,sb,hb,_,t1,by omega,by go_num,rfl,rfl,(st.tail).mono (by omega),HN1.out⟩
     case measure=>simp [intOf];omega
   ·have hin:i=n:=by omega
    have hli:¬(i:Int)<(n:Int):=by omega
    go_wp2_with fail
    go_ret
    exact ⟨rfl,st.mem.below⟩
end Go.Proofs.YtblnljajipbajaaGreatDoor
