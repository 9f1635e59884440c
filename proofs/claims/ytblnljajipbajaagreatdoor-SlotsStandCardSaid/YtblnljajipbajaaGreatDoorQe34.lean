import Derived.Test.YtblnljajipbajaaGreatDoorQe33
set_option maxRecDepth 100000
set_option maxHeartbeats 4000000
namespace Go.Proofs.YtblnljajipbajaaGreatDoor
open Go Go.RowKit Go.Maps
theorem stand_0 (a b:Int) (kek oth x Y:List Int) (k n:Nat) (hka:a.tmod 24=(k:Int)) (hnb:b.tmod 5=(n:Int)) (hk24:k<24) (hn5:n<5) (hkek:kek.length=32∧Bytes kek) (hoth:oth.length=32∧Bytes oth) (hx:x.length=32∧Bytes x) (hY:unwV oth k (n+1,sealOf kek (nonceOf (k:Int) ((n+1:Nat):Int)) labWrap x)=(Y,0)) (w:World) (ht:Tab w) (hq:QTab w) (_h2:2≤w.heap.size) :
  Calls Tryz.prog 4 #[.int .u8 a,.int .u8 b,.agg (u8s kek).toArray,.agg (u8s oth).toArray,.agg (u8s x).toArray] w fun e w'=>e=.returned (.bool true)∧Below w.heap.size w w':=by
 have HT:Hid (Tab w):=ht
 have HQT:Hid (QTab w):=hq
 have Hkek:Hid (kek.length=32∧Bytes kek):=hkek
 have Hoth:Hid (oth.length=32∧Bytes oth):=hoth
 have Hx:Hid (x.length=32∧Bytes x):=hx
 have HKM:a.tmod 24=(k:Int):=hka
 have HNM:b.tmod 5=(n:Int):=hnb
 have HKW:IntKind.i64.wrap (k:Int)=(k:Int):=by rw [IntKind.wrap_i64];omega
 have HNW:IntKind.i64.wrap (n:Int)=(n:Int):=by rw [IntKind.wrap_i64];omega
 have HKA:IntKind.i64.wrap ((k:Int)+1)=(k:Int)+1:=by rw [IntKind.wrap_i64];omega
 obtain ⟨kk,hkk⟩:∃kk:Nat,(kk:Int)=((k:Int)+1).tmod 24:=⟨(((k:Int)+1).tmod 24).toNat,by rw [Int.tmod_eq_emod_of_nonneg (by omega)];omega⟩
 have hkk24:kk<24:=by rw [Int.tmod_eq_emod_of_nonneg (by omega)] at hkk;omega
 have HKK:((k:Int)+1).tmod 24=(kk:Int):=hkk.symm
 have HKX:IntKind.i64.wrap (kk:Int)=(kk:Int):=by rw [IntKind.wrap_i64];omega
 have HU32:IntKind.u32.wrap (k:Int)=(k:Int):=by simp [IntKind.wrap,IntKind.bits,IntKind.signed];omega
 have HU64:IntKind.u64.wrap (n:Int)=(n:Int):=by simp [IntKind.wrap,IntKind.bits,IntKind.signed];omega
 have HU65:IntKind.u64.wrap ((n:Int)+1)=(n:Int)+1:=by simp [IntKind.wrap,IntKind.bits,IntKind.signed];omega
 obtain ⟨N,hN⟩:∃N:Ent,N=(n+1,sealOf kek (nonceOf (k:Int) ((n+1:Nat):Int)) labWrap x):=⟨_,rfl⟩
 rw [←hN] at hY
 obtain ⟨XS,hXS⟩:∃XS,XS=N.2:=⟨_,rfl⟩
 have HXS:Hid (XS.length=48∧Bytes XS):=⟨by rw [hXS,hN];show (sealOf _ _ _ _).length=48;rw [dm,hx.1],by rw [hXS,hN];exact fo _ _ _ hx.2⟩
 have HN1:N.1=n+1:=by rw [hN]
 have HEN:Hid (∀t:Slt,t.puts=n→entN t k kek x=N):=fun t h=>by rw [hN];unfold entN;rw [h]
 have HX2:Hid (∀_:Unit,N.2=XS):=fun _=>hXS.symm
 have HWR:Hid (∀W,Calls Tryz.prog 21 #[.agg (u8s kek).toArray,.int .u32 (k:Int),.int .u64 ((n:Int)+1),.agg (u8s x).toArray] W fun e w'=>e=.returned (.agg (u8s XS).toArray)∧Below W.heap.size W w'):=fun W=>by
  have h:=iQ kek x (k:Int) ((n:Int)+1) hkek.1 hx.1 hkek.2 hx.2 ⟨by omega,by omega⟩ W
  rw [hXS,hN]
  exact h
 have HUW:Hid (∀W,Calls Tryz.prog 22 #[.agg (u8s oth).toArray,.int .u32 (k:Int),.int .u64 ((n:Int)+1),.agg (u8s XS).toArray] W fun e w'=>e=.returned (.tuple #[.agg (u8s Y).toArray,.bool true])∧Below W.heap.size W w'):=fun W=>by
  have h:=jy oth k N (k:Int) ((n:Int)+1) rfl (by rw [HN1];omega) hoth.1 hoth.2 (by rw [←hXS];exact HXS.out.1) (by rw [←hXS];exact HXS.out.2) hk24 W
  rw [hY,←hXS] at h
  exact h
 have HY:Hid (Y.length=32):=by
  have h:=fP oth k (x:=N) (by rw [←hXS];exact HXS.out.1)
  rw [hY] at h
  exact h
 have HUV:Hid (∀_:Unit,unwV oth k N=(Y,0)):=fun _=>hY
 have tk1:Nat:=0
 have tk2:Nat:=0
 have hm:=Mem.start w
 clear ht hq hkek hoth hx hka hnb hkk hN hXS hY HN1
 go_enter Tryz.func4,Tryz.ntmps4
 go_wp2_with (first
  | ((with_reducible refine ab (some 7) (.box 39 (.tmp 2)) ?_);refine au (u8s kek) rfl hm ?_;clear hm;intro w2 g7 hm)
  | ((with_reducible refine ab (some 8) (.box 39 (.tmp 3)) ?_);refine au (u8s oth) rfl hm ?_;clear hm;intro w3 g8 hm)
  | ((with_reducible refine ab (some 9) (.box 39 (.tmp 4)) ?_);refine au (u8s x) rfl hm ?_;clear hm;intro w4 g9 hm)
  | (go_at_call 9;refine (ef _ (HT.out.mem hm (by simp)) (HQT.out.mem hm (by simp))).mono ?_;rintro e w5 ⟨rfl,hb1⟩;replace hm:=hm.call hb1;clear hb1)
  | (go_at_call 10;go_must (refine (ee 64 _).mono ?_);rintro e w6 ⟨g,rfl,mb,kv,hd,hf,hb1⟩;rw [fq] at hd;have HD:Hid (DkAt w6 g mb kv (Dk.new 64)):=hd;have HF:Hid ((∀q∈foot g mb kv,w.heap.size≤q)∧∀r∈[(g9,u8s x,39),(g8,u8s oth,39),(g7,u8s kek,39)],r.1 ∉ foot g mb kv):=⟨fun q hq=>Nat.le_trans hm.size (hf q hq),fun r hr hk=>absurd (hm.row r hr).lt (by have:=hf _ hk;omega)⟩;replace hm:=hm.call hb1;clear hd hf hb1)
  | (go_at_call 11;go_must (refine (fh (by omega) (by omega) hm HD.out HF.out.1 HF.out.2 HT.out).mono ?_);rintro e w8 ⟨sb,hb,rfl,st,_,_,_⟩;obtain ⟨d0,hd0⟩:∃x,x=makeD (Dk.new 64):=⟨_,rfl⟩;rw [←hd0] at st;clear hd0 hm HD HF))
 go_loopw [16] (fun vi wr=>∃(i:Nat) (d:Dk) (t:Slt),i≤n∧vi=.int .i64 (i:Int)∧Hid (Sv w wr g mb kv sb hb d t (1000+1000 * i) [(g9,u8s x,39),(g8,u8s oth,39),(g7,u8s kek,39)])∧Hid (t.puts=i)) (fun vi _=>n - (intOf vi).toNat)
 case atStart=>exact ⟨0,d0,newS,by omega,rfl,st,rfl⟩
 case round =>
  clear st
  obtain ⟨i,d,t,hi,rfl,HST,HPU⟩:=hrel
  have st:=HST.out
  clear HST
  by_cases hlt:i<n
  ·have hli:(i:Int)<(n:Int):=by omega
   obtain ⟨t1,ht1⟩:∃t1,t1=putS t kk (entN t kk kek oth):=⟨_,rfl⟩
   have HT1:Hid (∀_:Unit,t1=putS t kk (entN t kk kek oth)):=fun _=>ht1
   have HP1:Hid (t1.puts=i+1):=by rw [ht1];show t.puts+1=i+1;rw [HPU.out]
   clear ht1
   go_wp2_with (first
    | ((with_reducible refine ab (some 49) (.load 39 (.tmp 7)) ?_);go_must (refine aq (.agg (u8s kek).toArray) rfl (ao 0 _ (st.mem.get 2 rfl) rfl _ ar rfl 32 am (by rw [aa,Hkek.out.1];omega) (by rw [List.drop_zero,List.take_of_length_le (by rw [aa,Hkek.out.1];omega)])) ?_))
    | ((with_reducible refine ab (some 50) (.load 39 (.tmp 8)) ?_);go_must (refine aq (.agg (u8s oth).toArray) rfl (ao 0 _ (st.mem.get 1 rfl) rfl _ ar rfl 32 am (by rw [aa,Hoth.out.1];omega) (by rw [List.drop_zero,List.take_of_length_le (by rw [aa,Hoth.out.1];omega)])) ?_))
    | (go_at_call 13;go_must (refine (put_w st HT.out HQT.out (by omega) (by have:=HPU.out;omega) kk hkk24 kek oth Hkek.out.1 Hkek.out.2 Hoth.out.1 Hoth.out.2 t1 (HT1.out ())).mono ?_);rintro e wp ⟨rfl,⟨d1,st9⟩,_⟩;replace st:=st9;clear st9))
   go_roundw
   case rel=>exact ⟨i+1,d1,t1,by omega,by go_num,st.mono (by omega),HP1.out⟩
   case measure=>simp [intOf];omega
  ·have hin:i=n:=by omega
   have hli:¬(i:Int)<(n:Int):=by omega
   have HEE:Hid (∀_:Unit,entN t k kek x=N):=fun _=>HEN.out t (HPU.out.trans hin)
   obtain ⟨t2,ht2⟩:∃t2,t2=putS t k (entN t k kek x):=⟨_,rfl⟩
   have HT2:Hid (∀_:Unit,t2=putS t k (entN t k kek x)):=fun _=>ht2
   have HH2:Hid (t2.held k=some N):=by rw [ht2,←HEE.out ()];exact bg _ _ _
   have HG:Hid (∀_:Unit,getV t2.held (k:Int) kek=(x,0)):=fun _=>by rw [ht2];exact fT hk24 kek x Hx.out.1 Hx.out.2
   have HGO:Hid (∀_:Unit,getV t2.held (k:Int) oth=(Y,0)):=fun _=>by rw [gZ hk24 HH2.out];exact HUV.out ()
   clear ht2 hin
   go_wp2_with (first
    | ((with_reducible refine ab (some 55) (.load 39 (.tmp 7)) ?_);go_must (refine aq (.agg (u8s kek).toArray) rfl (ao 0 _ (st.mem.get 2 rfl) rfl _ ar rfl 32 am (by rw [aa,Hkek.out.1];omega) (by rw [List.drop_zero,List.take_of_length_le (by rw [aa,Hkek.out.1];omega)])) ?_))
    | ((with_reducible refine ab (some 56) (.load 39 (.tmp 9)) ?_);go_must (refine aq (.agg (u8s x).toArray) rfl (ao 0 _ (st.mem.get 0 rfl) rfl _ ar rfl 32 am (by rw [aa,Hx.out.1];omega) (by rw [List.drop_zero,List.take_of_length_le (by rw [aa,Hx.out.1];omega)])) ?_))
    | (go_at_call 13;go_must (refine (put_w st HT.out HQT.out (by omega) (by have:=HPU.out;omega) k hk24 kek x Hkek.out.1 Hkek.out.2 Hx.out.1 Hx.out.2 t2 (HT2.out ())).mono ?_);rintro e wp ⟨rfl,⟨d2,st9⟩,_⟩;have hz:=stand_at st9.inv st9.at_.dk.ok.kept hk24 HH2.out (by rw [HX2.out ()];exact HXS.out.1);rw [HX2.out ()] at hz;obtain ⟨ZS,hZS⟩:∃z,z=flatK d2.kept d2.n:=⟨_,rfl⟩;rw [←hZS] at hz;have HZ:Hid ((ZS.drop ((2+k) * 64)).take 48=XS∧(2+k) * 64+48≤ZS.length∧ZS.length≤100000):=hz;have HZE:Hid (∀_:Unit,flatK d2.kept d2.n=ZS):=fun _=>hZS.symm;clear hz hZS st;have st:=st9;clear st9)
    | ((with_reducible refine ab (some 59) (.load 39 (.tmp 7)) ?_);go_must (refine aq (.agg (u8s kek).toArray) rfl (ao 0 _ (st.mem.get 2 rfl) rfl _ ar rfl 32 am (by rw [aa,Hkek.out.1];omega) (by rw [List.drop_zero,List.take_of_length_le (by rw [aa,Hkek.out.1];omega)])) ?_))
    | ((with_reducible refine ab (some 65) (.load 39 (.tmp 9)) ?_);go_must (refine aq (.agg (u8s x).toArray) rfl (ao 0 _ (st.mem.get 0 rfl) rfl _ ar rfl 32 am (by rw [aa,Hx.out.1];omega) (by rw [List.drop_zero,List.take_of_length_le (by rw [aa,Hx.out.1];omega)])) ?_))
    | (go_at_call 21;go_must (refine (HWR.out _).mono ?_);rintro e ww ⟨rfl,hbw⟩;replace st:=st.below hbw;clear hbw)
    | ((with_reducible refine ab (some 17) (.alloc 47) ?_);go_must (refine bz _ eE ?_);intro wa q17 hba hqa hra;replace st:=st.add hba hra hqa;clear hba hqa hra)
    | ((with_reducible refine ab none (.store 47 (.tmp 17) (.tmp 66)) ?_);go_must (refine cI (u8s XS) (st.mem.get 0 rfl) rfl rfl 48 b7 (by simp [aa]) (by rw [aa,HXS.out.1]) (aj _) ?_);intro wb hub hrb;replace st:=st.upd 0 rfl hub hrb;clear hub hrb)
    | ((with_reducible refine ab (some 70) (.load 39 (.tmp 7)) ?_);go_must (refine aq (.agg (u8s kek).toArray) rfl (ao 0 _ (st.mem.get 3 rfl) rfl _ ar rfl 32 am (by rw [aa,Hkek.out.1];omega) (by rw [List.drop_zero,List.take_of_length_le (by rw [aa,Hkek.out.1];omega)])) ?_))
    | (go_at_call 16;(first|(clear tk1;go_must (refine (get_v st HT.out HQT.out (k:Int) kek Hkek.out.1 Hkek.out.2).mono ?_);rintro e wg ⟨he,st9⟩;rw [HG.out ()] at he;subst he;replace st:=st9;clear st9)|(go_must (refine (get_v st HT.out HQT.out (k:Int) oth Hoth.out.1 Hoth.out.2).mono ?_);rintro e wg ⟨he,st9⟩;rw [HGO.out ()] at he;subst he;replace st:=st9;clear st9)))
    | ((with_reducible refine ab (some 18) (.alloc 39) ?_);go_must (refine bz _ aM ?_);intro wa q18 hba hqa hra;replace st:=st.add hba hra hqa;clear hba hqa hra)
    | ((with_reducible refine ab none (.store 39 (.tmp 18) (.tmp 72)) ?_);go_must (refine cI (u8s x) (st.mem.get 0 rfl) rfl rfl 32 am (by simp [aa]) (by rw [aa,Hx.out.1]) (aj _) ?_);intro wb hub hrb;replace st:=st.upd 0 rfl hub hrb;clear hub hrb)
    | ((with_reducible refine ab (some 77) (.load 39 (.tmp 8)) ?_);go_must (refine aq (.agg (u8s oth).toArray) rfl (ao 0 _ (st.mem.get 3 rfl) rfl _ ar rfl 32 am (by rw [aa,Hoth.out.1];omega) (by rw [List.drop_zero,List.take_of_length_le (by rw [aa,Hoth.out.1];omega)])) ?_))
    | ((with_reducible refine ab (some 20) (.alloc 39) ?_);go_must (refine bz _ aM ?_);intro wa q20 hba hqa hra;replace st:=st.add hba hra hqa;clear hba hqa hra)
    | ((with_reducible refine ab none (.store 39 (.tmp 20) (.tmp 79)) ?_);go_must (refine cI (u8s Y) (st.mem.get 0 rfl) rfl rfl 32 am (by simp [aa]) (by rw [aa,HY.out]) (aj _) ?_);intro wb hub hrb;replace st:=st.upd 0 rfl hub hrb;clear hub hrb)
    | ((with_reducible refine ab (some 82) (.load 39 (.tmp 8)) ?_);go_must (refine aq (.agg (u8s oth).toArray) rfl (ao 0 _ (st.mem.get 4 rfl) rfl _ ar rfl 32 am (by rw [aa,Hoth.out.1];omega) (by rw [List.drop_zero,List.take_of_length_le (by rw [aa,Hoth.out.1];omega)])) ?_))
    | ((with_reducible refine ab (some 88) (.load 47 (.tmp 17)) ?_);go_must (refine aq (.agg (u8s XS).toArray) rfl (ao 0 _ (st.mem.get 2 rfl) rfl _ cw rfl 48 b7 (by rw [aa,HXS.out.1];omega) (by rw [List.drop_zero,List.take_of_length_le (by rw [aa,HXS.out.1];omega)])) ?_))
    | (go_at_call 22;go_must (refine (HUW.out _).mono ?_);rintro e wu ⟨rfl,hbw⟩;replace st:=st.below hbw;clear hbw)
    | ((with_reducible refine ab (some 22) (.alloc 39) ?_);go_must (refine bz _ aM ?_);intro wa q22 hba hqa hra;replace st:=st.add hba hra hqa;clear hba hqa hra)
    | ((with_reducible refine ab none (.store 39 (.tmp 22) (.tmp 90)) ?_);go_must (refine cI (u8s Y) (st.mem.get 0 rfl) rfl rfl 32 am (by simp [aa]) (by rw [aa,HY.out]) (aj _) ?_);intro wb hub hrb;replace st:=st.upd 0 rfl hub hrb;clear hub hrb))
   refine ax ?_
   refine aY (T:=fun W=>Mem w [] W [(q22,u8s Y,39),(q20,u8s Y,39),(q18,u8s x,39),(q17,u8s XS,47),(g9,u8s x,39),(g8,u8s oth,39),(g7,u8s kek,39)]) (by kernel_rfl) st.mem ?_
   intro wz hbz hmz
   replace st:=st.below hbz
   have HTW:Hid (Mem w [] wz [(q22,u8s Y,39),(q20,u8s Y,39),(q18,u8s x,39),(q17,u8s XS,47),(g9,u8s x,39),(g8,u8s oth,39),(g7,u8s kek,39)]):=st.mem
   clear hbz hmz
   refine aT 0 (v:=.pointer (some ⟨g,0,none⟩)) rfl (by kernel_rfl) rfl (fun W _=>by go_simp) HTW.out ?_
   go_simp
   refine aT 2 (v:=.slice (some ⟨q17,0,none⟩) 48 48) rfl (by kernel_rfl) rfl (fun W _=>exec_slaS 48 cw aC 0 48 (by omega) (by omega) rfl (Or.inr ⟨rfl,rfl⟩) (Or.inr ⟨rfl,rfl⟩)) HTW.out ?_
   go_simp
   refine aO 1 (by kernel_rfl) rfl rfl ?_
   intro K hK
   go_wp2_with ((go_at_call 24;go_must (refine (dU st st ZS (HZE.out ())).mono ?_);rintro e wi ⟨p1,c1,rfl,ho,st9,_,_⟩;obtain ⟨qi,ci,ti,hv,_,hri,hci⟩:=OwnB.row ho (by have:=HZ.out.2.1;omega);simp only [Value.slice.injEq,true_and] at hv;obtain ⟨hv1,hv2⟩:=hv;subst hv1 hv2;have HRI:Hid (Row wi qi (u8s ZS++ti) 5):=hri;have HCI:Hid (ZS.length≤c1):=hci;replace st:=st9;clear st9 ho hri hci HTW;have HTW:Hid (Mem w [] wi [(q22,u8s Y,39),(q20,u8s Y,39),(q18,u8s x,39),(q17,u8s XS,47),(g9,u8s x,39),(g8,u8s oth,39),(g7,u8s kek,39)]):=st.mem))
   refine hK _ _ HTW.out ?_
   clear hK K
   go_simp
   refine aO 3 (by kernel_rfl) rfl rfl ?_
   intro K hK
   go_wp2_with ((go_at_call 23;go_must (refine (find_any ZS XS ti qi c1 _ _ ((2+k) * 64) ZS.length _ rfl HRI.out HCI.out HZ.out.2.2 (aE (st.mem.get 3 rfl) HXS.out.1 (Nat.le_refl _)) HZ.out.1 HZ.out.2.1).mono ?_);rintro e wf ⟨mm,rfl,hbf⟩;replace st:=st.below hbf;clear hbf HTW HRI HCI;have HTW:Hid (Mem w [] wf [(q22,u8s Y,39),(q20,u8s Y,39),(q18,u8s x,39),(q17,u8s XS,47),(g9,u8s x,39),(g8,u8s oth,39),(g7,u8s kek,39)]):=st.mem))
   refine hK _ _ HTW.out ?_
   clear hK K
   go_simp
   refine aT 4 (v:=.bool true) rfl (by kernel_rfl) rfl (fun W _=>by go_simp) HTW.out ?_
   go_simp
   refine aT 5 (v:=.bool true) rfl (by kernel_rfl) rfl (fun W _=>by go_simp) HTW.out ?_
   go_simp
   refine aG 6 (v:=.int .i64 0) rfl (by kernel_rfl) rfl (fun W _=>by go_simp) HTW.out ?_
   go_simp
   refine aG 7 (v:=.bool true) rfl (by kernel_rfl) rfl (fun W _=>by go_simp) HTW.out ?_
   go_simp
   refine aT 8 (v:=.bool true) rfl (by kernel_rfl) rfl (fun W _=>by go_simp) HTW.out ?_
   go_simp
   refine aT 9 (v:=.bool true) rfl (by kernel_rfl) rfl (fun W _=>by go_simp) HTW.out ?_
   go_simp
   refine aG 10 (v:=.agg (u8s x).toArray) rfl (by kernel_rfl) rfl (fun W hW=>ao 0 _ (Mem.get hW 2 rfl) rfl _ ar rfl 32 am (by rw [aa,Hx.out.1];omega) (by rw [List.drop_zero,List.take_of_length_le (by rw [aa,Hx.out.1];omega)])) HTW.out ?_
   go_simp
   refine aG 11 (v:=.agg (u8s x).toArray) rfl (by kernel_rfl) rfl (fun W hW=>ao 0 _ (Mem.get hW 4 rfl) rfl _ ar rfl 32 am (by rw [aa,Hx.out.1];omega) (by rw [List.drop_zero,List.take_of_length_le (by rw [aa,Hx.out.1];omega)])) HTW.out ?_
   go_simp
   refine aG 12 (v:=.bool true) rfl (by kernel_rfl) rfl (fun W _=>dZ 5 32 .u8 x rfl rfl ar aZ aC fF Hx.out.1) HTW.out ?_
   go_simp
   refine aT 13 (v:=.bool true) rfl (by kernel_rfl) rfl (fun W _=>by go_simp) HTW.out ?_
   go_simp
   refine aT 14 (v:=.bool true) rfl (by kernel_rfl) rfl (fun W _=>by go_simp) HTW.out ?_
   go_simp
   refine aG 15 (v:=.int .i64 0) rfl (by kernel_rfl) rfl (fun W _=>by go_simp) HTW.out ?_
   go_simp
   refine aG 16 (v:=.bool true) rfl (by kernel_rfl) rfl (fun W _=>by go_simp) HTW.out ?_
   go_simp
   refine aG 17 (v:=.bool true) rfl (by kernel_rfl) rfl (fun W _=>by go_simp) HTW.out ?_
   go_simp
   refine aG 18 (v:=.bool true) rfl (by kernel_rfl) rfl (fun W _=>by go_simp) HTW.out ?_
   go_simp
   refine aT 19 (v:=.bool true) rfl (by kernel_rfl) rfl (fun W _=>by go_simp) HTW.out ?_
   go_simp
   refine aT 20 (v:=.bool true) rfl (by kernel_rfl) rfl (fun W _=>by go_simp) HTW.out ?_
   go_simp
   refine aG 21 (v:=.int .i64 0) rfl (by kernel_rfl) rfl (fun W _=>by go_simp) HTW.out ?_
   go_simp
   refine aG 22 (v:=.bool true) rfl (by kernel_rfl) rfl (fun W _=>by go_simp) HTW.out ?_
   go_simp
   refine aG 23 (v:=.bool true) rfl (by kernel_rfl) rfl (fun W _=>by go_simp) HTW.out ?_
   go_simp
   refine dS 24 rfl (by kernel_rfl) (by kernel_rfl) (by kernel_rfl) rfl HTW.out ?_
   go_simp
   refine dS 25 rfl (by kernel_rfl) (by kernel_rfl) (by kernel_rfl) rfl HTW.out ?_
   go_simp
   refine aG 26 (v:=.bool true) rfl (by kernel_rfl) rfl (fun W _=>by go_simp) HTW.out ?_
   go_simp
   refine aT 27 (v:=.bool true) rfl (by kernel_rfl) rfl (fun W _=>by go_simp) HTW.out ?_
   go_simp
   refine aT 28 (v:=.bool true) rfl (by kernel_rfl) rfl (fun W _=>by go_simp) HTW.out ?_
   go_simp
   refine aG 29 (v:=.agg (u8s Y).toArray) rfl (by kernel_rfl) rfl (fun W hW=>ao 0 _ (Mem.get hW 1 rfl) rfl _ ar rfl 32 am (by rw [aa,HY.out];omega) (by rw [List.drop_zero,List.take_of_length_le (by rw [aa,HY.out];omega)])) HTW.out ?_
   go_simp
   refine aG 30 (v:=.agg (u8s Y).toArray) rfl (by kernel_rfl) rfl (fun W hW=>ao 0 _ (Mem.get hW 0 rfl) rfl _ ar rfl 32 am (by rw [aa,HY.out];omega) (by rw [List.drop_zero,List.take_of_length_le (by rw [aa,HY.out];omega)])) HTW.out ?_
   go_simp
   refine aG 31 (v:=.bool true) rfl (by kernel_rfl) rfl (fun W _=>dZ 5 32 .u8 Y rfl rfl ar aZ aC fF HY.out) HTW.out ?_
   go_simp
   refine aT 32 (v:=.bool true) rfl (by kernel_rfl) rfl (fun W _=>by go_simp) HTW.out ?_
   go_simp
   refine aT 33 (v:=.bool true) rfl (by kernel_rfl) rfl (fun W _=>by go_simp) HTW.out ?_
   go_simp
   refine wpAnyH_done (by kernel_rfl) ?_ _
   simp only [endsIn]
   go_wp2_with fail
   go_ret
   exact ⟨rfl,st.mem.below⟩
open Go Go.RowKit Go.Maps
theorem stand_50 (a b:Int) (kek oth x Y:List Int) (k n:Nat) (hka:a.tmod 24=(k:Int)) (hnb:b.tmod 5=(n:Int)) (hk24:k<24) (hn5:n<5) (hkek:kek.length=32∧Bytes kek) (hoth:oth.length=32∧Bytes oth) (hx:x.length=32∧Bytes x) (hY:unwV oth k (n+1,sealOf kek (nonceOf (k:Int) ((n+1:Nat):Int)) labWrap x)=(Y,50)) (w:World) (ht:Tab w) (hq:QTab w) (_h2:2≤w.heap.size) :
  Calls Tryz.prog 4 #[.int .u8 a,.int .u8 b,.agg (u8s kek).toArray,.agg (u8s oth).toArray,.agg (u8s x).toArray] w fun e w'=>e=.returned (.bool true)∧Below w.heap.size w w':=by
 have HT:Hid (Tab w):=ht
 have HQT:Hid (QTab w):=hq
 have Hkek:Hid (kek.length=32∧Bytes kek):=hkek
 have Hoth:Hid (oth.length=32∧Bytes oth):=hoth
 have Hx:Hid (x.length=32∧Bytes x):=hx
 have HKM:a.tmod 24=(k:Int):=hka
 have HNM:b.tmod 5=(n:Int):=hnb
 have HKW:IntKind.i64.wrap (k:Int)=(k:Int):=by rw [IntKind.wrap_i64];omega
 have HNW:IntKind.i64.wrap (n:Int)=(n:Int):=by rw [IntKind.wrap_i64];omega
 have HKA:IntKind.i64.wrap ((k:Int)+1)=(k:Int)+1:=by rw [IntKind.wrap_i64];omega
 obtain ⟨kk,hkk⟩:∃kk:Nat,(kk:Int)=((k:Int)+1).tmod 24:=⟨(((k:Int)+1).tmod 24).toNat,by rw [Int.tmod_eq_emod_of_nonneg (by omega)];omega⟩
 have hkk24:kk<24:=by rw [Int.tmod_eq_emod_of_nonneg (by omega)] at hkk;omega
 have HKK:((k:Int)+1).tmod 24=(kk:Int):=hkk.symm
 have HKX:IntKind.i64.wrap (kk:Int)=(kk:Int):=by rw [IntKind.wrap_i64];omega
 have HU32:IntKind.u32.wrap (k:Int)=(k:Int):=by simp [IntKind.wrap,IntKind.bits,IntKind.signed];omega
 have HU64:IntKind.u64.wrap (n:Int)=(n:Int):=by simp [IntKind.wrap,IntKind.bits,IntKind.signed];omega
 have HU65:IntKind.u64.wrap ((n:Int)+1)=(n:Int)+1:=by simp [IntKind.wrap,IntKind.bits,IntKind.signed];omega
 obtain ⟨N,hN⟩:∃N:Ent,N=(n+1,sealOf kek (nonceOf (k:Int) ((n+1:Nat):Int)) labWrap x):=⟨_,rfl⟩
 rw [←hN] at hY
 obtain ⟨XS,hXS⟩:∃XS,XS=N.2:=⟨_,rfl⟩
 have HXS:Hid (XS.length=48∧Bytes XS):=⟨by rw [hXS,hN];show (sealOf _ _ _ _).length=48;rw [dm,hx.1],by rw [hXS,hN];exact fo _ _ _ hx.2⟩
 have HN1:N.1=n+1:=by rw [hN]
 have HEN:Hid (∀t:Slt,t.puts=n→entN t k kek x=N):=fun t h=>by rw [hN];unfold entN;rw [h]
 have HX2:Hid (∀_:Unit,N.2=XS):=fun _=>hXS.symm
 have HWR:Hid (∀W,Calls Tryz.prog 21 #[.agg (u8s kek).toArray,.int .u32 (k:Int),.int .u64 ((n:Int)+1),.agg (u8s x).toArray] W fun e w'=>e=.returned (.agg (u8s XS).toArray)∧Below W.heap.size W w'):=fun W=>by
  have h:=iQ kek x (k:Int) ((n:Int)+1) hkek.1 hx.1 hkek.2 hx.2 ⟨by omega,by omega⟩ W
  rw [hXS,hN]
  exact h
 have HUW:Hid (∀W,Calls Tryz.prog 22 #[.agg (u8s oth).toArray,.int .u32 (k:Int),.int .u64 ((n:Int)+1),.agg (u8s XS).toArray] W fun e w'=>e=.returned (.tuple #[.agg (u8s Y).toArray,.bool false])∧Below W.heap.size W w'):=fun W=>by
  have h:=jy oth k N (k:Int) ((n:Int)+1) rfl (by rw [HN1];omega) hoth.1 hoth.2 (by rw [←hXS];exact HXS.out.1) (by rw [←hXS];exact HXS.out.2) hk24 W
  rw [hY,←hXS] at h
  exact h
 have HY:Hid (Y.length=32):=by
  have h:=fP oth k (x:=N) (by rw [←hXS];exact HXS.out.1)
  rw [hY] at h
  exact h
 have HUV:Hid (∀_:Unit,unwV oth k N=(Y,50)):=fun _=>hY
 have tk1:Nat:=0
 have tk2:Nat:=0
 have hm:=Mem.start w
 clear ht hq hkek hoth hx hka hnb hkk hN hXS hY HN1
 go_enter Tryz.func4,Tryz.ntmps4
 go_wp2_with (first
  | ((with_reducible refine ab (some 7) (.box 39 (.tmp 2)) ?_);refine au (u8s kek) rfl hm ?_;clear hm;intro w2 g7 hm)
  | ((with_reducible refine ab (some 8) (.box 39 (.tmp 3)) ?_);refine au (u8s oth) rfl hm ?_;clear hm;intro w3 g8 hm)
  | ((with_reducible refine ab (some 9) (.box 39 (.tmp 4)) ?_);refine au (u8s x) rfl hm ?_;clear hm;intro w4 g9 hm)
  | (go_at_call 9;refine (ef _ (HT.out.mem hm (by simp)) (HQT.out.mem hm (by simp))).mono ?_;rintro e w5 ⟨rfl,hb1⟩;replace hm:=hm.call hb1;clear hb1)
  | (go_at_call 10;go_must (refine (ee 64 _).mono ?_);rintro e w6 ⟨g,rfl,mb,kv,hd,hf,hb1⟩;rw [fq] at hd;have HD:Hid (DkAt w6 g mb kv (Dk.new 64)):=hd;have HF:Hid ((∀q∈foot g mb kv,w.heap.size≤q)∧∀r∈[(g9,u8s x,39),(g8,u8s oth,39),(g7,u8s kek,39)],r.1 ∉ foot g mb kv):=⟨fun q hq=>Nat.le_trans hm.size (hf q hq),fun r hr hk=>absurd (hm.row r hr).lt (by have:=hf _ hk;omega)⟩;replace hm:=hm.call hb1;clear hd hf hb1)
  | (go_at_call 11;go_must (refine (fh (by omega) (by omega) hm HD.out HF.out.1 HF.out.2 HT.out).mono ?_);rintro e w8 ⟨sb,hb,rfl,st,_,_,_⟩;obtain ⟨d0,hd0⟩:∃x,x=makeD (Dk.new 64):=⟨_,rfl⟩;rw [←hd0] at st;clear hd0 hm HD HF))
 go_loopw [16] (fun vi wr=>∃(i:Nat) (d:Dk) (t:Slt),i≤n∧vi=.int .i64 (i:Int)∧Hid (Sv w wr g mb kv sb hb d t (1000+1000 * i) [(g9,u8s x,39),(g8,u8s oth,39),(g7,u8s kek,39)])∧Hid (t.puts=i)) (fun vi _=>n - (intOf vi).toNat)
 case atStart=>exact ⟨0,d0,newS,by omega,rfl,st,rfl⟩
 case round =>
  clear st
  obtain ⟨i,d,t,hi,rfl,HST,HPU⟩:=hrel
  have st:=HST.out
  clear HST
  by_cases hlt:i<n
  ·have hli:(i:Int)<(n:Int):=by omega
   obtain ⟨t1,ht1⟩:∃t1,t1=putS t kk (entN t kk kek oth):=⟨_,rfl⟩
   have HT1:Hid (∀_:Unit,t1=putS t kk (entN t kk kek oth)):=fun _=>ht1
   have HP1:Hid (t1.puts=i+1):=by rw [ht1];show t.puts+1=i+1;rw [HPU.out]
   clear ht1
   go_wp2_with (first
    | ((with_reducible refine ab (some 49) (.load 39 (.tmp 7)) ?_);go_must (refine aq (.agg (u8s kek).toArray) rfl (ao 0 _ (st.mem.get 2 rfl) rfl _ ar rfl 32 am (by rw [aa,Hkek.out.1];omega) (by rw [List.drop_zero,List.take_of_length_le (by rw [aa,Hkek.out.1];omega)])) ?_))
    | ((with_reducible refine ab (some 50) (.load 39 (.tmp 8)) ?_);go_must (refine aq (.agg (u8s oth).toArray) rfl (ao 0 _ (st.mem.get 1 rfl) rfl _ ar rfl 32 am (by rw [aa,Hoth.out.1];omega) (by rw [List.drop_zero,List.take_of_length_le (by rw [aa,Hoth.out.1];omega)])) ?_))
    | (go_at_call 13;go_must (refine (put_w st HT.out HQT.out (by omega) (by have:=HPU.out;omega) kk hkk24 kek oth Hkek.out.1 Hkek.out.2 Hoth.out.1 Hoth.out.2 t1 (HT1.out ())).mono ?_);rintro e wp ⟨rfl,⟨d1,st9⟩,_⟩;replace st:=st9;clear st9))
   go_roundw
   case rel=>exact ⟨i+1,d1,t1,by omega,by go_num,st.mono (by omega),HP1.out⟩
   case measure=>simp [intOf];omega
  ·have hin:i=n:=by omega
   have hli:¬(i:Int)<(n:Int):=by omega
   have HEE:Hid (∀_:Unit,entN t k kek x=N):=fun _=>HEN.out t (HPU.out.trans hin)
   obtain ⟨t2,ht2⟩:∃t2,t2=putS t k (entN t k kek x):=⟨_,rfl⟩
   have HT2:Hid (∀_:Unit,t2=putS t k (entN t k kek x)):=fun _=>ht2
   have HH2:Hid (t2.held k=some N):=by rw [ht2,←HEE.out ()];exact bg _ _ _
   have HG:Hid (∀_:Unit,getV t2.held (k:Int) kek=(x,0)):=fun _=>by rw [ht2];exact fT hk24 kek x Hx.out.1 Hx.out.2
   have HGO:Hid (∀_:Unit,getV t2.held (k:Int) oth=(Y,50)):=fun _=>by rw [gZ hk24 HH2.out];exact HUV.out ()
   clear ht2 hin
   go_wp2_with (first
    | ((with_reducible refine ab (some 55) (.load 39 (.tmp 7)) ?_);go_must (refine aq (.agg (u8s kek).toArray) rfl (ao 0 _ (st.mem.get 2 rfl) rfl _ ar rfl 32 am (by rw [aa,Hkek.out.1];omega) (by rw [List.drop_zero,List.take_of_length_le (by rw [aa,Hkek.out.1];omega)])) ?_))
    | ((with_reducible refine ab (some 56) (.load 39 (.tmp 9)) ?_);go_must (refine aq (.agg (u8s x).toArray) rfl (ao 0 _ (st.mem.get 0 rfl) rfl _ ar rfl 32 am (by rw [aa,Hx.out.1];omega) (by rw [List.drop_zero,List.take_of_length_le (by rw [aa,Hx.out.1];omega)])) ?_))
    | (go_at_call 13;go_must (refine (put_w st HT.out HQT.out (by omega) (by have:=HPU.out;omega) k hk24 kek x Hkek.out.1 Hkek.out.2 Hx.out.1 Hx.out.2 t2 (HT2.out ())).mono ?_);rintro e wp ⟨rfl,⟨d2,st9⟩,_⟩;have hz:=stand_at st9.inv st9.at_.dk.ok.kept hk24 HH2.out (by rw [HX2.out ()];exact HXS.out.1);rw [HX2.out ()] at hz;obtain ⟨ZS,hZS⟩:∃z,z=flatK d2.kept d2.n:=⟨_,rfl⟩;rw [←hZS] at hz;have HZ:Hid ((ZS.drop ((2+k) * 64)).take 48=XS∧(2+k) * 64+48≤ZS.length∧ZS.length≤100000):=hz;have HZE:Hid (∀_:Unit,flatK d2.kept d2.n=ZS):=fun _=>hZS.symm;clear hz hZS st;have st:=st9;clear st9)
    | ((with_reducible refine ab (some 59) (.load 39 (.tmp 7)) ?_);go_must (refine aq (.agg (u8s kek).toArray) rfl (ao 0 _ (st.mem.get 2 rfl) rfl _ ar rfl 32 am (by rw [aa,Hkek.out.1];omega) (by rw [List.drop_zero,List.take_of_length_le (by rw [aa,Hkek.out.1];omega)])) ?_))
    | ((with_reducible refine ab (some 65) (.load 39 (.tmp 9)) ?_);go_must (refine aq (.agg (u8s x).toArray) rfl (ao 0 _ (st.mem.get 0 rfl) rfl _ ar rfl 32 am (by rw [aa,Hx.out.1];omega) (by rw [List.drop_zero,List.take_of_length_le (by rw [aa,Hx.out.1];omega)])) ?_))
    | (go_at_call 21;go_must (refine (HWR.out _).mono ?_);rintro e ww ⟨rfl,hbw⟩;replace st:=st.below hbw;clear hbw)
    | ((with_reducible refine ab (some 17) (.alloc 47) ?_);go_must (refine bz _ eE ?_);intro wa q17 hba hqa hra;replace st:=st.add hba hra hqa;clear hba hqa hra)
    | ((with_reducible refine ab none (.store 47 (.tmp 17) (.tmp 66)) ?_);go_must (refine cI (u8s XS) (st.mem.get 0 rfl) rfl rfl 48 b7 (by simp [aa]) (by rw [aa,HXS.out.1]) (aj _) ?_);intro wb hub hrb;replace st:=st.upd 0 rfl hub hrb;clear hub hrb)
    | ((with_reducible refine ab (some 70) (.load 39 (.tmp 7)) ?_);go_must (refine aq (.agg (u8s kek).toArray) rfl (ao 0 _ (st.mem.get 3 rfl) rfl _ ar rfl 32 am (by rw [aa,Hkek.out.1];omega) (by rw [List.drop_zero,List.take_of_length_le (by rw [aa,Hkek.out.1];omega)])) ?_))
    | (go_at_call 16;(first|(clear tk1;go_must (refine (get_v st HT.out HQT.out (k:Int) kek Hkek.out.1 Hkek.out.2).mono ?_);rintro e wg ⟨he,st9⟩;rw [HG.out ()] at he;subst he;replace st:=st9;clear st9)|(go_must (refine (get_v st HT.out HQT.out (k:Int) oth Hoth.out.1 Hoth.out.2).mono ?_);rintro e wg ⟨he,st9⟩;rw [HGO.out ()] at he;subst he;replace st:=st9;clear st9)))
    | ((with_reducible refine ab (some 18) (.alloc 39) ?_);go_must (refine bz _ aM ?_);intro wa q18 hba hqa hra;replace st:=st.add hba hra hqa;clear hba hqa hra)
    | ((with_reducible refine ab none (.store 39 (.tmp 18) (.tmp 72)) ?_);go_must (refine cI (u8s x) (st.mem.get 0 rfl) rfl rfl 32 am (by simp [aa]) (by rw [aa,Hx.out.1]) (aj _) ?_);intro wb hub hrb;replace st:=st.upd 0 rfl hub hrb;clear hub hrb)
    | ((with_reducible refine ab (some 77) (.load 39 (.tmp 8)) ?_);go_must (refine aq (.agg (u8s oth).toArray) rfl (ao 0 _ (st.mem.get 3 rfl) rfl _ ar rfl 32 am (by rw [aa,Hoth.out.1];omega) (by rw [List.drop_zero,List.take_of_length_le (by rw [aa,Hoth.out.1];omega)])) ?_))
    | ((with_reducible refine ab (some 20) (.alloc 39) ?_);go_must (refine bz _ aM ?_);intro wa q20 hba hqa hra;replace st:=st.add hba hra hqa;clear hba hqa hra)
    | ((with_reducible refine ab none (.store 39 (.tmp 20) (.tmp 79)) ?_);go_must (refine cI (u8s Y) (st.mem.get 0 rfl) rfl rfl 32 am (by simp [aa]) (by rw [aa,HY.out]) (aj _) ?_);intro wb hub hrb;replace st:=st.upd 0 rfl hub hrb;clear hub hrb)
    | ((with_reducible refine ab (some 82) (.load 39 (.tmp 8)) ?_);go_must (refine aq (.agg (u8s oth).toArray) rfl (ao 0 _ (st.mem.get 4 rfl) rfl _ ar rfl 32 am (by rw [aa,Hoth.out.1];omega) (by rw [List.drop_zero,List.take_of_length_le (by rw [aa,Hoth.out.1];omega)])) ?_))
    | ((with_reducible refine ab (some 88) (.load 47 (.tmp 17)) ?_);go_must (refine aq (.agg (u8s XS).toArray) rfl (ao 0 _ (st.mem.get 2 rfl) rfl _ cw rfl 48 b7 (by rw [aa,HXS.out.1];omega) (by rw [List.drop_zero,List.take_of_length_le (by rw [aa,HXS.out.1];omega)])) ?_))
    | (go_at_call 22;go_must (refine (HUW.out _).mono ?_);rintro e wu ⟨rfl,hbw⟩;replace st:=st.below hbw;clear hbw)
    | ((with_reducible refine ab (some 22) (.alloc 39) ?_);go_must (refine bz _ aM ?_);intro wa q22 hba hqa hra;replace st:=st.add hba hra hqa;clear hba hqa hra)
    | ((with_reducible refine ab none (.store 39 (.tmp 22) (.tmp 90)) ?_);go_must (refine cI (u8s Y) (st.mem.get 0 rfl) rfl rfl 32 am (by simp [aa]) (by rw [aa,HY.out]) (aj _) ?_);intro wb hub hrb;replace st:=st.upd 0 rfl hub hrb;clear hub hrb))
   refine ax ?_
   refine aY (T:=fun W=>Mem w [] W [(q22,u8s Y,39),(q20,u8s Y,39),(q18,u8s x,39),(q17,u8s XS,47),(g9,u8s x,39),(g8,u8s oth,39),(g7,u8s kek,39)]) (by kernel_rfl) st.mem ?_
   intro wz hbz hmz
   replace st:=st.below hbz
   have HTW:Hid (Mem w [] wz [(q22,u8s Y,39),(q20,u8s Y,39),(q18,u8s x,39),(q17,u8s XS,47),(g9,u8s x,39),(g8,u8s oth,39),(g7,u8s kek,39)]):=st.mem
   clear hbz hmz
   refine aT 0 (v:=.pointer (some ⟨g,0,none⟩)) rfl (by kernel_rfl) rfl (fun W _=>by go_simp) HTW.out ?_
   go_simp
   refine aT 2 (v:=.slice (some ⟨q17,0,none⟩) 48 48) rfl (by kernel_rfl) rfl (fun W _=>exec_slaS 48 cw aC 0 48 (by omega) (by omega) rfl (Or.inr ⟨rfl,rfl⟩) (Or.inr ⟨rfl,rfl⟩)) HTW.out ?_
   go_simp
   refine aO 1 (by kernel_rfl) rfl rfl ?_
   intro K hK
   go_wp2_with ((go_at_call 24;go_must (refine (dU st st ZS (HZE.out ())).mono ?_);rintro e wi ⟨p1,c1,rfl,ho,st9,_,_⟩;obtain ⟨qi,ci,ti,hv,_,hri,hci⟩:=OwnB.row ho (by have:=HZ.out.2.1;omega);simp only [Value.slice.injEq,true_and] at hv;obtain ⟨hv1,hv2⟩:=hv;subst hv1 hv2;have HRI:Hid (Row wi qi (u8s ZS++ti) 5):=hri;have HCI:Hid (ZS.length≤c1):=hci;replace st:=st9;clear st9 ho hri hci HTW;have HTW:Hid (Mem w [] wi [(q22,u8s Y,39),(q20,u8s Y,39),(q18,u8s x,39),(q17,u8s XS,47),(g9,u8s x,39),(g8,u8s oth,39),(g7,u8s kek,39)]):=st.mem))
   refine hK _ _ HTW.out ?_
   clear hK K
   go_simp
   refine aO 3 (by kernel_rfl) rfl rfl ?_
   intro K hK
   go_wp2_with ((go_at_call 23;go_must (refine (find_any ZS XS ti qi c1 _ _ ((2+k) * 64) ZS.length _ rfl HRI.out HCI.out HZ.out.2.2 (aE (st.mem.get 3 rfl) HXS.out.1 (Nat.le_refl _)) HZ.out.1 HZ.out.2.1).mono ?_);rintro e wf ⟨mm,rfl,hbf⟩;replace st:=st.below hbf;clear hbf HTW HRI HCI;have HTW:Hid (Mem w [] wf [(q22,u8s Y,39),(q20,u8s Y,39),(q18,u8s x,39),(q17,u8s XS,47),(g9,u8s x,39),(g8,u8s oth,39),(g7,u8s kek,39)]):=st.mem))
   refine hK _ _ HTW.out ?_
   clear hK K
   go_simp
   refine aT 4 (v:=.bool true) rfl (by kernel_rfl) rfl (fun W _=>by go_simp) HTW.out ?_
   go_simp
   refine aT 5 (v:=.bool true) rfl (by kernel_rfl) rfl (fun W _=>by go_simp) HTW.out ?_
   go_simp
   refine aG 6 (v:=.int .i64 0) rfl (by kernel_rfl) rfl (fun W _=>by go_simp) HTW.out ?_
   go_simp
   refine aG 7 (v:=.bool true) rfl (by kernel_rfl) rfl (fun W _=>by go_simp) HTW.out ?_
   go_simp
   refine aT 8 (v:=.bool true) rfl (by kernel_rfl) rfl (fun W _=>by go_simp) HTW.out ?_
   go_simp
   refine aT 9 (v:=.bool true) rfl (by kernel_rfl) rfl (fun W _=>by go_simp) HTW.out ?_
   go_simp
   refine aG 10 (v:=.agg (u8s x).toArray) rfl (by kernel_rfl) rfl (fun W hW=>ao 0 _ (Mem.get hW 2 rfl) rfl _ ar rfl 32 am (by rw [aa,Hx.out.1];omega) (by rw [List.drop_zero,List.take_of_length_le (by rw [aa,Hx.out.1];omega)])) HTW.out ?_
   go_simp
   refine aG 11 (v:=.agg (u8s x).toArray) rfl (by kernel_rfl) rfl (fun W hW=>ao 0 _ (Mem.get hW 4 rfl) rfl _ ar rfl 32 am (by rw [aa,Hx.out.1];omega) (by rw [List.drop_zero,List.take_of_length_le (by rw [aa,Hx.out.1];omega)])) HTW.out ?_
   go_simp
   refine aG 12 (v:=.bool true) rfl (by kernel_rfl) rfl (fun W _=>dZ 5 32 .u8 x rfl rfl ar aZ aC fF Hx.out.1) HTW.out ?_
   go_simp
   refine aT 13 (v:=.bool true) rfl (by kernel_rfl) rfl (fun W _=>by go_simp) HTW.out ?_
   go_simp
   refine aT 14 (v:=.bool true) rfl (by kernel_rfl) rfl (fun W _=>by go_simp) HTW.out ?_
   go_simp
   refine aG 15 (v:=.int .i64 50) rfl (by kernel_rfl) rfl (fun W _=>by go_simp) HTW.out ?_
   go_simp
   refine aG 16 (v:=.bool false) rfl (by kernel_rfl) rfl (fun W _=>by go_simp) HTW.out ?_
   go_simp
   refine aG 17 (v:=.bool false) rfl (by kernel_rfl) rfl (fun W _=>by go_simp) HTW.out ?_
   go_simp
   refine aG 18 (v:=.bool true) rfl (by kernel_rfl) rfl (fun W _=>by go_simp) HTW.out ?_
   go_simp
   refine aT 19 (v:=.bool true) rfl (by kernel_rfl) rfl (fun W _=>by go_simp) HTW.out ?_
   go_simp
   refine aT 20 (v:=.bool true) rfl (by kernel_rfl) rfl (fun W _=>by go_simp) HTW.out ?_
   go_simp
   refine aG 21 (v:=.int .i64 50) rfl (by kernel_rfl) rfl (fun W _=>by go_simp) HTW.out ?_
   go_simp
   refine aG 22 (v:=.bool false) rfl (by kernel_rfl) rfl (fun W _=>by go_simp) HTW.out ?_
   go_simp
   refine aG 23 (v:=.bool false) rfl (by kernel_rfl) rfl (fun W _=>by go_simp) HTW.out ?_
   go_simp
   refine aG 24 (v:=.int .i64 50) rfl (by kernel_rfl) rfl (fun W _=>by go_simp) HTW.out ?_
   go_simp
   refine aG 25 (v:=.bool true) rfl (by kernel_rfl) rfl (fun W _=>by go_simp) HTW.out ?_
   go_simp
   refine aG 26 (v:=.bool true) rfl (by kernel_rfl) rfl (fun W _=>by go_simp) HTW.out ?_
   go_simp
   refine aT 27 (v:=.bool true) rfl (by kernel_rfl) rfl (fun W _=>by go_simp) HTW.out ?_
   go_simp
   refine aT 28 (v:=.bool true) rfl (by kernel_rfl) rfl (fun W _=>by go_simp) HTW.out ?_
   go_simp
   refine aG 29 (v:=.agg (u8s Y).toArray) rfl (by kernel_rfl) rfl (fun W hW=>ao 0 _ (Mem.get hW 1 rfl) rfl _ ar rfl 32 am (by rw [aa,HY.out];omega) (by rw [List.drop_zero,List.take_of_length_le (by rw [aa,HY.out];omega)])) HTW.out ?_
   go_simp
   refine aG 30 (v:=.agg (u8s Y).toArray) rfl (by kernel_rfl) rfl (fun W hW=>ao 0 _ (Mem.get hW 0 rfl) rfl _ ar rfl 32 am (by rw [aa,HY.out];omega) (by rw [List.drop_zero,List.take_of_length_le (by rw [aa,HY.out];omega)])) HTW.out ?_
   go_simp
   refine aG 31 (v:=.bool true) rfl (by kernel_rfl) rfl (fun W _=>dZ 5 32 .u8 Y rfl rfl ar aZ aC fF HY.out) HTW.out ?_
   go_simp
   refine aT 32 (v:=.bool true) rfl (by kernel_rfl) rfl (fun W _=>by go_simp) HTW.out ?_
   go_simp
   refine aT 33 (v:=.bool true) rfl (by kernel_rfl) rfl (fun W _=>by go_simp) HTW.out ?_
   go_simp
   refine wpAnyH_done (by kernel_rfl) ?_ _
   simp only [endsIn]
   go_wp2_with fail
   go_ret
   exact ⟨rfl,st.mem.below⟩
open Go Go.RowKit Go.Maps
theorem stand_walk (a b:Int) (kek oth x:List Int) (ha:0≤a∧a<256) (hb:0≤b∧b<256) (hkek:kek.length=32∧Bytes kek) (hoth:oth.length=32∧Bytes oth) (hx:x.length=32∧Bytes x) (w:World) (ht:Tab w) (hq:QTab w) (h2:2≤w.heap.size) :
  Calls Tryz.prog 4 #[.int .u8 a,.int .u8 b,.agg (u8s kek).toArray,.agg (u8s oth).toArray,.agg (u8s x).toArray] w fun e w'=>e=.returned (.bool true)∧Below w.heap.size w w':=by
 obtain ⟨k,hk⟩:∃k:Nat,(k:Int)=a.tmod 24:=⟨(a.tmod 24).toNat,by rw [Int.tmod_eq_emod_of_nonneg ha.1];omega⟩
 have hk24:k<24:=by rw [Int.tmod_eq_emod_of_nonneg ha.1] at hk;omega
 obtain ⟨n,hn⟩:∃n:Nat,(n:Int)=b.tmod 5:=⟨(b.tmod 5).toNat,by rw [Int.tmod_eq_emod_of_nonneg hb.1];omega⟩
 have hn5:n<5:=by rw [Int.tmod_eq_emod_of_nonneg hb.1] at hn;omega
 rcases unwV_two oth k (n+1,sealOf kek (nonceOf (k:Int) ((n+1:Nat):Int)) labWrap x) with h|h
 ·exact stand_0 a b kek oth x _ k n hk.symm hn.symm hk24 hn5 hkek hoth hx (Prod.ext rfl h) w ht hq h2
 ·exact stand_50 a b kek oth x _ k n hk.symm hn.symm hk24 hn5 hkek hoth hx (Prod.ext rfl h) w ht hq h2
end Go.Proofs.YtblnljajipbajaaGreatDoor
