import Derived.Test.YtblnljajipbajaaGreatDoorQe06
import Derived.Test.YtblnljajipbajaaGreatDoorQe07
set_option maxRecDepth 100000
set_option maxHeartbeats 4000000
namespace Go.Proofs.YtblnljajipbajaaGreatDoor
open Go Go.RowKit
theorem and31p:∀n:Fin 32,bits .and .i64 ((n.val:Nat):Int) 31=((n.val:Nat):Int):=by decide +kernel
theorem rotlRefP_any (x n:Int) (w:World) (hn0:0≤n) (hn1:n<32) :
  Calls Tryz.prog 122 #[.int .u32 x,.int .i64 n] w fun e w'=>e=.returned (.int .u32 (rotl x n))∧w'=w:=by
 have ha:bits .and .i64 n 31=n:=by
  have h:=and31p ⟨n.toNat,by omega⟩
  rw [show ((n.toNat:Nat):Int)=n by omega] at h
  exact h
 go_enter Tryz.func122,Tryz.ntmps122
 go_wp2
 go_ret
 exact ⟨rfl,rfl⟩
theorem jx (a b c d:Int) (w:World) :
  Calls Tryz.prog 105 #[.int .u32 a,.int .u32 b,.int .u32 c,.int .u32 d] w fun e w'=>e=.returned (quartV a b c d)∧w'=w:=by
 go_enter Tryz.func105,Tryz.ntmps105
 go_wp2_with (go_at_call 122;refine (rotlRefP_any _ _ _ (by omega) (by omega)).mono ?_;rintro e w' ⟨rfl,rfl⟩)
 exact bodyPost_ret (hF Tryz.results105 _ _ _) rfl ⟨rfl,rfl⟩
theorem kd (a b c d ya yb yc yd:Int) (hq:quart a b c d=(ya,yb,yc,yd)) (w:World) :
  Calls Tryz.prog 105 #[.int .u32 a,.int .u32 b,.int .u32 c,.int .u32 d] w fun e w'=>e=.returned (.tuple #[.int .u32 ya,.int .u32 yb,.int .u32 yc,.int .u32 yd])∧w'=w:=by
 have h:=jx a b c d w
 unfold quartV at h
 rw [hq] at h
 exact h
theorem lit4_sum {a b c d:Int} (ha:0≤a∧a<256) (hb:0≤b∧b<256) (hc:0≤c∧c<256) (hd:0≤d∧d<256):lit4 a b c d=d * 16777216+c * 65536+b * 256+a:=by
 unfold lit4
 rw [gJ 24 (d * 16777216) (c * 65536) ⟨by omega,by omega⟩ (by omega) (by omega) (by omega) (by omega),
  gJ 16 _ (b * 256) ⟨by omega,by omega⟩ (by omega) (by omega) (by omega) (by omega),gJ 8 _ a ⟨by omega,by omega⟩ (by omega) (by omega) (by omega) (by omega)]
theorem lit_up {a b c d:Int} (ha:0≤a∧a<256) (hb:0≤b∧b<256) (hc:0≤c∧c<256) (hd:0≤d∧d<256) :
  bits .or .u32 (bits .or .u32 (bits .or .u32 (bits .or .u32 0 a) (b * 256)) (c * 65536)) (d * 16777216)=lit4 a b c d:=by
 rw [lit4_sum ha hb hc hd,gk 0 a,gJ 0 a 0 ⟨by omega,by omega⟩ (by omega) (by omega) (by omega) (by omega),
  gk (a+0),gJ 8 (b * 256) (a+0) ⟨by omega,by omega⟩ (by omega) (by omega) (by omega) (by omega),
  gk (b * 256+(a+0)),gJ 16 (c * 65536) _ ⟨by omega,by omega⟩ (by omega) (by omega) (by omega) (by omega),
  gk (c * 65536+(b * 256+(a+0))),gJ 24 (d * 16777216) _ ⟨by omega,by omega⟩ (by omega) (by omega) (by omega) (by omega)]
 omega
theorem gB (b off cap:Nat) (c0 c1 c2 c3:Int) (w:World) (hc:Seg w b off [c0,c1,c2,c3]) (h0:0≤c0∧c0<256) (h1:0≤c1∧c1<256) (h2:0≤c2∧c2<256) (h3:0≤c3∧c3<256) :
  Calls Tryz.prog 104 #[.slice (some ⟨b,off,none⟩) 4 cap] w fun e w'=>e=.returned (.int .u32 (lit4 c0 c1 c2 c3))∧w'=w:=by
 have HV:Hid _:=lit_up h0 h1 h2 h3
 obtain ⟨h00,h01⟩:=h0
 obtain ⟨h10,h11⟩:=h1
 obtain ⟨h20,h21⟩:=h2
 obtain ⟨h30,h31⟩:=h3
 have k0:w.cell? ⟨b,off,none⟩=some (.int .u8 c0):=hc 0 (by simp)
 have k1:w.cell? ⟨b,off+1,none⟩=some (.int .u8 c1):=hc 1 (by simp)
 have k2:w.cell? ⟨b,off+2,none⟩=some (.int .u8 c2):=hc 2 (by simp)
 have k3:w.cell? ⟨b,off+3,none⟩=some (.int .u8 c3):=hc 3 (by simp)
 clear hc
 go_enter Tryz.func104,Tryz.ntmps104
 go_wp2_with fail
 refine wp_loop_rounds 5 ?_
 iterate 5 (rw [rounds_succ];go_wp2_with fail)
 go_ret
 exact ⟨congrArg (fun z=>Ending.returned (.int .u32 z)) HV.out,rfl⟩
end Go.Proofs.YtblnljajipbajaaGreatDoor
namespace Go.Proofs.YtblnljajipbajaaGreatDoor
open Go Go.RowKit
def bRow (ws:List Int) (i:Nat):List Int:=(asL ws).take i++List.replicate (64 - i) 0
theorem bRow_length (ws:List Int) (h:ws.length=16) (i:Nat) (hi:i≤64):(bRow ws i).length=64:=by simp [bRow,dt,h];omega
theorem bRow_full (ws:List Int) (h:ws.length=16):bRow ws 64=asL ws:=by
 unfold bRow
 rw [List.take_of_length_le (by rw [dt];omega)]
 simp
theorem bRow_set (ws:List Int) (h:ws.length=16) (i:Nat) (z:Int) (hi:i<64) (hz:z=(asL ws).getD i 0):(bRow ws i).set i z=bRow ws (i+1):=by
 have hl:(asL ws).length=64:=by rw [dt,h]
 have ht:((asL ws).take i).length=i:=by rw [List.length_take];omega
 subst hz
 unfold bRow
 rw [List.set_append_right _ _ (by omega),ht,Nat.sub_self,show 64 - i=(64 - (i+1))+1 by omega,List.replicate_succ,List.set_cons_zero,List.take_succ_eq_append_getElem (by omega),dG _ _ (by omega),List.append_assoc]
 rfl
theorem sumOf_get (ws vs:List Int) (i:Nat) (h1:i<ws.length) (h2:i<vs.length):(sumOf ws vs).getD i 0=(ws.getD i 0+vs.getD i 0) % 4294967296:=by
 have hl:i<(sumOf ws vs).length:=by simp [sumOf];omega
 rw [dG _ _ hl,dG _ _ h1,dG _ _ h2]
 simp [sumOf]
theorem asL_at (ws:List Int):∀(q e:Nat),q<ws.length→e<4→(asL ws).getD (4 * q+e) 0=(lfour (ws.getD q 0)).getD e 0:=by
 induction ws with
 | nil=>intro q e hq;simp at hq
 | cons x l ih =>
  intro q e hq he
  have hc:asL (x::l)=lfour x++asL l:=rfl
  rw [hc,iY,show (lfour x).length=4 from rfl]
  cases q with
  | zero=>rw [if_pos (by omega)];simp
  | succ q =>
   rw [if_neg (by omega),show 4 * (q+1)+e - 4=4 * q+e by omega,ih q e (by simpa using hq) he]
   rfl
theorem first_put2 (ks ns:List Int) (c:Int):putL ((putL (startWs 0) 4 ks 8).set 12 c) 13 ns 3=firstOf ks ns c:=by
 simp [putL,splice,litWords,startWs,firstOf,headWs]
theorem j9 (ks ns:List Int) (c:Int) (hkl:ks.length=32) (hnl:ns.length=12) (hkb:Bytes ks) (hnb:Bytes ns) (w:World) :
  Calls Tryz.prog 78 #[.agg (u8s ks).toArray,.agg (u8s ns).toArray,.int .u32 c] w fun e w'=>e=.returned (.agg (u8s (blockOf ks ns c)).toArray)∧Below w.heap.size w w':=by
 have hm:=Mem.start w
 have HKB:Hid _:=hkb
 have HNB:Hid _:=hnb
 have HKL:Hid _:=hkl
 have HNL:Hid _:=hnl
 have HP1:Hid ((startWs 0).length=16):=rfl
 obtain ⟨L1,hL1⟩:∃L,L=(putL (startWs 0) 4 ks 8).set 12 c:=⟨_,rfl⟩
 have HL1:Hid (L1.length=16):=by show _=_;rw [hL1,List.length_set,dw _ _ _ _ (by simp [startWs])];rfl
 have HLS:Hid (∀_:Unit,(u32s (putL (startWs 0) 4 ks 8)).set 12 (.int .u32 c)=u32s L1):=by intro _;rw [cj,hL1]
 have HLN8:Hid ((u32s (putL (startWs 0) 4 ks 8)).length=16):=by show _=_;rw [ai,dw _ _ _ _ (by simp [startWs])];rfl
 obtain ⟨fs,hfs⟩:∃fs,fs=firstOf ks ns c:=⟨_,rfl⟩
 have HFE:Hid (∀_:Unit,putL L1 13 ns 3=fs):=by intro _;rw [hL1,hfs];exact first_put2 ks ns c
 have HF:Hid (fs.length=16):=by show _=_;rw [hfs,dH]
 obtain ⟨vs,hvs⟩:∃vs,vs=qrounds fs 80:=⟨_,rfl⟩
 have HVE:Hid (∀_:Unit,qrounds fs 80=vs):=fun _=>hvs.symm
 have HV:Hid (vs.length=16):=by show _=_;rw [hvs,bD];exact HF.out
 obtain ⟨S,hS⟩:∃S,S=sumOf vs fs:=⟨_,rfl⟩
 have HSL:Hid (S.length=16):=by show _=_;rw [hS,dd _ _ (by rw [HV.out,HF.out])];exact HV.out
 have HSG0:Hid (∀q,q<16→S.getD q 0=(vs.getD q 0+fs.getD q 0) % 4294967296):=by
  intro q hq
  have h1:=HV.out
  have h2:=HF.out
  rw [hS]
  exact sumOf_get vs fs q (by omega) (by omega)
 have HBE:Hid (∀_:Unit,asL S=blockOf ks ns c):=by intro _;rw [hS,hvs,hfs];rfl
 have HBS:Hid (∀(i:Nat) (z:Int),i<64→z=(asL S).getD i 0→(bRow S i).set i z=bRow S (i+1)):=fun i z hi hz=>bRow_set S HSL.out i z hi hz
 have HBW:Hid (∀i,i≤64→(bRow S i).length=64):=fun i hi=>bRow_length S HSL.out i hi
 clear hkb hnb hkl hnl hL1 hfs hvs hS
 go_enter Tryz.func78,Tryz.ntmps78
 go_wp2_with (first
  | ((with_reducible refine ab (some 3) (.box 39 (.tmp 0)) ?_);refine au (u8s ks) rfl hm ?_;clear hm;intro w1 g3 hm)
  | ((with_reducible refine ab (some 4) (.box 97 (.tmp 1)) ?_);refine au (u8s ns) rfl hm ?_;clear hm;intro w2 g4 hm)
  | ((with_reducible refine ab (some 6) (.alloc 76) ?_);refine af _ cn hm ?_;clear hm;intro w3 g6 hm)
  | ((with_reducible refine ab (some 7) (.alloc 160) ?_);refine af _ eC hm ?_;clear hm;intro w4 g7 hm)
  | ((with_reducible refine ab none (.store 49 (.tmp 21) (.const (.int .u32 1634760805))) ?_);go_must (refine aD 0 0 (.int .u32 1634760805) hm rfl rfl rfl bW (by simp [ai]) rfl rfl ?_);clear hm;intro a0 hm)
  | ((with_reducible refine ab none (.store 49 (.tmp 22) (.const (.int .u32 857760878))) ?_);go_must (refine aD 0 1 (.int .u32 857760878) hm rfl rfl rfl bW (by simp [ai]) rfl rfl ?_);clear hm;intro a1 hm)
  | ((with_reducible refine ab none (.store 49 (.tmp 23) (.const (.int .u32 2036477234))) ?_);go_must (refine aD 0 2 (.int .u32 2036477234) hm rfl rfl rfl bW (by simp [ai]) rfl rfl ?_);clear hm;intro a2 hm)
  | ((with_reducible refine ab none (.store 49 (.tmp 24) (.const (.int .u32 1797285236))) ?_);go_must (refine aD 0 3 (.int .u32 1797285236) hm rfl rfl rfl bW (by simp [ai]) rfl rfl ?_);clear hm;intro a3 hm))

 replace hm:Mem w [] a3 [(g7,u32s (putL (startWs 0) 4 ks 0),160),(g6,u8s (List.replicate 64 0),76),(g4,u8s ns,97),(g3,u8s ks,39)]:=by rw [iE];exact hm
 go_loopw [8] (fun vi wr=>∃k:Nat,k≤8∧vi=.int .i64 k∧Mem w [] wr [(g7,u32s (putL (startWs 0) 4 ks k),160),(g6,u8s (List.replicate 64 0),76),(g4,u8s ns,97),(g3,u8s ks,39)]) (fun vi _=>8 - (intOf vi).toNat)
 case atStart=>exact ⟨0,by omega,rfl,hm⟩
 case round =>
  clear hm
  obtain ⟨k,hk,rfl,hm⟩:=hrel
  by_cases hlt:k<8
  ·have hki:(k:Int)<8:=by omega
   have HQ:Hid _:=And.intro (Bytes.get HKB.out (4 * k)) (And.intro (Bytes.get HKB.out (4 * k+1)) (And.intro (Bytes.get HKB.out (4 * k+2)) (Bytes.get HKB.out (4 * k+3))))
   have HSG:Hid (∀W,Row W g3 (u8s ks) 39→Seg W g3 (4 * k) [ks.getD (4 * k) 0,ks.getD (4 * k+1) 0,ks.getD (4 * k+2) 0,ks.getD (4 * k+3) 0]):=by
    intro W hW
    have h:=jA (Seg.row hW) k (by rw [HKL.out];omega)
    rw [Nat.zero_add] at h
    exact h
   have HST:Hid ((u32s (putL (startWs 0) 4 ks k)).set (4+k) (.int .u32 (litAt ks k))=u32s (putL (startWs 0) 4 ks (k+1))):=by
    show _=_
    rw [cj,iL _ _ _ _ (by rw [HP1.out];omega)]
   have HLN:Hid (4+k<(u32s (putL (startWs 0) 4 ks k)).length):=by show _<_;rw [ai,dw _ _ _ _ (by rw [HP1.out];omega),HP1.out];omega
   have e1:4 * (k:Int)=((4 * k:Nat):Int):=by omega
   have e2:4 * (k:Int)+4=((4 * k+4:Nat):Int):=by omega
   have E1:Hid _:=e1
   have E2:Hid _:=e2
   clear e1 e2
   go_wp2_with (first
    | ((with_reducible refine ab (some 36) (.slice 39 (.tmp 3) (some (.tmp 32)) (some (.tmp 35)) none) ?_);go_must (refine eR 32 ar aC (4 * k) 4 (by omega) (by omega) rfl (Or.inl (dK _ rfl E1.out)) (Or.inl (dK _ rfl E2.out)) ?_))
    | (go_at_call 104;go_must (refine (gB _ _ _ _ _ _ _ _ (by first|exact HSG.out _ (hm.get 3 rfl)|(rw [Nat.zero_add];exact HSG.out _ (hm.get 3 rfl))) HQ.out.1 HQ.out.2.1 HQ.out.2.2.1 HQ.out.2.2.2).mono ?_);rintro e w5 ⟨rfl,hw⟩;replace hw:=hw.symm;subst hw)
    | ((with_reducible refine ab none (.store 49 (.tmp 38) (.tmp 37)) ?_);go_must (refine aD 0 (4+k) (.int .u32 (litAt ks k)) hm rfl rfl rfl bW HLN.out rfl rfl ?_);clear hm;intro w6 hm))
   rw [List.set_cons_zero,HST.out] at hm
   go_roundw
   case rel=>exact ⟨k+1,by omega,by go_num,hm⟩
   case measure=>simp [intOf];omega
  ·have hk8:k=8:=by omega
   subst hk8
   go_wp2_with (first
    | ((with_reducible refine ab none (.store 49 (.tmp 40) (.tmp 39)) ?_);go_must (refine aD 0 12 (.int .u32 c) hm rfl rfl rfl bW (by rw [HLN8.out];omega) rfl rfl ?_);clear hm;intro w7 hm;rw [List.set_cons_zero,HLS.out ()] at hm))

   replace hm:Mem w [] w7 [(g7,u32s (putL L1 13 ns 0),160),(g6,u8s (List.replicate 64 0),76),(g4,u8s ns,97),(g3,u8s ks,39)]:=by rw [iE];exact hm
   try rw [show ((8:Nat):Int)=8 from rfl]
   go_loopw [9] (fun vi wr=>∃k:Nat,k≤3∧vi=.int .i64 k∧Mem w [] wr [(g7,u32s (putL L1 13 ns k),160),(g6,u8s (List.replicate 64 0),76),(g4,u8s ns,97),(g3,u8s ks,39)]) (fun vi _=>3 - (intOf vi).toNat)
   case atStart=>exact ⟨0,by omega,rfl,hm⟩
   case round =>
    clear hm
    obtain ⟨k,hk3,rfl,hm⟩:=hrel
    by_cases hlt:k<3
    ·have hki:(k:Int)<3:=by omega
     have HQ:Hid _:=And.intro (Bytes.get HNB.out (4 * k)) (And.intro (Bytes.get HNB.out (4 * k+1)) (And.intro (Bytes.get HNB.out (4 * k+2)) (Bytes.get HNB.out (4 * k+3))))
     have HSG:Hid (∀W,Row W g4 (u8s ns) 97→Seg W g4 (4 * k) [ns.getD (4 * k) 0,ns.getD (4 * k+1) 0,ns.getD (4 * k+2) 0,ns.getD (4 * k+3) 0]):=by
      intro W hW
      have h:=jA (Seg.row hW) k (by rw [HNL.out];omega)
      rw [Nat.zero_add] at h
      exact h
     have HST:Hid ((u32s (putL L1 13 ns k)).set (13+k) (.int .u32 (litAt ns k))=u32s (putL L1 13 ns (k+1))):=by
      show _=_
      rw [cj,iL _ _ _ _ (by rw [HL1.out];omega)]
     have HLN:Hid (13+k<(u32s (putL L1 13 ns k)).length):=by show _<_;rw [ai,dw _ _ _ _ (by rw [HL1.out];omega),HL1.out];omega
     have e1:4 * (k:Int)=((4 * k:Nat):Int):=by omega
     have e2:4 * (k:Int)+4=((4 * k+4:Nat):Int):=by omega
     have E1:Hid _:=e1
     have E2:Hid _:=e2
     clear e1 e2
     go_wp2_with (first
      | ((with_reducible refine ab (some 52) (.slice 97 (.tmp 4) (some (.tmp 48)) (some (.tmp 51)) none) ?_);go_must (refine eR 12 ce aC (4 * k) 4 (by omega) (by omega) rfl (Or.inl (dK _ rfl E1.out)) (Or.inl (dK _ rfl E2.out)) ?_))
      | (go_at_call 104;go_must (refine (gB _ _ _ _ _ _ _ _ (by first|exact HSG.out _ (hm.get 2 rfl)|(rw [Nat.zero_add];exact HSG.out _ (hm.get 2 rfl))) HQ.out.1 HQ.out.2.1 HQ.out.2.2.1 HQ.out.2.2.2).mono ?_);rintro e w5 ⟨rfl,hw⟩;replace hw:=hw.symm;subst hw)
      | ((with_reducible refine ab none (.store 49 (.tmp 54) (.tmp 53)) ?_);go_must (refine aD 0 (13+k) (.int .u32 (litAt ns k)) hm rfl rfl rfl bW HLN.out rfl rfl ?_);clear hm;intro w6 hm))
     rw [List.set_cons_zero,HST.out] at hm
     go_roundw
     case rel=>exact ⟨k+1,by omega,by go_num,hm⟩
     case measure=>simp [intOf];omega
    ·have hk3':k=3:=by omega
     subst hk3'
     rw [HFE.out ()] at hm
     go_wp2_with (first
      | ((with_reducible refine ab (some 10) (.alloc 163) ?_);refine af _ zero_i84 hm ?_;clear hm;intro w8 g10 hm)
      | ((with_reducible refine ab none (.store 163 (.tmp 10) (.tmp 63)) ?_);go_must (refine ah 0 (i64s qFlat) hm rfl rfl rfl 32 sz_i84 (by simp [ea]) rfl (jm _) ?_);clear hm;intro w9 hm)
      | ((with_reducible refine ab (some 64) (.load 160 (.tmp 7)) ?_);refine aw 1 hm rfl rfl _ e7 rfl 16 dD (by rw [ai];exact HF.out) ?_)
      | ((with_reducible refine ab (some 11) (.alloc 160) ?_);refine af _ eC hm ?_;clear hm;intro w10 g11 hm)
      | ((with_reducible refine ab none (.store 160 (.tmp 11) (.tmp 64)) ?_);refine ah 0 (u32s fs) hm rfl rfl rfl 16 dD (by simp [ai]) (by rw [ai];exact HF.out) (aN _) ?_;clear hm;intro w11 hm))

     try rw [show ((3:Nat):Int)=3 from rfl]
     go_loopw [12] (fun vi wr=>∃r:Nat,r≤80∧vi=.int .i64 r∧Mem w [] wr [(g11,u32s (qrounds fs r),160),(g10,i64s qFlat,163),(g7,u32s fs,160),(g6,u8s (List.replicate 64 0),76),(g4,u8s ns,97),(g3,u8s ks,39)]) (fun vi _=>80 - (intOf vi).toNat)
     case atStart=>exact ⟨0,by omega,rfl,hm⟩
     case round =>
      clear hm
      obtain ⟨r,hr,rfl,hm⟩:=hrel
      by_cases hlt:r<80
      ·have hri:(r:Int)<80:=by omega
       obtain ⟨k,hk⟩:∃k,k=r % 8:=⟨_,rfl⟩
       have hk8:k<8:=by omega
       have hki:(k:Int)<8:=by omega
       have hmd:(r:Int).tmod 8=(k:Int):=by rw [Int.tmod_eq_emod_of_nonneg (by omega)];omega
       have HK:Hid (r % 8=k):=hk.symm
       clear hk
       have hpart:=jV ⟨k,hk8⟩
       have hlt4:=qAt_lt ⟨k,hk8⟩
       have hq0:=hlt4 0
       have hq1:=hlt4 1
       have hq2:=hlt4 2
       have hq3:=hlt4 3
       obtain ⟨Y,hY⟩:∃Y,Y=quart ((qrounds fs r).getD (qAt k 0) 0) ((qrounds fs r).getD (qAt k 1) 0) ((qrounds fs r).getD (qAt k 2) 0) ((qrounds fs r).getD (qAt k 3) 0):=⟨_,rfl⟩
       obtain ⟨ya,yb,yc,yd⟩:=Y
       have hstep:=iR fs r k HK.out ya yb yc yd hY.symm
       have HLN:Hid ((u32s (qrounds fs r)).length=16):=by show _=_;rw [ai,bD,HF.out]
       obtain ⟨ia,hia⟩:∃i,i=qAt k 0:=⟨_,rfl⟩
       obtain ⟨ib,hib⟩:∃i,i=qAt k 1:=⟨_,rfl⟩
       obtain ⟨ic,hic⟩:∃i,i=qAt k 2:=⟨_,rfl⟩
       obtain ⟨id,hid⟩:∃i,i=qAt k 3:=⟨_,rfl⟩
       have ha:ia<16:=by rw [hia];exact hq0
       have hb:ib<16:=by rw [hib];exact hq1
       have hc:ic<16:=by rw [hic];exact hq2
       have hd:id<16:=by rw [hid];exact hq3
       simp only at hpart
       rw [←hia,←hib,←hic,←hid] at hY hstep hpart
       obtain ⟨xa,hxa⟩:∃x,x=(qrounds fs r).getD ia 0:=⟨_,rfl⟩
       obtain ⟨xb,hxb⟩:∃x,x=(qrounds fs r).getD ib 0:=⟨_,rfl⟩
       obtain ⟨xc,hxc⟩:∃x,x=(qrounds fs r).getD ic 0:=⟨_,rfl⟩
       obtain ⟨xd,hxd⟩:∃x,x=(qrounds fs r).getD id 0:=⟨_,rfl⟩
       rw [←hxa,←hxb,←hxc,←hxd] at hY
       have hlq:(qrounds fs r).length=16:=by rw [bD,HF.out]
       have HA:Hid ((u32s (qrounds fs r))[ia]?=some (.int .u32 xa)):=by rw [hxa];exact aF _ _ (by omega)
       have HB:Hid ((u32s (qrounds fs r))[ib]?=some (.int .u32 xb)):=by rw [hxb];exact aF _ _ (by omega)
       have HC:Hid ((u32s (qrounds fs r))[ic]?=some (.int .u32 xc)):=by rw [hxc];exact aF _ _ (by omega)
       have HD:Hid ((u32s (qrounds fs r))[id]?=some (.int .u32 xd)):=by rw [hxd];exact aF _ _ (by omega)
       have HY:Hid (quart xa xb xc xd=(ya,yb,yc,yd)):=hY.symm
       have HST:Hid (((((u32s (qrounds fs r)).set ia (.int .u32 ya)).set ib (.int .u32 yb)).set ic (.int .u32 yc)).set id (.int .u32 yd)=u32s (qrounds fs (r+1))):=hstep
       have HPT:Hid (((i64s qFlat).drop (k * 4)).take 4=i64s [(ia:Int),(ib:Int),(ic:Int),(id:Int)]):=by
        show _=_
        rw [←hpart]
        simp [i64s,List.map_take,List.map_drop]
       have hai:(ia:Int)<16:=by omega
       have hbi:(ib:Int)<16:=by omega
       have hci:(ic:Int)<16:=by omega
       have hdi:(id:Int)<16:=by omega
       clear hpart hlt4 hq0 hq1 hq2 hq3 hY hstep hia hib hic hid hxa hxb hxc hxd hlq
       go_wp2_with (first
        | ((with_reducible refine ab (some 72) (.load 162 (.tmp 71)) ?_);go_must (refine eS 1 (k * 4) (i64s [(ia:Int),(ib:Int),(ic:Int),(id:Int)]) hm rfl (by first|rfl|(congr 3;omega)) _ un_i4 rfl 4 sz_i4 (by rw [ea];show k * 4+4≤32;omega) HPT.out ?_))
        | ((with_reducible refine ab (some 13) (.alloc 162) ?_);refine af _ zero_i4 hm ?_;clear hm;intro w12 g13 hm)
        | ((with_reducible refine ab none (.store 162 (.tmp 13) (.tmp 72)) ?_);refine ah 0 (i64s [(ia:Int),(ib:Int),(ic:Int),(id:Int)]) hm rfl rfl rfl 4 sz_i4 (by simp [ea]) (rfl) (jm _) ?_;clear hm;intro w13 hm))

       refine ax ?_
       refine az (T:=fun W=>Mem w [] W [(g13,i64s [(ia:Int),(ib:Int),(ic:Int),(id:Int)],162),(g11,u32s (qrounds fs r),160),(g10,i64s qFlat,163),(g7,u32s fs,160),(g6,u8s (List.replicate 64 0),76),(g4,u8s ns,97),(g3,u8s ks,39)]) (by kernel_rfl) hm ?_
       clear hm
       intro w14 hm
       refine aT 0 (v:=.pointer (some ⟨g13,0,none⟩)) rfl (by kernel_rfl) rfl (fun W _=>by go_simp) hm ?_
       go_simp
       refine aT 1 (v:=.int .i64 (ia:Int)) rfl (by kernel_rfl) rfl (fun W hW=>bQ 0 (.int .i64 (ia:Int)) (Mem.get hW 0 rfl) rfl dF rfl) hm ?_
       go_simp
       refine aT 2 (v:=.pointer (some ⟨g11,ia,none⟩)) rfl (by kernel_rfl) rfl (fun W _=>by go_simp) hm ?_
       go_simp
       refine aT 3 (v:=.int .u32 xa) rfl (by kernel_rfl) rfl (fun W hW=>bQ ia (.int .u32 xa) (Mem.get hW 1 rfl) rfl cY HA.out) hm ?_
       go_simp
       refine aT 4 (v:=.pointer (some ⟨g13,1,none⟩)) rfl (by kernel_rfl) rfl (fun W _=>by go_simp) hm ?_
       go_simp
       refine aT 5 (v:=.int .i64 (ib:Int)) rfl (by kernel_rfl) rfl (fun W hW=>bQ 1 (.int .i64 (ib:Int)) (Mem.get hW 0 rfl) rfl dF rfl) hm ?_
       go_simp
       refine aT 6 (v:=.pointer (some ⟨g11,ib,none⟩)) rfl (by kernel_rfl) rfl (fun W _=>by go_simp) hm ?_
       go_simp
       refine aT 7 (v:=.int .u32 xb) rfl (by kernel_rfl) rfl (fun W hW=>bQ ib (.int .u32 xb) (Mem.get hW 1 rfl) rfl cY HB.out) hm ?_
       go_simp
       refine aT 8 (v:=.pointer (some ⟨g13,2,none⟩)) rfl (by kernel_rfl) rfl (fun W _=>by go_simp) hm ?_
       go_simp
       refine aT 9 (v:=.int .i64 (ic:Int)) rfl (by kernel_rfl) rfl (fun W hW=>bQ 2 (.int .i64 (ic:Int)) (Mem.get hW 0 rfl) rfl dF rfl) hm ?_
       go_simp
       refine aT 10 (v:=.pointer (some ⟨g11,ic,none⟩)) rfl (by kernel_rfl) rfl (fun W _=>by go_simp) hm ?_
       go_simp
       refine aT 11 (v:=.int .u32 xc) rfl (by kernel_rfl) rfl (fun W hW=>bQ ic (.int .u32 xc) (Mem.get hW 1 rfl) rfl cY HC.out) hm ?_
       go_simp
       refine aT 12 (v:=.pointer (some ⟨g13,3,none⟩)) rfl (by kernel_rfl) rfl (fun W _=>by go_simp) hm ?_
       go_simp
       refine aT 13 (v:=.int .i64 (id:Int)) rfl (by kernel_rfl) rfl (fun W hW=>bQ 3 (.int .i64 (id:Int)) (Mem.get hW 0 rfl) rfl dF rfl) hm ?_
       go_simp
       refine aT 14 (v:=.pointer (some ⟨g11,id,none⟩)) rfl (by kernel_rfl) rfl (fun W _=>by go_simp) hm ?_
       go_simp
       refine aT 15 (v:=.int .u32 xd) rfl (by kernel_rfl) rfl (fun W hW=>bQ id (.int .u32 xd) (Mem.get hW 1 rfl) rfl cY HD.out) hm ?_
       go_simp
       refine aP 16 (by kernel_rfl) rfl rfl ?_
       intro K hK
       go_wp2_with (go_at_call 105;refine (kd _ _ _ _ ya yb yc yd HY.out _).mono ?_;rintro e w8 ⟨rfl,hw⟩;replace hw:=hw.symm;subst hw)
       refine hK _ _ hm ?_
       clear hK K
       refine aT 17 (v:=.tuple #[.int .u32 ya,.int .u32 yb,.int .u32 yc,.int .u32 yd]) rfl (by kernel_rfl) rfl (fun W _=>by go_simp) hm ?_
       go_simp
       refine aT 18 (v:=.int .u32 ya) rfl (by kernel_rfl) rfl (fun W _=>by go_simp) hm ?_
       go_simp
       refine aT 19 (v:=.int .u32 yb) rfl (by kernel_rfl) rfl (fun W _=>by go_simp) hm ?_
       go_simp
       refine aT 20 (v:=.int .u32 yc) rfl (by kernel_rfl) rfl (fun W _=>by go_simp) hm ?_
       go_simp
       refine aT 21 (v:=.int .u32 yd) rfl (by kernel_rfl) rfl (fun W _=>by go_simp) hm ?_
       go_simp
       refine aT 22 (v:=.int .u32 ya) rfl (by kernel_rfl) rfl (fun W _=>by go_simp) hm ?_
       go_simp
       refine aT 23 (v:=.int .u32 yb) rfl (by kernel_rfl) rfl (fun W _=>by go_simp) hm ?_
       go_simp
       refine aT 24 (v:=.int .u32 yc) rfl (by kernel_rfl) rfl (fun W _=>by go_simp) hm ?_
       go_simp
       refine aT 25 (v:=.int .u32 yd) rfl (by kernel_rfl) rfl (fun W _=>by go_simp) hm ?_
       go_simp
       refine wpAnyH_done (by kernel_rfl) ?_ _
       simp only [endsIn]
       go_wp2_with (first
        | ((with_reducible refine ab (some 96) (.load 3 (.tmp 95)) ?_);go_must (refine aK 0 0 (.int .i64 (ia:Int)) hm rfl rfl dF rfl ?_))
        | ((with_reducible refine ab none (.store 49 (.tmp 98) (.tmp 97)) ?_);go_must (refine aD 1 ia (.int .u32 ya) hm rfl rfl rfl bW (by rw [HLN.out];exact ha) rfl rfl ?_);clear hm;intro u0 hm)
        | ((with_reducible refine ab (some 100) (.load 3 (.tmp 99)) ?_);go_must (refine aK 0 1 (.int .i64 (ib:Int)) hm rfl rfl dF rfl ?_))
        | ((with_reducible refine ab none (.store 49 (.tmp 102) (.tmp 101)) ?_);go_must (refine aD 1 ib (.int .u32 yb) hm rfl rfl rfl bW (by rw [List.length_set,HLN.out];exact hb) rfl rfl ?_);clear hm;intro u1 hm)
        | ((with_reducible refine ab (some 104) (.load 3 (.tmp 103)) ?_);go_must (refine aK 0 2 (.int .i64 (ic:Int)) hm rfl rfl dF rfl ?_))
        | ((with_reducible refine ab none (.store 49 (.tmp 106) (.tmp 105)) ?_);go_must (refine aD 1 ic (.int .u32 yc) hm rfl rfl rfl bW (by rw [List.length_set,List.length_set,HLN.out];exact hc) rfl rfl ?_);clear hm;intro u2 hm)
        | ((with_reducible refine ab (some 108) (.load 3 (.tmp 107)) ?_);go_must (refine aK 0 3 (.int .i64 (id:Int)) hm rfl rfl dF rfl ?_))
        | ((with_reducible refine ab none (.store 49 (.tmp 110) (.tmp 109)) ?_);go_must (refine aD 1 id (.int .u32 yd) hm rfl rfl rfl bW (by rw [List.length_set,List.length_set,List.length_set,HLN.out];exact hd) rfl rfl ?_);clear hm;intro u3 hm))

       have hn:Mem w [] u3 [(g11,u32s (qrounds fs (r+1)),160),(g10,i64s qFlat,163),(g7,u32s fs,160),(g6,u8s (List.replicate 64 0),76),(g4,u8s ns,97),(g3,u8s ks,39)]:=by
        have h2:=hm.tail
        simp only [List.set_cons_zero,HST.out] at h2
        exact h2
       clear hm
       go_roundw
       case rel=>exact ⟨r+1,by omega,by go_num,hn⟩
       case measure=>simp [intOf];omega
      ·have hr80:r=80:=by omega
       subst hr80
       rw [HVE.out ()] at hm
       go_wp2_with (first
        | ((with_reducible refine ab (some 18) (.alloc 76) ?_);refine af _ cn hm ?_;clear hm;intro w15 g18 hm))

       try rw [show ((80:Nat):Int)=80 from rfl]
       go_loopw [19] (fun vi wr=>∃i:Nat,i≤64∧vi=.int .i64 i∧Mem w [] wr [(g18,u8s (bRow S i),76),(g11,u32s vs,160),(g10,i64s qFlat,163),(g7,u32s fs,160),(g6,u8s (List.replicate 64 0),76),(g4,u8s ns,97),(g3,u8s ks,39)]) (fun vi _=>64 - (intOf vi).toNat)
       case atStart=>exact ⟨0,by omega,rfl,hm⟩
       case round =>
        clear hm
        obtain ⟨i,hi,rfl,hm⟩:=hrel
        by_cases hlt:i<64
        ·have hii:(i:Int)<64:=by omega
         obtain ⟨q,hq⟩:∃q,q=i / 4:=⟨_,rfl⟩
         obtain ⟨e,he⟩:∃e,e=i % 4:=⟨_,rfl⟩
         have HIE:Hid (i=4 * q+e):=by show _=_;omega
         have hq16:q<16:=by omega
         have hqi:(q:Int)<16:=by omega
         have he4:e<4:=by omega
         have hdv:(i:Int).tdiv 4=(q:Int):=by rw [Int.tdiv_eq_ediv_of_nonneg (by omega)];omega
         clear hq he
         obtain ⟨V,hV⟩:∃x,x=vs.getD q 0:=⟨_,rfl⟩
         obtain ⟨U,hU⟩:∃x,x=fs.getD q 0:=⟨_,rfl⟩
         obtain ⟨x,hx⟩:∃x,x=(V+U) % 4294967296:=⟨_,rfl⟩
         have HVC:Hid ((u32s vs)[q]?=some (.int .u32 V)):=by rw [hV];exact aF _ _ (by rw [HV.out];exact hq16)
         have HUC:Hid ((u32s fs)[q]?=some (.int .u32 U)):=by rw [hU];exact aF _ _ (by rw [HF.out];exact hq16)
         have HSX:Hid (x=S.getD q 0):=by show _=_;rw [HSG0.out q hq16,hx,hV,hU]
         have HX:Hid ((V+U) % 4294967296=x):=hx.symm
         have HLN:Hid (i<(u8s (bRow S i)).length):=by show _<_;rw [aa,HBW.out i hi];exact hlt
         clear hV hU hx
         go_wp2_with fail
         refine ax ?_
         refine az (T:=fun W=>Mem w [] W [(g18,u8s (bRow S i),76),(g11,u32s vs,160),(g10,i64s qFlat,163),(g7,u32s fs,160),(g6,u8s (List.replicate 64 0),76),(g4,u8s ns,97),(g3,u8s ks,39)]) (by kernel_rfl) hm ?_
         clear hm
         intro w16 hm
         refine aT 0 (v:=.int .i64 (i:Int)) rfl (by kernel_rfl) rfl (fun W _=>by go_simp) hm ?_
         go_simp
         refine aT 1 (v:=.int .i64 (q:Int)) rfl (by kernel_rfl) rfl (fun W _=>by go_simp;exact wrapi _ (by omega) (by omega)) hm ?_
         go_simp
         refine aT 2 (v:=.pointer (some ⟨g11,q,none⟩)) rfl (by kernel_rfl) rfl (fun W _=>by go_simp) hm ?_
         go_simp
         refine aT 3 (v:=.int .u32 V) rfl (by kernel_rfl) rfl (fun W hW=>bQ q (.int .u32 V) (Mem.get hW 1 rfl) rfl cY HVC.out) hm ?_
         go_simp
         refine aT 4 (v:=.int .i64 (i:Int)) rfl (by kernel_rfl) rfl (fun W _=>by go_simp) hm ?_
         go_simp
         refine aT 5 (v:=.int .i64 (q:Int)) rfl (by kernel_rfl) rfl (fun W _=>by go_simp;exact wrapi _ (by omega) (by omega)) hm ?_
         go_simp
         refine aT 6 (v:=.pointer (some ⟨g7,q,none⟩)) rfl (by kernel_rfl) rfl (fun W _=>by go_simp) hm ?_
         go_simp
         refine aT 7 (v:=.int .u32 U) rfl (by kernel_rfl) rfl (fun W hW=>bQ q (.int .u32 U) (Mem.get hW 3 rfl) rfl cY HUC.out) hm ?_
         go_simp
         refine aT 8 (v:=.int .u32 x) rfl (by kernel_rfl) rfl (fun W _=>by rw [←HX.out];go_simp;try exact wrapm _) hm ?_
         go_simp
         refine aT 9 (v:=.int .u32 x) rfl (by kernel_rfl) rfl (fun W _=>by go_simp) hm ?_
         go_simp
         refine wpAnyH_done (by kernel_rfl) ?_ _
         simp only [endsIn]
         have hcase:e=0∨e=1∨e=2∨e=3:=by omega
         rcases hcase with rfl|rfl|rfl|rfl
         ·have hmd:(i:Int).tmod 4=0:=by have:=HIE.out;rw [Int.tmod_eq_emod_of_nonneg (by omega)];omega
          have HST:Hid ((u8s (bRow S i)).set i (.int .u8 (x % 256))=u8s (bRow S (i+1))):=by
           show _=_
           rw [bf,HBS.out i (x % 256) hlt (by have h4:=asL_at S q 0 (by rw [HSL.out];exact hq16) (by omega);rw [←HIE.out,←HSX.out] at h4;rw [h4];rfl)]
          go_wp2_with (first
           | ((with_reducible refine ab none (.store 5 (.tmp 132) (.tmp 131)) ?_);go_must (refine aD 0 i (.int .u8 (x % 256)) hm rfl rfl rfl aC HLN.out rfl rfl ?_);clear hm;intro w14 hm))
          rw [List.set_cons_zero,HST.out] at hm
          go_roundw
          case rel=>exact ⟨i+1,by omega,by go_num,hm⟩
          case measure=>simp [intOf];omega
         ·have hmd:(i:Int).tmod 4=1:=by have:=HIE.out;rw [Int.tmod_eq_emod_of_nonneg (by omega)];omega
          have HST:Hid ((u8s (bRow S i)).set i (.int .u8 (x / 256 % 256))=u8s (bRow S (i+1))):=by
           show _=_
           rw [bf,HBS.out i (x / 256 % 256) hlt (by have h4:=asL_at S q 1 (by rw [HSL.out];exact hq16) (by omega);rw [←HIE.out,←HSX.out] at h4;rw [h4];rfl)]
          go_wp2_with (first
           | ((with_reducible refine ab none (.store 5 (.tmp 132) (.tmp 131)) ?_);go_must (refine aD 0 i (.int .u8 (x / 256 % 256)) hm rfl rfl rfl aC HLN.out rfl rfl ?_);clear hm;intro w14 hm))
          rw [List.set_cons_zero,HST.out] at hm
          go_roundw
          case rel=>exact ⟨i+1,by omega,by go_num,hm⟩
          case measure=>simp [intOf];omega
         ·have hmd:(i:Int).tmod 4=2:=by have:=HIE.out;rw [Int.tmod_eq_emod_of_nonneg (by omega)];omega
          have HST:Hid ((u8s (bRow S i)).set i (.int .u8 (x / 65536 % 256))=u8s (bRow S (i+1))):=by
           show _=_
           rw [bf,HBS.out i (x / 65536 % 256) hlt (by have h4:=asL_at S q 2 (by rw [HSL.out];exact hq16) (by omega);rw [←HIE.out,←HSX.out] at h4;rw [h4];rfl)]
          go_wp2_with (first
           | ((with_reducible refine ab none (.store 5 (.tmp 132) (.tmp 131)) ?_);go_must (refine aD 0 i (.int .u8 (x / 65536 % 256)) hm rfl rfl rfl aC HLN.out rfl rfl ?_);clear hm;intro w14 hm))
          rw [List.set_cons_zero,HST.out] at hm
          go_roundw
          case rel=>exact ⟨i+1,by omega,by go_num,hm⟩
          case measure=>simp [intOf];omega
         ·have hmd:(i:Int).tmod 4=3:=by have:=HIE.out;rw [Int.tmod_eq_emod_of_nonneg (by omega)];omega
          have HST:Hid ((u8s (bRow S i)).set i (.int .u8 (x / 16777216 % 256))=u8s (bRow S (i+1))):=by
           show _=_
           rw [bf,HBS.out i (x / 16777216 % 256) hlt (by have h4:=asL_at S q 3 (by rw [HSL.out];exact hq16) (by omega);rw [←HIE.out,←HSX.out] at h4;rw [h4];rfl)]
          go_wp2_with (first
           | ((with_reducible refine ab none (.store 5 (.tmp 132) (.tmp 131)) ?_);go_must (refine aD 0 i (.int .u8 (x / 16777216 % 256)) hm rfl rfl rfl aC HLN.out rfl rfl ?_);clear hm;intro w14 hm))
          rw [List.set_cons_zero,HST.out] at hm
          go_roundw
          case rel=>exact ⟨i+1,by omega,by go_num,hm⟩
          case measure=>simp [intOf];omega
        ·have hi64:i=64:=by omega
         subst hi64
         rw [bRow_full S HSL.out,HBE.out ()] at hm
         have HBL:Hid ((u8s (blockOf ks ns c)).length=64):=by show _=_;rw [aa,cD]
         go_wp2_with (first
          | ((with_reducible refine ab (some 133) (.load 76 (.tmp 18)) ?_);refine aw 0 hm rfl rfl _ cz rfl 64 bi (HBL.out) ?_)
          | ((with_reducible refine ab none (.store 76 (.tmp 6) (.tmp 133)) ?_);refine ah 4 (u8s (blockOf ks ns c)) hm rfl rfl rfl 64 bi (by simp [aa]) (HBL.out) (aj _) ?_;clear hm;intro w17 hm))
         exact aA 4 hm rfl Tryz.results78 rfl _ cz rfl 64 bi HBL.out rfl ⟨rfl,hm.below⟩
end Go.Proofs.YtblnljajipbajaaGreatDoor
