import Derived.Test.YtnllomcajijbjaaGreatDoorQp04
import Derived.Test.YtnllomcajijbjaaGreatDoorQp05
set_option maxRecDepth 100000
set_option maxHeartbeats 4000000
namespace Go.Proofs.YtnllomcajijbjaaGreatDoor
open Go Go.RowKit
theorem info_w16:(Tryz.prog.info? 159).map (fun i=>(i.zero,i.size))=some (some (.agg (u32s (List.replicate 16 0)).toArray),16):=by kernel_rfl
theorem ft:∀w,(zeroValue 159).run Tryz.prog w=.ok (.agg (u32s (List.replicate 16 0)).toArray) w:=(zero_of_info info_w16).1
theorem dB:(Tryz.prog.info? 159).map (·.size)=some 16:=(zero_of_info info_w16).2
theorem eS:Tryz.prog.underlying 159=some (.array 16 72):=Tryz.underlying159
theorem info_nce:(Tryz.prog.info? 96).map (fun i=>(i.zero,i.size))=some (some (.agg (u8s (List.replicate 12 0)).toArray),12):=by kernel_rfl
theorem zero_nce:∀w,(zeroValue 96).run Tryz.prog w=.ok (.agg (u8s (List.replicate 12 0)).toArray) w:=(zero_of_info info_nce).1
theorem dm:(Tryz.prog.info? 96).map (·.size)=some 12:=(zero_of_info info_nce).2
theorem dn:Tryz.prog.underlying 96=some (.array 12 5):=Tryz.underlying96
theorem info_i4:(Tryz.prog.info? 177).map (fun i=>(i.zero,i.size))=some (some (.agg (i64s (List.replicate 4 0)).toArray),4):=by kernel_rfl
theorem zero_i4:∀w,(zeroValue 177).run Tryz.prog w=.ok (.agg (i64s (List.replicate 4 0)).toArray) w:=(zero_of_info info_i4).1
theorem sz_i4:(Tryz.prog.info? 177).map (·.size)=some 4:=(zero_of_info info_i4).2
theorem un_i4:Tryz.prog.underlying 177=some (.array 4 3):=Tryz.underlying177
theorem info_i84:(Tryz.prog.info? 178).map (fun i=>(i.zero,i.size))=some (some (.agg (i64s (List.replicate 32 0)).toArray),32):=by kernel_rfl
theorem sz_i84:(Tryz.prog.info? 178).map (·.size)=some 32:=(zero_of_info info_i84).2
theorem un_i84:Tryz.prog.underlying 178=some (.array 8 177):=Tryz.underlying178
theorem ag_i4:∀w,(isAgg 177).run Tryz.prog w=.ok true w:=by intro w;simp [go_sem]
theorem rotl_any (x n:Int) (w:World) (hn0:0≤n) (hn1:n<32) :
  Calls Tryz.prog 116 #[.int .u32 x,.int .i64 n] w fun e w'=>e=.returned (.int .u32 (rotl x n))∧w'=w:=by
 have hn:n % 32=n:=by omega
 go_enter Tryz.func116,Tryz.ntmps116
 go_wp2
 go_ret
 exact ⟨rfl,rfl⟩
def quartV (a b c d:Int):Value:=.tuple #[.int .u32 (quart a b c d).1,.int .u32 (quart a b c d).2.1,.int .u32 (quart a b c d).2.2.1,.int .u32 (quart a b c d).2.2.2]
theorem results_tmp4 {fn:Func} {t u v x:Tmp} (h:fn.results=#[.tmp t,.tmp u,.tmp v,.tmp x]) (tmps:Array Value) (P:Program) (w:World) :
  (results fn tmps).run P w=.ok (.tuple #[tmps.getD t undef,tmps.getD u undef,tmps.getD v undef,tmps.getD x undef]) w:=by
 simp [results,h]
theorem quarter_any (a b c d:Int) (w:World) :
  Calls Tryz.prog 109 #[.int .u32 a,.int .u32 b,.int .u32 c,.int .u32 d] w fun e w'=>e=.returned (quartV a b c d)∧w'=w:=by
 go_enter Tryz.func109,Tryz.ntmps109
 go_wp2_with (go_at_call 116;refine (rotl_any _ _ _ (by omega) (by omega)).mono ?_;rintro e w' ⟨rfl,rfl⟩)
 exact bodyPost_ret (results_tmp4 Tryz.results109 _ _ _) rfl ⟨rfl,rfl⟩
theorem jJ (x:Int) (w:World) :
  Calls Tryz.prog 110 #[.int .u32 x] w fun e w'=>e=.returned (.agg (u8s (lfour x)).toArray)∧Below w.heap.size w w':=by
 go_enter Tryz.func110,Tryz.ntmps110
 go_wp2
 refine bodyPost_ret (v:=.agg (u8s (lfour x)).toArray) (by simp [results,Tryz.results110,go_sem,u8s,lfour]) rfl ⟨rfl,?_⟩
 exact (Below.refl _ _).alloc (Nat.le_refl _) _
theorem iS (b off n cap:Nat) (cs:List Int) (hcs:cs.length=4) (hn:4≤n) (w:World) (hc:Seg w b off cs) :
  Calls Tryz.prog 118 #[.slice (some ⟨b,off,none⟩) n cap] w fun e w'=>e=.returned (.agg (u8s cs).toArray)∧Below w.heap.size w w':=by
 have hm:=Mem.start w
 go_enter Tryz.func118,Tryz.ntmps118
 go_wp2_with (first
  | ((with_reducible refine aa (some 2) (.alloc 181) ?_);refine aj _ eg hm ?_;clear hm;intro w1 g1 hm)
  | ((with_reducible refine aa (some 3) (.alloc 181) ?_);refine aj _ eg hm ?_;clear hm;intro w2 g2 hm)
  | ((with_reducible refine aa (some 6) (.call {callee:=.builtin .copy,args:=#[.tmp 4,.tmp 5],argTypes:=#[33,33]}) ?_);refine cU 0 0 4 4 ⟨b,off,none⟩ n cap (u8s cs) 4 (u8s cs) hm rfl rfl rfl _ aU be (by rw [ab,hcs]) (Nat.min_eq_right hn).symm (hc.mem hm (by simp)).src (by simp [ab]) (aq _) (eU _ _ (by simp [ab,hcs])) ?_;clear hm;intro w3 hm)
  | ((with_reducible refine aa (some 7) (.load 181 (.tmp 3)) ?_);refine ay 0 hm rfl rfl _ un_b4 rfl 4 fT (by simp [ab,hcs]) ?_)
  | ((with_reducible refine aa none (.store 181 (.tmp 2) (.tmp 7)) ?_);refine ap 1 (u8s cs) hm rfl rfl rfl 4 fT (by simp [ab]) (by simp [ab,hcs]) (aq _) ?_;clear hm;intro w4 hm))
 exact aJ 1 hm rfl Tryz.results118 rfl _ un_b4 rfl 4 fT (by simp [ab,hcs]) rfl ⟨rfl,hm.below⟩
theorem little_any (b off n cap:Nat) (c0 c1 c2 c3:Int) (hn:4≤n) (w:World) (hc:Seg w b off [c0,c1,c2,c3]) (h0:0≤c0∧c0<256) (h1:0≤c1∧c1<256) (h2:0≤c2∧c2<256) (h3:0≤c3∧c3<256) :
  Calls Tryz.prog 115 #[.slice (some ⟨b,off,none⟩) n cap] w fun e w'=>e=.returned (.int .u32 (lit4 c0 c1 c2 c3))∧Below w.heap.size w w':=by
 obtain ⟨h00,h01⟩:=h0
 obtain ⟨h10,h11⟩:=h1
 obtain ⟨h20,h21⟩:=h2
 obtain ⟨h30,h31⟩:=h3
 have hm:=Mem.start w
 go_enter Tryz.func115,Tryz.ntmps115
 go_wp2_with (first
  | (go_at_call 118;refine (iS b off n cap [c0,c1,c2,c3] rfl hn _ (hc.mem hm (by simp))).mono ?_;rintro e w1 ⟨rfl,hb⟩;replace hm:=hm.call hb;clear hb)
  | ((with_reducible refine aa (some 3) (.alloc 181) ?_);refine aj _ eg hm ?_;clear hm;intro w2 g2 hm)
  | ((with_reducible refine aa none (.store 181 (.tmp 3) (.tmp 5)) ?_);refine ap 0 (u8s [c0,c1,c2,c3]) hm rfl rfl rfl 4 fT (by simp [ab]) (rfl) (aq _) ?_;clear hm;intro w3 hm)
  | ((with_reducible refine aa (some 7) (.load 5 (.tmp 6)) ?_);refine bi 0 3 (.int .u8 c3) hm rfl rfl fj (rfl) ?_)
  | ((with_reducible refine aa (some 11) (.load 5 (.tmp 10)) ?_);refine bi 0 2 (.int .u8 c2) hm rfl rfl fj (rfl) ?_)
  | ((with_reducible refine aa (some 16) (.load 5 (.tmp 15)) ?_);refine bi 0 1 (.int .u8 c1) hm rfl rfl fj (rfl) ?_)
  | ((with_reducible refine aa (some 21) (.load 5 (.tmp 20)) ?_);refine bi 0 0 (.int .u8 c0) hm rfl rfl fj (rfl) ?_))
 go_ret
 exact ⟨rfl,hm.below⟩
def putL (l:List Int) (off:Nat) (bs:List Int) (n:Nat):List Int:=splice l off (litWords bs n)
theorem putL_zero (l:List Int) (off:Nat) (bs:List Int):putL l off bs 0=l:=by simp [putL,splice,litWords]
theorem ie (l:List Int) (off:Nat) (bs:List Int) (n:Nat) (h:off+n≤l.length):(putL l off bs n).length=l.length:=by simp [putL,splice,bU];omega
theorem putL_step (l:List Int) (off:Nat) (bs:List Int) (n:Nat) (h:off+n<l.length):(putL l off bs n).set (off+n) (litAt bs n)=putL l off bs (n+1):=by
 have h1:(l.take off).length=off:=by simp;omega
 unfold putL splice
 rw [bU,bU,List.set_append_right _ _ (by omega),h1,Nat.add_sub_cancel_left,List.set_append_right _ _ (by rw [bU];omega),bU,Nat.sub_self,
  List.drop_eq_getElem_cons h,List.set_cons_zero,litWords,←Nat.add_assoc]
 simp
theorem seg_four {w:World} {b o:Nat} {bs:List Int} (hs:Seg w b o bs) (k:Nat) (hk:4 * k+4≤bs.length) :
  Seg w b (o+4 * k) [bs.getD (4 * k) 0,bs.getD (4 * k+1) 0,bs.getD (4 * k+2) 0,bs.getD (4 * k+3) 0]:=by
 intro j hj
 have hj4:j<4:=by simpa using hj
 have hq:=hs (4 * k+j) (by omega)
 rw [Nat.add_assoc,hq]
 match j,hj4 with
 | 0,_=>rfl
 | 1,_=>rfl
 | 2,_=>rfl
 | 3,_=>rfl
theorem gB (g off n cap b o m cp:Nat) (l bs:List Int) (t:TypeId) (hl:off+n≤l.length) (hm4:4 * n≤bs.length) (hmb:m=bs.length) (hmc:m≤cp) (hml:m≤1000000) (hbb:Bytes bs) (hne:b≠g) (w:World) (hr:Row w g (u32s l) t) (hs:Seg w b o bs) :
  Calls Tryz.prog 108 #[.slice (some ⟨g,off,none⟩) n cap,.slice (some ⟨b,o,none⟩) m cp] w fun e w'=>e=.returned (.tuple #[])∧Row w' g (u32s (putL l off bs n)) t∧Upd g w w':=by
 subst hmb
 have hm:=Mem.enter hr
 have HS:Hid (Seg w b o bs):=hs
 have HB:Hid _:=hbb
 clear hr hs hbb
 go_enter Tryz.func108,Tryz.ntmps108
 go_wp2_with fail
 go_loopw [7] (fun vi wr=>∃k:Nat,k≤n∧vi=.int .i64 k∧Mem w [g] wr [(g,u32s (putL l off bs k),t)]) (fun vi _=>n - (intOf vi).toNat)
 case atStart=>exact ⟨0,by omega,rfl,by rw [putL_zero];exact hm⟩
 case round =>
  clear hm
  obtain ⟨k,hk,rfl,hm⟩:=hrel
  by_cases hlt:k<n
  ·have hki:(k:Int)<(n:Int):=by omega
   have HQ:Hid _:=And.intro (Bytes.get HB.out (4 * k)) (And.intro (Bytes.get HB.out (4 * k+1)) (And.intro (Bytes.get HB.out (4 * k+2)) (Bytes.get HB.out (4 * k+3))))
   have HSG:Hid (Seg wr b (o+4 * k) [bs.getD (4 * k) 0,bs.getD (4 * k+1) 0,bs.getD (4 * k+2) 0,bs.getD (4 * k+3) 0]):=seg_four (HS.out.mem hm (by simpa using hne)) k (by omega)
   have HST:Hid ((u32s (putL l off bs k)).set (off+k) (.int .u32 (litAt bs k))=u32s (putL l off bs (k+1))):=by
    show _=_
    rw [dl,putL_step l off bs k (by omega)]
   have HLN:Hid (off+k<(u32s (putL l off bs k)).length):=by show _<_;rw [ar,ie _ _ _ _ (by omega)];omega
   have e4:IntKind.i64.wrap (4 * (k:Int))=((4 * k:Nat):Int):=by rw [show 4 * (k:Int)=((4 * k:Nat):Int) by omega,jj _ (by omega)]
   have HE:Hid _:=e4
   clear e4
   go_wp2_with (first
    | ((with_reducible refine aa (some 15) (.slice 33 (.tmp 12) (some (.tmp 14)) none none) ?_);go_must (refine wpl_slo2 aU be (4 * k) (by omega) (by omega) rfl rfl (by first|exact HE.out|omega) ?_))
    | (go_at_call 115;refine (little_any _ _ _ _ _ _ _ _ (by omega) _ (HSG.out) HQ.out.1 HQ.out.2.1 HQ.out.2.2.1 HQ.out.2.2.2).mono ?_;rintro e w5 ⟨rfl,hb⟩;replace hm:=hm.call hb;clear hb)
    | ((with_reducible refine aa none (.store 72 (.tmp 17) (.tmp 16)) ?_);go_must (refine bm 0 (off+k) (.int .u32 (litAt bs k)) hm rfl rfl rfl dr HLN.out rfl rfl ?_);clear hm;intro w6 hm))

   rw [List.set_cons_zero,HST.out] at hm
   go_roundw
   case rel=>exact ⟨k+1,by omega,by go_num,hm⟩
   case measure=>simp [intOf];omega
  ·have hkn:k=n:=by omega
   subst hkn
   have hni:¬(k:Int)<(k:Int):=by omega
   go_wp2_with fail
   go_end0
   exact ⟨rfl,hm.get 0 rfl,hm.toUpd⟩
end Go.Proofs.YtnllomcajijbjaaGreatDoor
namespace Go.Proofs.YtnllomcajijbjaaGreatDoor
open Go Go.RowKit
def startWs (c:Int):List Int:=[1634760805,857760878,2036477234,1797285236,0,0,0,0,0,0,0,0,c,0,0,0]
theorem first_put (ks ns:List Int) (c:Int):putL (putL (startWs c) 4 ks 8) 13 ns 3=firstOf ks ns c:=by
 simp [putL,splice,litWords,startWs,firstOf,headWs]
theorem built_start (c:Int):Tryz.prog.built 159 [(0,.int .u32 1634760805),(1,.int .u32 857760878),(2,.int .u32 2036477234),(3,.int .u32 1797285236),(12,.int .u32 c)]=some (u32s (startWs c)).toArray:=by kernel_rfl
theorem swords_any (ks ns:List Int) (c:Int) (hkl:ks.length=32) (hnl:ns.length=12) (hkb:Bytes ks) (hnb:Bytes ns) (w:World) :
  Calls Tryz.prog 99 #[.agg (u8s ks).toArray,.agg (u8s ns).toArray,.int .u32 c] w fun e w'=>e=.returned (.agg (u32s (firstOf ks ns c)).toArray)∧Below w.heap.size w w':=by
 have hm:=Mem.start w
 have HKB:Hid _:=hkb
 have HNB:Hid _:=hnb
 have HKL:Hid _:=hkl
 have HNL:Hid _:=hnl
 have HFP:Hid _:=first_put ks ns c
 have HFL:Hid ((u32s (firstOf ks ns c)).length=16):=by show _=_;rw [ar,d6]
 have HL1:Hid ((putL (startWs c) 4 ks 8).length=16):=ie _ _ _ _ (by simp [startWs])
 clear hkb hnb hkl hnl
 go_enter Tryz.func99,Tryz.ntmps99
 go_wp2_with (first
  | ((with_reducible refine aa (some 3) (.box 39 (.tmp 0)) ?_);refine aB (u8s ks) rfl hm ?_;clear hm;intro w1 g3 hm)
  | ((with_reducible refine aa (some 4) (.box 96 (.tmp 1)) ?_);refine aB (u8s ns) rfl hm ?_;clear hm;intro w2 g4 hm)
  | ((with_reducible refine aa (some 6) (.alloc 159) ?_);refine aj _ ft hm ?_;clear hm;intro w3 g6 hm)
  | ((with_reducible refine aa (some 9) (.build 159 #[(0,.const (.int .u32 1634760805)),(1,.const (.int .u32 857760878)),(2,.const (.int .u32 2036477234)),(3,.const (.int .u32 1797285236)),(12,.tmp 8)]) ?_);go_must (refine aM (u32s (startWs c)) _ rfl (built_start c) ?_))
  | ((with_reducible refine aa (some 7) (.alloc 159) ?_);refine aj _ ft hm ?_;clear hm;intro w4 g7 hm)
  | ((with_reducible refine aa none (.store 159 (.tmp 7) (.tmp 9)) ?_);refine ap 0 (u32s (startWs c)) hm rfl rfl rfl 16 dB (by simp [ar]) (rfl) (bk _) ?_;clear hm;intro w5 hm))

 refine cG 2 (by kernel_rfl) (by kernel_rfl) hm ?_
 clear hm
 intro w6 hm
 simp only [List.take_succ_cons,List.take_zero,List.drop_succ_cons,List.drop_zero]
 refine wps_sla3 16 eS dr 4 8 12 (by omega) (by omega) (by omega) rfl rfl rfl rfl ?_
 still_step
 refine wpStill_nil ?_
 go_wp2_with (first
  | (go_at_call 108;refine (gB _ _ _ _ _ _ _ _ (startWs c) ks _ (by simp [startWs]) (by rw [HKL.out];omega) HKL.out.symm (Nat.le_refl _) (by omega) HKB.out (fun h=>hm.ne 2 rfl h.symm) _ (hm.get 0 rfl) (Seg.row (hm.get 3 rfl))).mono ?_;rintro e w7 ⟨rfl,hr,hu⟩;replace hm:=hm.upd 0 rfl hu hr;clear hr hu))

 refine cG 2 (by kernel_rfl) (by kernel_rfl) hm ?_
 clear hm
 intro w8 hm
 simp only [List.take_succ_cons,List.take_zero,List.drop_succ_cons,List.drop_zero]
 still_step
 still_step
 refine wpStill_nil ?_
 go_wp2_with (first
  | (go_at_call 108;refine (gB _ _ _ _ _ _ _ _ (putL (startWs c) 4 ks 8) ns _ (by rw [HL1.out];omega) (by rw [HNL.out];omega) HNL.out.symm (Nat.le_refl _) (by omega) HNB.out (fun h=>hm.ne 1 rfl h.symm) _ (hm.get 0 rfl) (Seg.row (hm.get 2 rfl))).mono ?_;rintro e w9 ⟨rfl,hr,hu⟩;rw [HFP.out] at hr;replace hm:=hm.upd 0 rfl hu hr;clear hr hu)
  | ((with_reducible refine aa (some 16) (.load 159 (.tmp 7)) ?_);refine ay 0 hm rfl rfl _ eS rfl 16 dB (HFL.out) ?_)
  | ((with_reducible refine aa none (.store 159 (.tmp 6) (.tmp 16)) ?_);refine ap 1 (u32s (firstOf ks ns c)) hm rfl rfl rfl 16 dB (by simp [ar]) (HFL.out) (bk _) ?_;clear hm;intro w10 hm))
 exact aJ 1 hm rfl Tryz.results99 rfl _ eS rfl 16 dB HFL.out rfl ⟨rfl,hm.below⟩
end Go.Proofs.YtnllomcajijbjaaGreatDoor
namespace Go.Proofs.YtnllomcajijbjaaGreatDoor
open Go Go.RowKit
def QTab (w:World):Prop:=∀j,j<32→w.cell? ⟨0,j,none⟩=some (.int .i64 (qFlat.getD j 0))
theorem QTab.lt {w:World} (h:QTab w):0<w.heap.size:=block_lt_of_cell (h 0 (by omega))
theorem QTab.mem {w0 w:World} {S:List Nat} {rows:List (Nat×List Value×TypeId)} (h:QTab w0) (hm:Mem w0 S w rows) (hS:0 ∉ S):QTab w:=by
 intro j hj
 rw [hm.old (p:=⟨0,j,none⟩) h.lt hS]
 exact h j hj
theorem QTab.cells {w:World} (h:QTab w):∀j v,(i64s qFlat)[j]?=some v→w.cell? ⟨0,0+j,none⟩=some v:=by
 intro j v hv
 have hj:j<32:=by
  rcases Nat.lt_or_ge j 32 with h'|h'
  ·exact h'
  ·rw [List.getElem?_eq_none (by rw [iq];exact h')] at hv;cases hv
 rw [i64s_get qFlat j hj] at hv
 rw [Nat.zero_add,h j hj,hv]
theorem quarter_at (a b c d ya yb yc yd:Int) (hq:quart a b c d=(ya,yb,yc,yd)) (w:World) :
  Calls Tryz.prog 109 #[.int .u32 a,.int .u32 b,.int .u32 c,.int .u32 d] w fun e w'=>e=.returned (.tuple #[.int .u32 ya,.int .u32 yb,.int .u32 yc,.int .u32 yd])∧w'=w:=by
 have h:=quarter_any a b c d w
 unfold quartV at h
 rw [hq] at h
 exact h
theorem qFlat_part:∀k:Fin 8,(qFlat.drop (k.val * 4)).take 4=[((qAt k.val 0:Nat):Int),((qAt k.val 1:Nat):Int),((qAt k.val 2:Nat):Int),((qAt k.val 3:Nat):Int)]:=by decide +kernel
theorem qround_step (ws:List Int) (n k:Nat) (hk:n % 8=k) (ya yb yc yd:Int) (hq:quart ((qrounds ws n).getD (qAt k 0) 0) ((qrounds ws n).getD (qAt k 1) 0) ((qrounds ws n).getD (qAt k 2) 0) ((qrounds ws n).getD (qAt k 3) 0)=(ya,yb,yc,yd)) :
  ((((u32s (qrounds ws n)).set (qAt k 0) (.int .u32 ya)).set (qAt k 1) (.int .u32 yb)).set (qAt k 2) (.int .u32 yc)).set (qAt k 3) (.int .u32 yd)=u32s (qrounds ws (n+1)):=by
 rw [dl,dl,dl,dl,qrounds,hk,qset,hq]
theorem mixed16_any (ws:List Int) (hws:ws.length=16) (w:World) (ht:QTab w) :
  Calls Tryz.prog 100 #[.agg (u32s ws).toArray] w fun e w'=>e=.returned (.agg (u32s (qrounds ws 80)).toArray)∧Below w.heap.size w w':=by
 have hm:=Mem.start w
 have HT:Hid _:=ht
 have HW:Hid _:=hws
 clear ht hws
 go_enter Tryz.func100,Tryz.ntmps100
 go_wp2_with (first
  | ((with_reducible refine aa (some 1) (.box 159 (.tmp 0)) ?_);refine aB (u32s ws) rfl hm ?_;clear hm;intro w1 g1 hm)
  | ((with_reducible refine aa (some 2) (.alloc 159) ?_);refine aj _ ft hm ?_;clear hm;intro w2 g2 hm))

 go_loopw [9] (fun vi wr=>∃r:Nat,r≤10∧vi=.int .i64 r∧Mem w [] wr [(g2,u32s (List.replicate 16 0),159),(g1,u32s (qrounds ws (8 * r)),159)]) (fun vi _=>10 - (intOf vi).toNat)
 case atStart=>exact ⟨0,by omega,rfl,hm⟩
 case round =>
  clear hm
  obtain ⟨r,hr,rfl,hm⟩:=hrel
  by_cases hlt:r<10
  ·have hri:(r:Int)<10:=by omega
   go_wp2_with (first
    | ((with_reducible refine aa (some 11) (.load 178 (.global 0)) ?_);refine wpl_ldg (i64s qFlat) 0 rfl (QTab.cells (QTab.mem HT.out hm (by simp))) _ un_i84 rfl 32 sz_i84 rfl ?_))

   go_loopw [12] (fun vi wr=>∃k:Nat,k≤8∧vi=.int .i64 k∧Mem w [] wr [(g2,u32s (List.replicate 16 0),159),(g1,u32s (qrounds ws (8 * r+k)),159)]) (fun vi _=>8 - (intOf vi).toNat)
   case atStart=>exact ⟨0,by omega,rfl,hm⟩
   case round =>
    clear hm
    obtain ⟨k,hk,rfl,hm⟩:=hrel
    by_cases hk8:k<8
    ·have hki:(k:Int)<8:=by omega
     have hpart:=qFlat_part ⟨k,hk8⟩
     have hlt4:=qAt_lt ⟨k,hk8⟩
     have hq0:=hlt4 0
     have hq1:=hlt4 1
     have hq2:=hlt4 2
     have hq3:=hlt4 3
     obtain ⟨Y,hY⟩:∃Y,Y=quart ((qrounds ws (8 * r+k)).getD (qAt k 0) 0) ((qrounds ws (8 * r+k)).getD (qAt k 1) 0) ((qrounds ws (8 * r+k)).getD (qAt k 2) 0) ((qrounds ws (8 * r+k)).getD (qAt k 3) 0):=⟨_,rfl⟩
     obtain ⟨ya,yb,yc,yd⟩:=Y
     have hstep:=qround_step ws (8 * r+k) k (by omega) ya yb yc yd hY.symm
     have HLN:Hid ((u32s (qrounds ws (8 * r+k))).length=16):=by show _=_;rw [ar,b6,HW.out]
     obtain ⟨ia,hia⟩:∃i,i=qAt k 0:=⟨_,rfl⟩
     obtain ⟨ib,hib⟩:∃i,i=qAt k 1:=⟨_,rfl⟩
     obtain ⟨ic,hic⟩:∃i,i=qAt k 2:=⟨_,rfl⟩
     obtain ⟨id,hid⟩:∃i,i=qAt k 3:=⟨_,rfl⟩
     have ha:ia<16:=by rw [hia];exact hq0
     have hb:ib<16:=by rw [hib];exact hq1
     have hc:ic<16:=by rw [hic];exact hq2
     have hd:id<16:=by rw [hid];exact hq3
     simp only at hpart
     rw [←hia,←hib,←hic,←hid] at hY hstep hpart
     obtain ⟨xa,hxa⟩:∃x,x=(qrounds ws (8 * r+k)).getD ia 0:=⟨_,rfl⟩
     obtain ⟨xb,hxb⟩:∃x,x=(qrounds ws (8 * r+k)).getD ib 0:=⟨_,rfl⟩
     obtain ⟨xc,hxc⟩:∃x,x=(qrounds ws (8 * r+k)).getD ic 0:=⟨_,rfl⟩
     obtain ⟨xd,hxd⟩:∃x,x=(qrounds ws (8 * r+k)).getD id 0:=⟨_,rfl⟩
     rw [←hxa,←hxb,←hxc,←hxd] at hY
     have hlq:(qrounds ws (8 * r+k)).length=16:=by rw [b6,HW.out]
     have HA:Hid ((u32s (qrounds ws (8 * r+k)))[ia]?=some (.int .u32 xa)):=by rw [hxa];exact bQ _ _ (by omega)
     have HB:Hid ((u32s (qrounds ws (8 * r+k)))[ib]?=some (.int .u32 xb)):=by rw [hxb];exact bQ _ _ (by omega)
     have HC:Hid ((u32s (qrounds ws (8 * r+k)))[ic]?=some (.int .u32 xc)):=by rw [hxc];exact bQ _ _ (by omega)
     have HD:Hid ((u32s (qrounds ws (8 * r+k)))[id]?=some (.int .u32 xd)):=by rw [hxd];exact bQ _ _ (by omega)
     have HY:Hid (quart xa xb xc xd=(ya,yb,yc,yd)):=hY.symm
     have HST:Hid (((((u32s (qrounds ws (8 * r+k))).set ia (.int .u32 ya)).set ib (.int .u32 yb)).set ic (.int .u32 yc)).set id (.int .u32 yd)=u32s (qrounds ws (8 * r+(k+1)))):=hstep
     have HPT:Hid (((i64s qFlat).drop (k * 4)).take 4=i64s [(ia:Int),(ib:Int),(ic:Int),(id:Int)]):=by
      show _=_
      rw [←hpart]
      simp [i64s,List.map_take,List.map_drop]
     have hai:(ia:Int)<16:=by omega
     have hbi:(ib:Int)<16:=by omega
     have hci:(ic:Int)<16:=by omega
     have hdi:(id:Int)<16:=by omega
     clear hpart hlt4 hq0 hq1 hq2 hq3 hY hstep hia hib hic hid hxa hxb hxc hxd hlq
     go_wp2_with (first
      | ((with_reducible refine aa (some 14) (.index 178 (.tmp 11) (.tmp 12)) ?_);go_must (refine wpl_ixp 8 un_i84 4 sz_i4 ag_i4 (i64s qFlat) (i64s [(ia:Int),(ib:Int),(ic:Int),(id:Int)]) k hk8 rfl rfl rfl HPT.out ?_))
      | ((with_reducible refine aa (some 4) (.alloc 177) ?_);refine aj _ zero_i4 hm ?_;clear hm;intro w5 g4 hm)
      | ((with_reducible refine aa none (.store 177 (.tmp 4) (.tmp 14)) ?_);refine ap 0 (i64s [(ia:Int),(ib:Int),(ic:Int),(id:Int)]) hm rfl rfl rfl 4 sz_i4 (by simp [iq]) (rfl) (i64s_one _) ?_;clear hm;intro w6 hm))

     have c0:w6.cell? ⟨g4,0,none⟩=some (.int .i64 ia):=hm.cell 0 rfl 0
     have c1:w6.cell? ⟨g4,1,none⟩=some (.int .i64 ib):=hm.cell 0 rfl 1
     have c2:w6.cell? ⟨g4,2,none⟩=some (.int .i64 ic):=hm.cell 0 rfl 2
     have c3:w6.cell? ⟨g4,3,none⟩=some (.int .i64 id):=hm.cell 0 rfl 3
     have HM:Hid _:=hm
     clear hm
     go_quiet (fail)
     go_wp2_with fail
     clear c0 c1 c2 c3
     have hm:=HM.out.drewN 1
     refine au ?_
     refine fU (T:=fun W=>Mem w [] W [(g4,i64s [(ia:Int),(ib:Int),(ic:Int),(id:Int)],177),(g2,u32s (List.replicate 16 0),159),(g1,u32s (qrounds ws (8 * r+k)),159)]) (T2:=fun _=>True) 16 (by kernel_rfl) (HM.out.drewN _) ?_
     clear hm
     intro w7 hm
     refine aA 0 (v:=.int .i64 (ia:Int)) rfl (by kernel_rfl) (by kernel_rfl) (by kernel_rfl) rfl rfl (fun W _=>by go_simp) hm ?_
     go_simp
     refine aA 1 (v:=.int .i64 (ib:Int)) rfl (by kernel_rfl) (by kernel_rfl) (by kernel_rfl) rfl rfl (fun W _=>by go_simp) hm ?_
     go_simp
     refine aA 2 (v:=.int .i64 (ic:Int)) rfl (by kernel_rfl) (by kernel_rfl) (by kernel_rfl) rfl rfl (fun W _=>by go_simp) hm ?_
     go_simp
     refine aA 3 (v:=.int .i64 (id:Int)) rfl (by kernel_rfl) (by kernel_rfl) (by kernel_rfl) rfl rfl (fun W _=>by go_simp) hm ?_
     go_simp
     refine aA 4 (v:=.int .i64 (ia:Int)) rfl (by kernel_rfl) (by kernel_rfl) (by kernel_rfl) rfl rfl (fun W _=>by go_simp) hm ?_
     go_simp
     refine aA 5 (v:=.pointer (some ⟨g1,ia,none⟩)) rfl (by kernel_rfl) (by kernel_rfl) (by kernel_rfl) rfl rfl (fun W _=>by go_simp) hm ?_
     go_simp
     refine bN 6 (v:=.int .u32 xa) rfl (by kernel_rfl) (by kernel_rfl) (by kernel_rfl) rfl rfl (by kernel_rfl) rfl (fun W hW=>dX ia (.int .u32 xa) (Mem.get hW 2 rfl) rfl er HA.out) hm ?_
     go_simp
     refine aA 7 (v:=.int .i64 (ib:Int)) rfl (by kernel_rfl) (by kernel_rfl) (by kernel_rfl) rfl rfl (fun W _=>by go_simp) hm ?_
     go_simp
     refine aA 8 (v:=.pointer (some ⟨g1,ib,none⟩)) rfl (by kernel_rfl) (by kernel_rfl) (by kernel_rfl) rfl rfl (fun W _=>by go_simp) hm ?_
     go_simp
     refine bN 9 (v:=.int .u32 xb) rfl (by kernel_rfl) (by kernel_rfl) (by kernel_rfl) rfl rfl (by kernel_rfl) rfl (fun W hW=>dX ib (.int .u32 xb) (Mem.get hW 2 rfl) rfl er HB.out) hm ?_
     go_simp
     refine aA 10 (v:=.int .i64 (ic:Int)) rfl (by kernel_rfl) (by kernel_rfl) (by kernel_rfl) rfl rfl (fun W _=>by go_simp) hm ?_
     go_simp
     refine aA 11 (v:=.pointer (some ⟨g1,ic,none⟩)) rfl (by kernel_rfl) (by kernel_rfl) (by kernel_rfl) rfl rfl (fun W _=>by go_simp) hm ?_
     go_simp
     refine bN 12 (v:=.int .u32 xc) rfl (by kernel_rfl) (by kernel_rfl) (by kernel_rfl) rfl rfl (by kernel_rfl) rfl (fun W hW=>dX ic (.int .u32 xc) (Mem.get hW 2 rfl) rfl er HC.out) hm ?_
     go_simp
     refine aA 13 (v:=.int .i64 (id:Int)) rfl (by kernel_rfl) (by kernel_rfl) (by kernel_rfl) rfl rfl (fun W _=>by go_simp) hm ?_
     go_simp
     refine aA 14 (v:=.pointer (some ⟨g1,id,none⟩)) rfl (by kernel_rfl) (by kernel_rfl) (by kernel_rfl) rfl rfl (fun W _=>by go_simp) hm ?_
     go_simp
     refine bN 15 (v:=.int .u32 xd) rfl (by kernel_rfl) (by kernel_rfl) (by kernel_rfl) rfl rfl (by kernel_rfl) rfl (fun W hW=>dX id (.int .u32 xd) (Mem.get hW 2 rfl) rfl er HD.out) hm ?_
     go_simp
     refine gQ (by kernel_rfl) rfl rfl ?_
     intro K hK
     go_wp2_with (go_at_call 109;refine (quarter_at _ _ _ _ ya yb yc yd HY.out _).mono ?_;rintro e w8 ⟨rfl,rfl⟩)
     refine hK _ _ trivial ?_
     clear hK K
     refine aT 17 (v:=.tuple #[.int .u32 ya,.int .u32 yb,.int .u32 yc,.int .u32 yd]) rfl (by kernel_rfl) rfl (fun W _=>by go_simp) trivial ?_
     go_simp
     refine aT 18 (v:=.int .u32 ya) rfl (by kernel_rfl) rfl (fun W _=>by go_simp) trivial ?_
     go_simp
     refine aT 19 (v:=.int .u32 yb) rfl (by kernel_rfl) rfl (fun W _=>by go_simp) trivial ?_
     go_simp
     refine aT 20 (v:=.int .u32 yc) rfl (by kernel_rfl) rfl (fun W _=>by go_simp) trivial ?_
     go_simp
     refine aT 21 (v:=.int .u32 yd) rfl (by kernel_rfl) rfl (fun W _=>by go_simp) trivial ?_
     go_simp
     refine aT 22 (v:=.pointer (some ⟨g1,ia,none⟩)) rfl (by kernel_rfl) rfl (fun W _=>by go_simp) trivial ?_
     go_simp
     refine aP 23 (by kernel_rfl) rfl rfl ?_
     intro K hK
     refine bm 2 ia (.int .u32 ya) hm rfl rfl rfl dr (by rw [HLN.out];exact ha) rfl rfl ?_
     clear hm
     intro v0 hm
     refine wpList_nil ?_
     refine hK _ _ trivial ?_
     clear hK K
     refine aT 24 (v:=.pointer (some ⟨g1,ib,none⟩)) rfl (by kernel_rfl) rfl (fun W _=>by go_simp) trivial ?_
     go_simp
     refine aP 25 (by kernel_rfl) rfl rfl ?_
     intro K hK
     refine bm 2 ib (.int .u32 yb) hm rfl rfl rfl dr (by rw [List.length_set,HLN.out];exact hb) rfl rfl ?_
     clear hm
     intro v1 hm
     refine wpList_nil ?_
     refine hK _ _ trivial ?_
     clear hK K
     refine aT 26 (v:=.pointer (some ⟨g1,ic,none⟩)) rfl (by kernel_rfl) rfl (fun W _=>by go_simp) trivial ?_
     go_simp
     refine aP 27 (by kernel_rfl) rfl rfl ?_
     intro K hK
     refine bm 2 ic (.int .u32 yc) hm rfl rfl rfl dr (by rw [List.length_set,List.length_set,HLN.out];exact hc) rfl rfl ?_
     clear hm
     intro v2 hm
     refine wpList_nil ?_
     refine hK _ _ trivial ?_
     clear hK K
     refine aT 28 (v:=.pointer (some ⟨g1,id,none⟩)) rfl (by kernel_rfl) rfl (fun W _=>by go_simp) trivial ?_
     go_simp
     refine aP 29 (by kernel_rfl) rfl rfl ?_
     intro K hK
     refine bm 2 id (.int .u32 yd) hm rfl rfl rfl dr (by rw [List.length_set,List.length_set,List.length_set,HLN.out];exact hd) rfl rfl ?_
     clear hm
     intro v3 hm
     refine wpList_nil ?_
     refine hK _ _ trivial ?_
     clear hK K
     refine wpAnyH_done (by kernel_rfl) ?_ _
     simp only [endsIn]
     have hn:Mem w [] v3 [(g2,u32s (List.replicate 16 0),159),(g1,u32s (qrounds ws (8 * r+(k+1))),159)]:=by
      have h2:=hm.tail
      simp only [List.set_cons_succ,List.set_cons_zero,HST.out] at h2
      exact h2
     clear hm
     go_wp2_with fail
     go_roundw
     case rel=>exact ⟨k+1,by omega,by go_num,hn⟩
     case measure=>simp [intOf];omega
    ·have hk8':k=8:=by omega
     subst hk8'
     go_wp2_with fail
     go_roundw
     case rel=>exact ⟨r+1,by omega,by go_num,hm⟩
     case measure=>simp [intOf];omega
  ·have hr10:r=10:=by omega
   subst hr10
   have HLN:Hid ((u32s (qrounds ws 80)).length=16):=by show _=_;rw [ar,b6,HW.out]
   replace hm:Mem w [] wr [(g2,u32s (List.replicate 16 0),159),(g1,u32s (qrounds ws (80)),159)]:=hm
   go_wp2_with (first
    | ((with_reducible refine aa (some 51) (.load 159 (.tmp 1)) ?_);refine ay 1 hm rfl rfl _ eS rfl 16 dB (HLN.out) ?_)
    | ((with_reducible refine aa none (.store 159 (.tmp 2) (.tmp 51)) ?_);refine ap 0 (u32s (qrounds ws 80)) hm rfl rfl rfl 16 dB (by simp [ar]) (HLN.out) (bk _) ?_;clear hm;intro w8 hm))
   exact aJ 0 hm rfl Tryz.results100 rfl _ eS rfl 16 dB HLN.out rfl ⟨rfl,hm.below⟩
end Go.Proofs.YtnllomcajijbjaaGreatDoor
namespace Go.Proofs.YtnllomcajijbjaaGreatDoor
open Go Go.RowKit
theorem jH (ws:List Int) (hws:ws.length=16) (w:World) :
  Calls Tryz.prog 101 #[.agg (u32s ws).toArray] w fun e w'=>e=.returned (.agg (u8s (asL ws)).toArray)∧Below w.heap.size w w':=by
 have hm:=Mem.start w
 go_enter Tryz.func101,Tryz.ntmps101
 go_wp2_with (first
  | ((with_reducible refine aa (some 1) (.box 159 (.tmp 0)) ?_);refine aB (u32s ws) rfl hm ?_;clear hm;intro w1 g1 hm)
  | ((with_reducible refine aa (some 2) (.alloc 63) ?_);refine aj _ cq hm ?_;clear hm;intro w2 g2 hm)
  | ((with_reducible refine aa (some 3) (.alloc 63) ?_);refine aj _ cq hm ?_;clear hm;intro w3 g3 hm)
  | ((with_reducible refine aa (some 7) (.load 159 (.tmp 1)) ?_);refine ay 2 hm rfl rfl _ eS rfl 16 dB (by rw [ar];exact hws) ?_))

 go_loopw [8] (fun vi wr=>∃k:Nat,k≤16∧vi=.int .i64 k∧Mem w [] wr [(g3,u8s (lRow ws k),63),(g2,u8s (List.replicate 64 0),63),(g1,u32s ws,159)]) (fun vi _=>16 - (intOf vi).toNat)
 case atStart=>exact ⟨0,by omega,rfl,hm⟩
 case round =>
  clear hm
  obtain ⟨k,hk,rfl,hm⟩:=hrel
  by_cases hlt:k<16
  ·obtain ⟨x,hx⟩:∃x,x=ws.getD k 0:=⟨_,rfl⟩
   have hvx:(u32s ws)[k]?=some (.int .u32 x):=by rw [bQ _ _ (by omega),hx]
   have e4:IntKind.i64.wrap (4 * (k:Int))=((4 * k:Nat):Int):=by rw [show 4 * (k:Int)=((4 * k:Nat):Int) by omega,jj _ (by omega)]
   have hst:splice (u8s (lRow ws k)) (4 * k) (u8s (lfour x))=u8s (lRow ws (k+1)):=by
    rw [hx,←lRow_step ws hws k hlt];simp [splice,u8s]
   have hln:4 * k+4≤(u8s (lRow ws k)).length:=by rw [ab,lRow_length ws hws k hk];omega
   have HV:Hid _:=hvx
   have HE:Hid _:=e4
   have HS:Hid _:=hst
   have HL:Hid _:=hln
   clear hvx e4 hst hln hx
   go_wp2_with (first
    | ((with_reducible refine aa (some 11) (.index 159 (.tmp 7) (.tmp 8)) ?_);refine wpl_ixa 16 eS dr er (u32s ws) k (.int .u32 x) (hlt) rfl rfl (rfl) (HV.out) ?_)
    | (go_at_call 110;refine (jJ _ _).mono ?_;rintro e w4 ⟨rfl,hb⟩;replace hm:=hm.call hb;clear hb)
    | ((with_reducible refine aa (some 6) (.alloc 181) ?_);refine aj _ eg hm ?_;clear hm;intro w5 g5 hm)
    | ((with_reducible refine aa none (.store 181 (.tmp 6) (.tmp 13)) ?_);refine ap 0 (u8s (lfour x)) hm rfl rfl rfl 4 fT (by simp [ab]) (rfl) (aq _) ?_;clear hm;intro w6 hm))

   refine cG 4 (by kernel_rfl) (by kernel_rfl) hm ?_
   clear hm
   intro w7 hm
   simp only [List.take_succ_cons,List.take_zero,List.drop_succ_cons,List.drop_zero]
   still_step
   still_step
   refine fN 64 cf be (4 * k) (64 - 4 * k) (by omega) (by omega) rfl (Or.inl (eq _ rfl HE.out)) (Or.inr ⟨rfl,by omega⟩) ?_
   still_step
   refine wpStill_nil ?_
   go_wp2_with (first
    | ((with_reducible refine aa (some 18) (.call {callee:=.builtin .copy,args:=#[.tmp 16,.tmp 17],argTypes:=#[33,33]}) ?_);go_must (refine gr 1 (4 * k) (64 - 4 * k) (64 - 4 * k) ⟨g5,0,none⟩ 4 4 (u8s (lfour x)) hm rfl rfl rfl _ aU be (by have h4:(u8s (lfour x)).length=4:=rfl;rw [h4];show 4=min 4 (64 - 4 * k);omega) (by exact (Seg.row (hm.get 0 rfl)).src) (by exact HL.out) (aq _) ?_);clear hm;intro w8 hm))

   have hn:Mem w [] w8 [(g3,u8s (lRow ws (k+1)),63),(g2,u8s (List.replicate 64 0),63),(g1,u32s ws,159)]:=by
    rw [HS.out] at hm
    exact hm.tail
   clear hm
   go_roundw
   case rel=>exact ⟨k+1,by omega,by go_num,hn⟩
   case measure=>simp [intOf];omega
  ·have hk16:k=16:=by omega
   subst hk16
   rw [lRow_full ws hws] at hm
   have hln:(u8s (asL ws)).length=64:=by rw [ab,eH,hws]
   have HL:Hid _:=hln
   clear hln
   go_wp2_with (first
    | ((with_reducible refine aa (some 20) (.load 63 (.tmp 3)) ?_);refine ay 0 hm rfl rfl _ cf rfl 64 bq (HL.out) ?_)
    | ((with_reducible refine aa none (.store 63 (.tmp 2) (.tmp 20)) ?_);refine ap 1 (u8s (asL ws)) hm rfl rfl rfl 64 bq (by simp [ab]) (HL.out) (aq _) ?_;clear hm;intro w8 hm))
   exact aJ 1 hm rfl Tryz.results101 rfl _ cf rfl 64 bq HL.out rfl ⟨rfl,hm.below⟩
theorem block_any (ks ns:List Int) (c:Int) (hkl:ks.length=32) (hnl:ns.length=12) (hkb:Bytes ks) (hnb:Bytes ns) (w:World) (ht:QTab w) :
  Calls Tryz.prog 86 #[.agg (u8s ks).toArray,.agg (u8s ns).toArray,.int .u32 c] w fun e w'=>e=.returned (.agg (u8s (blockOf ks ns c)).toArray)∧Below w.heap.size w w':=by
 have hm:=Mem.start w
 have HT:Hid _:=ht
 have HKB:Hid _:=hkb
 have HNB:Hid _:=hnb
 have HKL:Hid _:=hkl
 have HNL:Hid _:=hnl
 have HKU:Hid ((u8s ks).length=32):=by show _=_;rw [ab];exact hkl
 have HNU:Hid ((u8s ns).length=12):=by show _=_;rw [ab];exact hnl
 obtain ⟨fs,hfs⟩:∃fs,fs=firstOf ks ns c:=⟨_,rfl⟩
 obtain ⟨vs,hvs⟩:∃vs,vs=qrounds fs 80:=⟨_,rfl⟩
 have HF:Hid (fs.length=16):=by show _=_;rw [hfs,d6]
 have HV:Hid (vs.length=16):=by show _=_;rw [hvs,b6];exact HF.out
 have HVF:Hid (vs.length=fs.length):=by show _=_;rw [HV.out,HF.out]
 have HFE:Hid (firstOf ks ns c=fs):=hfs.symm
 have HVE:Hid (qrounds fs 80=vs):=hvs.symm
 have HB:Hid (blockOf ks ns c=asL (sumOf vs fs)):=by show _=_;rw [hvs,hfs];rfl
 clear ht hkb hnb hkl hnl hfs hvs
 go_enter Tryz.func86,Tryz.ntmps86
 go_wp2_with (first
  | ((with_reducible refine aa (some 3) (.box 39 (.tmp 0)) ?_);refine aB (u8s ks) rfl hm ?_;clear hm;intro w1 g3 hm)
  | ((with_reducible refine aa (some 4) (.box 96 (.tmp 1)) ?_);refine aB (u8s ns) rfl hm ?_;clear hm;intro w2 g4 hm)
  | ((with_reducible refine aa (some 6) (.alloc 63) ?_);refine aj _ cq hm ?_;clear hm;intro w3 g6 hm)
  | ((with_reducible refine aa (some 10) (.load 39 (.tmp 3)) ?_);refine ay 2 hm rfl rfl _ aS rfl 32 az (HKU.out) ?_)
  | ((with_reducible refine aa (some 11) (.load 96 (.tmp 4)) ?_);refine ay 1 hm rfl rfl _ dn rfl 12 dm (HNU.out) ?_)
  | (go_at_call 99;refine (swords_any ks ns c HKL.out HNL.out HKB.out HNB.out _).mono ?_;rintro e w4 ⟨he,hb⟩;rw [HFE.out] at he;subst he;replace hm:=hm.call hb;clear hb)
  | ((with_reducible refine aa (some 7) (.alloc 159) ?_);refine aj _ ft hm ?_;clear hm;intro w5 g7 hm)
  | ((with_reducible refine aa none (.store 159 (.tmp 7) (.tmp 13)) ?_);refine ap 0 (u32s fs) hm rfl rfl rfl 16 dB (by simp [ar]) (by rw [ar];exact HF.out) (bk _) ?_;clear hm;intro w6 hm)
  | ((with_reducible refine aa (some 14) (.load 159 (.tmp 7)) ?_);refine ay 0 hm rfl rfl _ eS rfl 16 dB (by rw [ar];exact HF.out) ?_)
  | (go_at_call 100;refine (mixed16_any fs HF.out _ (QTab.mem HT.out hm (by simp))).mono ?_;rintro e w7 ⟨he,hb⟩;rw [HVE.out] at he;subst he;replace hm:=hm.call hb;clear hb)
  | ((with_reducible refine aa (some 8) (.alloc 159) ?_);refine aj _ ft hm ?_;clear hm;intro w8 g8 hm)
  | ((with_reducible refine aa none (.store 159 (.tmp 8) (.tmp 15)) ?_);refine ap 0 (u32s vs) hm rfl rfl rfl 16 dB (by simp [ar]) (by rw [ar];exact HV.out) (bk _) ?_;clear hm;intro w9 hm))

 go_loopw [16] (fun vi wr=>∃i:Nat,i≤16∧vi=.int .i64 i∧Mem w [] wr [(g8,u32s (sumUpto vs fs i),159),(g7,u32s fs,159),(g6,u8s (List.replicate 64 0),63),(g4,u8s ns,96),(g3,u8s ks,39)]) (fun vi _=>16 - (intOf vi).toNat)
 case atStart=>exact ⟨0,by omega,rfl,by rw [sumUpto_zero];exact hm⟩
 case round =>
  clear hm
  obtain ⟨i,hi,rfl,hm⟩:=hrel
  by_cases hlt:i<16
  ·have hii:(i:Int)<16:=by omega
   obtain ⟨x,hx⟩:∃x,x=vs.getD i 0:=⟨_,rfl⟩
   obtain ⟨y,hy⟩:∃y,y=fs.getD i 0:=⟨_,rfl⟩
   have HX:Hid ((u32s (sumUpto vs fs i))[i]?=some (.int .u32 x)):=by
    show _=_
    rw [bQ _ _ (by rw [fi _ _ HVF.out,HV.out];exact hlt),sumUpto_get _ _ HVF.out i (by rw [HV.out];exact hlt),hx]
   have HY:Hid ((u32s fs)[i]?=some (.int .u32 y)):=by
    show _=_
    rw [bQ _ _ (by rw [HF.out];exact hlt),hy]
   have HST:Hid ((u32s (sumUpto vs fs i)).set i (.int .u32 ((x+y) % 4294967296))=u32s (sumUpto vs fs (i+1))):=by
    show _=_
    rw [dl,hx,hy,sumUpto_set _ _ HVF.out i (by rw [HV.out];exact hlt)]
   have HLN:Hid (i<(u32s (sumUpto vs fs i)).length):=by show _<_;rw [ar,fi _ _ HVF.out,HV.out];exact hlt
   clear hx hy
   go_wp2_with fail
   refine cG 8 (by kernel_rfl) (by kernel_rfl) hm ?_
   clear hm
   intro w10 hm
   simp only [List.take_succ_cons,List.take_zero,List.drop_succ_cons,List.drop_zero]
   still_step
   still_step
   refine fB i (.int .u32 x) (hm.get 0 rfl) rfl er HX.out ?_
   still_step
   still_step
   refine fB i (.int .u32 y) (hm.get 1 rfl) rfl er HY.out ?_
   still_step
   still_step
   refine wpStill_nil ?_
   go_wp2_with (first
    | ((with_reducible refine aa none (.store 72 (.tmp 26) (.tmp 25)) ?_);refine bm 0 i (.int .u32 ((x+y) % 4294967296)) hm rfl (rfl) rfl dr (HLN.out) rfl rfl ?_;clear hm;intro w11 hm))

   rw [List.set_cons_zero,HST.out] at hm
   go_roundw
   case rel=>exact ⟨i+1,by omega,by go_num,hm⟩
   case measure=>simp [intOf];omega
  ·have hi16:i=16:=by omega
   subst hi16
   rw [sumUpto_full vs fs HVF.out 16 HV.out] at hm
   have HSL:Hid ((sumOf vs fs).length=16):=by show _=_;rw [dc _ _ HVF.out];exact HV.out
   have HBL:Hid ((u8s (blockOf ks ns c)).length=64):=by show _=_;rw [ab,ea]
   go_wp2_with (first
    | ((with_reducible refine aa (some 28) (.load 159 (.tmp 8)) ?_);refine ay 0 hm rfl rfl _ eS rfl 16 dB (by rw [ar];exact HSL.out) ?_)
    | (go_at_call 101;refine (jH (sumOf vs fs) HSL.out _).mono ?_;rintro e w12 ⟨he,hb⟩;rw [←HB.out] at he;subst he;replace hm:=hm.call hb;clear hb)
    | ((with_reducible refine aa none (.store 63 (.tmp 6) (.tmp 29)) ?_);refine ap 2 (u8s (blockOf ks ns c)) hm rfl rfl rfl 64 bq (by simp [ab]) (HBL.out) (aq _) ?_;clear hm;intro w13 hm))
   exact aJ 2 hm rfl Tryz.results86 rfl _ cf rfl 64 bq HBL.out rfl ⟨rfl,hm.below⟩
end Go.Proofs.YtnllomcajijbjaaGreatDoor
namespace Go.Proofs.YtnllomcajijbjaaGreatDoor
open Go Go.RowKit
theorem mask_any (g off n cap:Nat) (l b:List Int) (t:TypeId) (hl:off+n≤l.length) (hn:n≤64) (hbl:b.length=64) (w:World) (hr:Row w g (u8s l) t) :
  Calls Tryz.prog 85 #[.slice (some ⟨g,off,none⟩) n cap,.agg (u8s b).toArray] w fun e w'=>e=.returned (.tuple #[])∧Row w' g (u8s (maskL l off n b)) t∧Upd g w w':=by
 have hm:=Mem.enter hr
 have HB:Hid _:=hbl
 clear hr hbl
 go_enter Tryz.func85,Tryz.ntmps85
 go_wp2_with (first
  | ((with_reducible refine aa (some 3) (.box 63 (.tmp 1)) ?_);refine aB (u8s b) rfl hm ?_;clear hm;intro w1 g3 hm))

 go_loopw [7] (fun vi wr=>∃k:Nat,k≤n∧vi=.int .i64 k∧Mem w [g] wr [(g3,u8s b,63),(g,u8s (maskL l off k b),t)]) (fun vi _=>n - (intOf vi).toNat)
 case atStart=>exact ⟨0,by omega,rfl,by rw [maskL_zero];exact hm⟩
 case round =>
  clear hm
  obtain ⟨k,hk,rfl,hm⟩:=hrel
  by_cases hlt:k<n
  ·have hki:(k:Int)<(n:Int):=by omega
   have hk64:(k:Int)<64:=by omega
   obtain ⟨x,hx⟩:∃x,x=l.getD (off+k) 0:=⟨_,rfl⟩
   obtain ⟨y,hy⟩:∃y,y=b.getD k 0:=⟨_,rfl⟩
   have HX:Hid ((u8s (maskL l off k b))[off+k]?=some (.int .u8 x)):=by
    show _=_
    rw [cP _ _ (by rw [eJ];omega),maskL_get _ _ _ _ (by omega),hx]
   have HY:Hid ((u8s b)[k]?=some (.int .u8 y)):=by
    show _=_
    rw [cP _ _ (by rw [HB.out];omega),hy]
   have HST:Hid ((u8s (maskL l off k b)).set (off+k) (.int .u8 (bits .xor .u8 x y))=u8s (maskL l off (k+1) b)):=by
    show _=_
    rw [bT,hx,hy,maskL_step _ _ _ _ (by omega)]
   have HLN:Hid (off+k<(u8s (maskL l off k b)).length):=by show _<_;rw [ab,eJ];omega
   clear hx hy
   go_wp2_with fail
   refine cG 9 (by kernel_rfl) (by kernel_rfl) hm ?_
   clear hm
   intro w2 hm
   simp only [List.take_succ_cons,List.take_zero,List.drop_succ_cons,List.drop_zero]
   still_step
   still_step
   still_step
   refine fB (off+k) (.int .u8 x) (hm.get 1 rfl) rfl fj HX.out ?_
   still_step
   still_step
   refine fB k (.int .u8 y) (hm.get 0 rfl) rfl fj HY.out ?_
   still_step
   still_step
   refine wpStill_nil ?_
   go_wp2_with (first
    | ((with_reducible refine aa none (.store 5 (.tmp 18) (.tmp 17)) ?_);go_must (refine bm 1 (off+k) (.int .u8 (bits .xor .u8 x y)) hm rfl rfl rfl be HLN.out rfl rfl ?_);clear hm;intro w3 hm))

   rw [List.set_cons_succ,List.set_cons_zero,HST.out] at hm
   go_roundw
   case rel=>exact ⟨k+1,by omega,by go_num,hm⟩
   case measure=>simp [intOf];omega
  ·have hkn:k=n:=by omega
   subst hkn
   have hni:¬(k:Int)<(k:Int):=by omega
   go_wp2_with fail
   go_end0
   exact ⟨rfl,hm.get 1 rfl,hm.toUpd⟩
theorem xor_any (ks ns ms:List Int) (c:Int) (v:Value) (hkl:ks.length=32) (hnl:ns.length=12) (hkb:Bytes ks) (hnb:Bytes ns) (hc:Word c) (hml:ms.length≤60000) (w:World) (ht:QTab w) (hv:SlOld w v ms) :
  Calls Tryz.prog 63 #[.agg (u8s ks).toArray,.agg (u8s ns).toArray,.int .u32 c,v] w fun e w'=>∃g,e=.returned (.slice (some ⟨g,0,none⟩) ms.length ms.length)∧w.heap.size≤g∧Row w' g (u8s (xorOf ks ns c ms)) 5∧Below w.heap.size w w':=by
 obtain ⟨p,cap,rfl,hcap⟩:=hv.len
 have hm:=Mem.start w
 have HT:Hid _:=ht
 have HKB:Hid _:=hkb
 have HNB:Hid _:=hnb
 have HKL:Hid _:=hkl
 have HNL:Hid _:=hnl
 have HV:Hid (SlOld w (.slice p ms.length cap) ms):=hv
 have HKU:Hid ((u8s ks).length=32):=by show _=_;rw [ab];exact hkl
 have HNU:Hid ((u8s ns).length=12):=by show _=_;rw [ab];exact hnl
 have HCP:Hid (splice (u8s (List.replicate ms.length 0)) 0 (u8s (ms.take ms.length))=u8s (xorUp ks ns c ms 0)):=by
  show _=_
  rw [cn,xorUp_zero,List.take_of_length_le (Nat.le_refl _)]
  simp
 obtain ⟨hc0,hc1⟩:=hc
 clear ht hkb hnb hkl hnl hv
 go_enter Tryz.func63,Tryz.ntmps63
 go_wp2_with (first
  | ((with_reducible refine aa (some 4) (.box 39 (.tmp 0)) ?_);refine aB (u8s ks) rfl hm ?_;clear hm;intro w1 g4 hm)
  | ((with_reducible refine aa (some 5) (.box 96 (.tmp 1)) ?_);refine aB (u8s ns) rfl hm ?_;clear hm;intro w2 g5 hm)
  | ((with_reducible refine aa (some 14) (.makeSlice 33 (.tmp 13) (.tmp 13)) ?_);go_must (refine eE _ aU _ bZ rfl ms.length rfl rfl rfl rfl (by omega) hm ?_);clear hm;intro w3 g9 hm;replace hm:Mem w [] w3 [(g9,u8s (List.replicate ms.length 0),5),(g5,u8s ns,96),(g4,u8s ks,39)]:=(by have e:u8s (List.replicate ms.length 0)=List.replicate ms.length (.int .u8 0):=(by simp [u8s]);rw [e];exact hm))
  | ((with_reducible refine aa (some 17) (.call {callee:=.builtin .copy,args:=#[.tmp 15,.tmp 16],argTypes:=#[33,33]}) ?_);go_must (refine cZ 0 ms ms.length (u8s (xorUp ks ns c ms 0)) hm rfl rfl rfl _ aU be (SlOld.mem HV.out hm) (Nat.min_self _).symm (by simp [ab]) HCP.out ?_);clear hm;intro w4 hm))

 have hge9:w.heap.size≤g9:=by
  have h:=hm.fresh _ (List.mem_cons_self ..)
  simpa using h
 have HGE:Hid (w.heap.size≤g9):=hge9
 clear hge9
 replace hm:Mem w [] w4 [(g9,u8s (xorUp ks ns c ms (64 * 0)),5),(g5,u8s ns,96),(g4,u8s ks,39)]:=hm
 go_loopw [2,10] (fun vc vr wr=>∃j:Nat,vc=.int .u32 ((c+(j:Int)) % 4294967296)∧64 * j<ms.length+64∧(∃q,vr=.slice q (ms.length - 64 * j) (ms.length - 64 * j)∧(64 * j<ms.length→q=some ⟨g9,64 * j,none⟩))∧Mem w [] wr [(g9,u8s (xorUp ks ns c ms (64 * j)),5),(g5,u8s ns,96),(g4,u8s ks,39)]) (fun _ vr _=>slLen vr)
 case atStart=>exact ⟨0,by rw [show (c+((0:Nat):Int)) % 4294967296=c by omega],by omega,⟨_,rfl,fun _=>rfl⟩,hm⟩
 case round =>
  clear hm
  obtain ⟨j,rfl,hj,⟨q,rfl,hq⟩,hm⟩:=hrel
  by_cases hlt:64 * j<ms.length
  ·obtain rfl:=hq hlt
   clear hq
   obtain ⟨L,hL⟩:∃L,L=ms.length - 64 * j:=⟨_,rfl⟩
   rw [←hL]
   have hL0:0<L:=by omega
   have hLi:(0:Int)<(L:Int):=by omega
   have hLi2:(L:Int) > 0:=by omega
   have HL:Hid (L=ms.length - 64 * j):=hL
   have HLE:Hid (64 * j+L=ms.length):=by show _=_;omega
   clear hL
   have HCE:Hid (((c+(j:Int)) % 4294967296+1) % 4294967296=(c+((j+1:Nat):Int)) % 4294967296):=by show _=_;omega
   by_cases h64:64<L
   ·have h64i:(64:Int)<(L:Int):=by omega
    have HST:Hid (maskL (xorUp ks ns c ms (64 * j)) (64 * j) 64 (blockOf ks ns ((c+(j:Int)) % 4294967296))=xorUp ks ns c ms (64 * (j+1))):=by
     show _=_
     rw [iT ks ns c ms j 64 (by omega)]
     rw [show 64 * j+64=64 * (j+1) by omega]
    have HFT:Hid (64 * j+64≤(xorUp ks ns c ms (64 * j)).length):=by show _≤_;have:=HLE.out;rw [dK];omega
    go_wp2_with fail
    refine au ?_
    refine a6 (T:=fun W=>Mem w [] W [(g5,u8s ns,96),(g4,u8s ks,39)]) (by kernel_rfl) hm ?_
    clear hm
    intro w5 hm
    refine aT 0 (v:=.slice (some ⟨g9,64 * j,none⟩) L L) rfl (by kernel_rfl) rfl (fun W _=>by go_simp) hm.tail ?_
    go_simp
    refine aT 1 (v:=.int .i64 64) rfl (by kernel_rfl) rfl (fun W _=>by go_simp) hm.tail ?_
    go_simp
    refine aT 2 (v:=.int .i64 64) rfl (by kernel_rfl) rfl (fun W _=>by go_simp) hm.tail ?_
    go_simp
    refine aT 3 (v:=.slice (some ⟨g9,64 * j,none⟩) 64 64) rfl (by kernel_rfl) rfl (fun W _=>exec_sl3 aU be 64 (by omega) (by omega) rfl rfl rfl rfl rfl) hm.tail ?_
    go_simp
    refine aT 4 (v:=.agg (u8s ks).toArray) rfl (by kernel_rfl) rfl (fun W hW=>bJ 0 _ (Mem.get hW 1 rfl) rfl _ aS rfl 32 az (by rw [HKU.out];omega) (by rw [List.drop_zero,List.take_of_length_le (Nat.le_of_eq HKU.out)])) hm.tail ?_
    go_simp
    refine aT 5 (v:=.agg (u8s ns).toArray) rfl (by kernel_rfl) rfl (fun W hW=>bJ 0 _ (Mem.get hW 0 rfl) rfl _ dn rfl 12 dm (by rw [HNU.out];omega) (by rw [List.drop_zero,List.take_of_length_le (Nat.le_of_eq HNU.out)])) hm.tail ?_
    go_simp
    refine aT 6 (v:=.int .u32 ((c+(j:Int)) % 4294967296)) rfl (by kernel_rfl) rfl (fun W _=>by go_simp) hm.tail ?_
    go_simp
    refine aP 7 (by kernel_rfl) rfl rfl ?_
    intro K hK
    go_wp2_with (go_at_call 86;refine (block_any ks ns _ HKL.out HNL.out HKB.out HNB.out _ (QTab.mem HT.out hm (by simp))).mono ?_;rintro e w6 ⟨rfl,hb⟩;replace hm:=hm.call hb;clear hb)
    refine hK _ _ hm.tail ?_
    clear hK K
    refine aP 8 (by kernel_rfl) rfl rfl ?_
    intro K hK
    go_wp2_with (go_at_call 85;refine (mask_any g9 (64 * j) 64 64 (xorUp ks ns c ms (64 * j)) _ _ HFT.out (by omega) (ea _ _ _) _ (hm.get 0 rfl)).mono ?_;rintro e w7 ⟨rfl,hr,hu⟩;rw [HST.out] at hr;replace hm:=hm.upd 0 rfl hu hr;clear hr hu)
    refine hK _ _ hm.tail ?_
    clear hK K
    refine wpAnyH_done (by kernel_rfl) ?_ _
    simp only [endsIn]
    go_wp2_with (first
     | ((with_reducible refine aa (some 38) (.slice 33 (.tmp 36) (some (.tmp 37)) none none) ?_);go_must (refine iN _ aU be 64 rfl rfl rfl (by omega) ?_);intro p2 hp2;have HP2:Hid _:=hp2;clear hp2))

    have HP:Hid (64 * (j+1)<ms.length→p2=some ⟨g9,64 * (j+1),none⟩):=by
     intro h
     have:=HLE.out
     rw [HP2.out,if_neg (by omega)]
     simp [bM]<;>omega
    have HLN:Hid (L - 64=ms.length - 64 * (j+1)):=by show _=_;have:=HLE.out;omega
    go_roundw
    case rel =>
     refine ⟨j+1,?_,by have:=HLE.out;omega,⟨p2,?_,HP.out⟩,hm⟩
     ·rw [←HCE.out];try simp
     ·rw [←HLN.out];try simp
    case measure=>simp [slLen];omega
   ·have h64i:¬(64:Int)<(L:Int):=by omega
    have HST:Hid (maskL (xorUp ks ns c ms (64 * j)) (64 * j) L (blockOf ks ns ((c+(j:Int)) % 4294967296))=xorUp ks ns c ms (64 * (j+1))):=by
     show _=_
     rw [iT ks ns c ms j L (by omega)]
     have:=HLE.out
     rw [f9 _ _ _ _ _ (by omega),f9 _ _ _ _ _ (by omega)]
    have HFT:Hid (64 * j+L≤(xorUp ks ns c ms (64 * j)).length):=by show _≤_;have:=HLE.out;rw [dK];omega
    go_wp2_with fail
    refine au ?_
    refine a6 (T:=fun W=>Mem w [] W [(g5,u8s ns,96),(g4,u8s ks,39)]) (by kernel_rfl) hm ?_
    clear hm
    intro w5 hm
    refine aT 0 (v:=.slice (some ⟨g9,64 * j,none⟩) L L) rfl (by kernel_rfl) rfl (fun W _=>by go_simp) hm.tail ?_
    go_simp
    refine aT 1 (v:=.int .i64 (L:Int)) rfl (by kernel_rfl) rfl (fun W _=>by go_simp) hm.tail ?_
    go_simp
    refine aT 2 (v:=.int .i64 (L:Int)) rfl (by kernel_rfl) rfl (fun W _=>by go_simp) hm.tail ?_
    go_simp
    refine aT 3 (v:=.slice (some ⟨g9,64 * j,none⟩) L L) rfl (by kernel_rfl) rfl (fun W _=>exec_sl3 aU be L (by omega) (by omega) rfl rfl rfl rfl rfl) hm.tail ?_
    go_simp
    refine aT 4 (v:=.agg (u8s ks).toArray) rfl (by kernel_rfl) rfl (fun W hW=>bJ 0 _ (Mem.get hW 1 rfl) rfl _ aS rfl 32 az (by rw [HKU.out];omega) (by rw [List.drop_zero,List.take_of_length_le (Nat.le_of_eq HKU.out)])) hm.tail ?_
    go_simp
    refine aT 5 (v:=.agg (u8s ns).toArray) rfl (by kernel_rfl) rfl (fun W hW=>bJ 0 _ (Mem.get hW 0 rfl) rfl _ dn rfl 12 dm (by rw [HNU.out];omega) (by rw [List.drop_zero,List.take_of_length_le (Nat.le_of_eq HNU.out)])) hm.tail ?_
    go_simp
    refine aT 6 (v:=.int .u32 ((c+(j:Int)) % 4294967296)) rfl (by kernel_rfl) rfl (fun W _=>by go_simp) hm.tail ?_
    go_simp
    refine aP 7 (by kernel_rfl) rfl rfl ?_
    intro K hK
    go_wp2_with (go_at_call 86;refine (block_any ks ns _ HKL.out HNL.out HKB.out HNB.out _ (QTab.mem HT.out hm (by simp))).mono ?_;rintro e w6 ⟨rfl,hb⟩;replace hm:=hm.call hb;clear hb)
    refine hK _ _ hm.tail ?_
    clear hK K
    refine aP 8 (by kernel_rfl) rfl rfl ?_
    intro K hK
    go_wp2_with (go_at_call 85;refine (mask_any g9 (64 * j) L L (xorUp ks ns c ms (64 * j)) _ _ HFT.out (by omega) (ea _ _ _) _ (hm.get 0 rfl)).mono ?_;rintro e w7 ⟨rfl,hr,hu⟩;rw [HST.out] at hr;replace hm:=hm.upd 0 rfl hu hr;clear hr hu)
    refine hK _ _ hm.tail ?_
    clear hK K
    refine wpAnyH_done (by kernel_rfl) ?_ _
    simp only [endsIn]
    go_wp2_with (first
     | ((with_reducible refine aa (some 38) (.slice 33 (.tmp 36) (some (.tmp 37)) none none) ?_);go_must (refine iN _ aU be L rfl rfl rfl (by omega) ?_);intro p2 hp2;have HP2:Hid _:=hp2;clear hp2))

    have HP:Hid (64 * (j+1)<ms.length→p2=some ⟨g9,64 * (j+1),none⟩):=by
     intro h
     have:=HLE.out
     rw [HP2.out,if_neg (by omega)]
     simp [bM]<;>omega
    have HLN:Hid (L - L=ms.length - 64 * (j+1)):=by show _=_;have:=HLE.out;omega
    go_roundw
    case rel =>
     refine ⟨j+1,?_,by have:=HLE.out;omega,⟨p2,?_,HP.out⟩,hm⟩
     ·rw [←HCE.out];try simp
     ·rw [←HLN.out];try simp
    case measure=>simp [slLen];omega
  ·have hL0:ms.length - 64 * j=0:=by omega
   rw [hL0]
   rw [f9 ks ns c ms (64 * j) (by omega)] at hm
   go_wp2_with fail
   go_ret
   exact ⟨g9,rfl,HGE.out,hm.get 0 rfl,hm.below⟩
end Go.Proofs.YtnllomcajijbjaaGreatDoor
namespace Go.Proofs.YtnllomcajijbjaaGreatDoor
open Go Go.RowKit
def riseUp (i:Nat):List Int:=riseK.take i++List.replicate (32 - i) 0
theorem bytes_nil:Bytes []:=by intro x hx;cases hx
end Go.Proofs.YtnllomcajijbjaaGreatDoor
