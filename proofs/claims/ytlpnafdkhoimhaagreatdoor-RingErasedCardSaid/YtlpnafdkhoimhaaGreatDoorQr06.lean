import Derived.Test.YtlpnafdkhoimhaaGreatDoorQr03
import Derived.Test.YtlpnafdkhoimhaaGreatDoorQr05
set_option maxRecDepth 100000
set_option maxHeartbeats 4000000
namespace Go.Proofs.YtlpnafdkhoimhaaGreatDoor
open Go Go.RowKit
theorem info_w16:(Tryz.prog.info? 243).map (fun i=>(i.zero,i.size))=some (some (.agg (u32s (List.replicate 16 0)).toArray),16):=by kernel_rfl
theorem fI:∀w,(zeroValue 243).run Tryz.prog w=.ok (.agg (u32s (List.replicate 16 0)).toArray) w:=(zero_of_info info_w16).1
theorem dU:(Tryz.prog.info? 243).map (·.size)=some 16:=(zero_of_info info_w16).2
theorem fy:Tryz.prog.underlying 243=some (.array 16 69):=Tryz.underlying243
theorem info_nce:(Tryz.prog.info? 139).map (fun i=>(i.zero,i.size))=some (some (.agg (u8s (List.replicate 12 0)).toArray),12):=by kernel_rfl
theorem zero_nce:∀w,(zeroValue 139).run Tryz.prog w=.ok (.agg (u8s (List.replicate 12 0)).toArray) w:=(zero_of_info info_nce).1
theorem dI:(Tryz.prog.info? 139).map (·.size)=some 12:=(zero_of_info info_nce).2
theorem dK:Tryz.prog.underlying 139=some (.array 12 5):=Tryz.underlying139
theorem info_i4:(Tryz.prog.info? 245).map (fun i=>(i.zero,i.size))=some (some (.agg (i64s (List.replicate 4 0)).toArray),4):=by kernel_rfl
theorem zero_i4:∀w,(zeroValue 245).run Tryz.prog w=.ok (.agg (i64s (List.replicate 4 0)).toArray) w:=(zero_of_info info_i4).1
theorem sz_i4:(Tryz.prog.info? 245).map (·.size)=some 4:=(zero_of_info info_i4).2
theorem un_i4:Tryz.prog.underlying 245=some (.array 4 3):=Tryz.underlying245
theorem info_i84:(Tryz.prog.info? 246).map (fun i=>(i.zero,i.size))=some (some (.agg (i64s (List.replicate 32 0)).toArray),32):=by kernel_rfl
theorem sz_i84:(Tryz.prog.info? 246).map (·.size)=some 32:=(zero_of_info info_i84).2
theorem un_i84:Tryz.prog.underlying 246=some (.array 8 245):=Tryz.underlying246
theorem ag_i4:∀w,(isAgg 245).run Tryz.prog w=.ok true w:=by intro w;simp [go_sem]
theorem rotl_any (x n:Int) (w:World) (hn0:0≤n) (hn1:n<32) :
  Calls Tryz.prog 232 #[.int .u32 x,.int .i64 n] w fun e w'=>e=.returned (.int .u32 (rotl x n))∧w'=w:=by
 have hn:n % 32=n:=by omega
 go_enter Tryz.func232,Tryz.ntmps232
 go_wp2
 go_ret
 exact ⟨rfl,rfl⟩
def quartV (a b c d:Int):Value:=.tuple #[.int .u32 (quart a b c d).1,.int .u32 (quart a b c d).2.1,.int .u32 (quart a b c d).2.2.1,.int .u32 (quart a b c d).2.2.2]
theorem results_tmp4 {fn:Func} {t u v x:Tmp} (h:fn.results=#[.tmp t,.tmp u,.tmp v,.tmp x]) (tmps:Array Value) (P:Program) (w:World) :
  (results fn tmps).run P w=.ok (.tuple #[tmps.getD t undef,tmps.getD u undef,tmps.getD v undef,tmps.getD x undef]) w:=by
 simp [results,h]
theorem quarter_any (a b c d:Int) (w:World) :
  Calls Tryz.prog 223 #[.int .u32 a,.int .u32 b,.int .u32 c,.int .u32 d] w fun e w'=>e=.returned (quartV a b c d)∧w'=w:=by
 go_enter Tryz.func223,Tryz.ntmps223
 go_wp2_with (go_at_call 232;refine (rotl_any _ _ _ (by omega) (by omega)).mono ?_;rintro e w' ⟨rfl,rfl⟩)
 exact bodyPost_ret (results_tmp4 Tryz.results223 _ _ _) rfl ⟨rfl,rfl⟩
theorem lE (x:Int) (w:World) :
  Calls Tryz.prog 224 #[.int .u32 x] w fun e w'=>e=.returned (.agg (u8s (lfour x)).toArray)∧Below w.heap.size w w':=by
 go_enter Tryz.func224,Tryz.ntmps224
 go_wp2
 refine bodyPost_ret (v:=.agg (u8s (lfour x)).toArray) (by simp [results,Tryz.results224,go_sem,u8s,lfour]) rfl ⟨rfl,?_⟩
 exact (Below.refl _ _).alloc (Nat.le_refl _) _
theorem kH (b off n cap:Nat) (cs:List Int) (hcs:cs.length=4) (hn:4≤n) (w:World) (hc:Seg w b off cs) :
  Calls Tryz.prog 225 #[.slice (some ⟨b,off,none⟩) n cap] w fun e w'=>e=.returned (.agg (u8s cs).toArray)∧Below w.heap.size w w':=by
 have hm:=Mem.start w
 go_enter Tryz.func225,Tryz.ntmps225
 go_wp2_with (first
  | ((with_reducible refine ae (some 2) (.alloc 271) ?_);refine ag _ eW hm ?_;clear hm;intro w1 g1 hm)
  | ((with_reducible refine ae (some 3) (.alloc 271) ?_);refine ag _ eW hm ?_;clear hm;intro w2 g2 hm)
  | ((with_reducible refine ae (some 6) (.call {callee:=.builtin .copy,args:=#[.tmp 4,.tmp 5],argTypes:=#[56,56]}) ?_);refine cI 0 0 4 4 ⟨b,off,none⟩ n cap (u8s cs) 4 (u8s cs) hm rfl rfl rfl _ aF aQ (by rw [aa,hcs]) (Nat.min_eq_right hn).symm (hc.mem hm (by simp)).src (by simp [aa]) (ai _) (fv _ _ (by simp [aa,hcs])) ?_;clear hm;intro w3 hm)
  | ((with_reducible refine ae (some 7) (.load 271 (.tmp 3)) ?_);refine av 0 hm rfl rfl _ un_b4 rfl 4 gI (by simp [aa,hcs]) ?_)
  | ((with_reducible refine ae none (.store 271 (.tmp 2) (.tmp 7)) ?_);refine ah 1 (u8s cs) hm rfl rfl rfl 4 gI (by simp [aa]) (by simp [aa,hcs]) (ai _) ?_;clear hm;intro w4 hm))
 exact aH 1 hm rfl Tryz.results225 rfl _ un_b4 rfl 4 gI (by simp [aa,hcs]) rfl ⟨rfl,hm.below⟩
theorem little_any (b off n cap:Nat) (c0 c1 c2 c3:Int) (hn:4≤n) (w:World) (hc:Seg w b off [c0,c1,c2,c3]) (h0:0≤c0∧c0<256) (h1:0≤c1∧c1<256) (h2:0≤c2∧c2<256) (h3:0≤c3∧c3<256) :
  Calls Tryz.prog 231 #[.slice (some ⟨b,off,none⟩) n cap] w fun e w'=>e=.returned (.int .u32 (lit4 c0 c1 c2 c3))∧Below w.heap.size w w':=by
 obtain ⟨h00,h01⟩:=h0
 obtain ⟨h10,h11⟩:=h1
 obtain ⟨h20,h21⟩:=h2
 obtain ⟨h30,h31⟩:=h3
 have hm:=Mem.start w
 go_enter Tryz.func231,Tryz.ntmps231
 go_wp2_with (first
  | (go_at_call 225;refine (kH b off n cap [c0,c1,c2,c3] rfl hn _ (hc.mem hm (by simp))).mono ?_;rintro e w1 ⟨rfl,hb⟩;replace hm:=hm.call hb;clear hb)
  | ((with_reducible refine ae (some 3) (.alloc 271) ?_);refine ag _ eW hm ?_;clear hm;intro w2 g2 hm)
  | ((with_reducible refine ae none (.store 271 (.tmp 3) (.tmp 5)) ?_);refine ah 0 (u8s [c0,c1,c2,c3]) hm rfl rfl rfl 4 gI (by simp [aa]) (rfl) (ai _) ?_;clear hm;intro w3 hm)
  | ((with_reducible refine ae (some 7) (.load 5 (.tmp 6)) ?_);refine bm 0 3 (.int .u8 c3) hm rfl rfl eP (rfl) ?_)
  | ((with_reducible refine ae (some 11) (.load 5 (.tmp 10)) ?_);refine bm 0 2 (.int .u8 c2) hm rfl rfl eP (rfl) ?_)
  | ((with_reducible refine ae (some 16) (.load 5 (.tmp 15)) ?_);refine bm 0 1 (.int .u8 c1) hm rfl rfl eP (rfl) ?_)
  | ((with_reducible refine ae (some 21) (.load 5 (.tmp 20)) ?_);refine bm 0 0 (.int .u8 c0) hm rfl rfl eP (rfl) ?_))
 go_ret
 exact ⟨rfl,hm.below⟩
def putL (l:List Int) (off:Nat) (bs:List Int) (n:Nat):List Int:=splice l off (litWords bs n)
theorem putL_zero (l:List Int) (off:Nat) (bs:List Int):putL l off bs 0=l:=by simp [putL,splice,litWords]
theorem jB (l:List Int) (off:Nat) (bs:List Int) (n:Nat) (h:off+n≤l.length):(putL l off bs n).length=l.length:=by simp [putL,splice,cd];omega
theorem putL_step (l:List Int) (off:Nat) (bs:List Int) (n:Nat) (h:off+n<l.length):(putL l off bs n).set (off+n) (litAt bs n)=putL l off bs (n+1):=by
 have h1:(l.take off).length=off:=by simp;omega
 unfold putL splice
 rw [cd,cd,List.set_append_right _ _ (by omega),h1,Nat.add_sub_cancel_left,List.set_append_right _ _ (by rw [cd];omega),cd,Nat.sub_self,
  List.drop_eq_getElem_cons h,List.set_cons_zero,litWords,←Nat.add_assoc]
 simp
theorem seg_four {w:World} {b o:Nat} {bs:List Int} (hs:Seg w b o bs) (k:Nat) (hk:4 * k+4≤bs.length) :
  Seg w b (o+4 * k) [bs.getD (4 * k) 0,bs.getD (4 * k+1) 0,bs.getD (4 * k+2) 0,bs.getD (4 * k+3) 0]:=by
 intro j hj
 have hj4:j<4:=by simpa using hj
 have hq:=hs (4 * k+j) (by omega)
 rw [Nat.add_assoc,hq]
 match j,hj4 with
 | 0,_=>rfl
 | 1,_=>rfl
 | 2,_=>rfl
 | 3,_=>rfl
theorem ip (g off n cap b o m cp:Nat) (l bs:List Int) (t:TypeId) (hl:off+n≤l.length) (hm4:4 * n≤bs.length) (hmb:m=bs.length) (hmc:m≤cp) (hml:m≤1000000) (hbb:Bytes bs) (hne:b≠g) (w:World) (hr:Row w g (u32s l) t) (hs:Seg w b o bs) :
  Calls Tryz.prog 222 #[.slice (some ⟨g,off,none⟩) n cap,.slice (some ⟨b,o,none⟩) m cp] w fun e w'=>e=.returned (.tuple #[])∧Row w' g (u32s (putL l off bs n)) t∧Upd g w w':=by
 subst hmb
 have hm:=Mem.enter hr
 have HS:Hid (Seg w b o bs):=hs
 have HB:Hid _:=hbb
 clear hr hs hbb
 go_enter Tryz.func222,Tryz.ntmps222
 go_wp2_with fail
 go_loopw [7] (fun vi wr=>∃k:Nat,k≤n∧vi=.int .i64 k∧Mem w [g] wr [(g,u32s (putL l off bs k),t)]) (fun vi _=>n - (intOf vi).toNat)
 case atStart=>exact ⟨0,by omega,rfl,by rw [putL_zero];exact hm⟩
 case round =>
  clear hm
  obtain ⟨k,hk,rfl,hm⟩:=hrel
  by_cases hlt:k<n
  ·have hki:(k:Int)<(n:Int):=by omega
   have HQ:Hid _:=And.intro (Bytes.get HB.out (4 * k)) (And.intro (Bytes.get HB.out (4 * k+1)) (And.intro (Bytes.get HB.out (4 * k+2)) (Bytes.get HB.out (4 * k+3))))
   have HSG:Hid (Seg wr b (o+4 * k) [bs.getD (4 * k) 0,bs.getD (4 * k+1) 0,bs.getD (4 * k+2) 0,bs.getD (4 * k+3) 0]):=seg_four (HS.out.mem hm (by simpa using hne)) k (by omega)
   have HST:Hid ((u32s (putL l off bs k)).set (off+k) (.int .u32 (litAt bs k))=u32s (putL l off bs (k+1))):=by
    show _=_
    rw [cH,putL_step l off bs k (by omega)]
   have HLN:Hid (off+k<(u32s (putL l off bs k)).length):=by show _<_;rw [ao,jB _ _ _ _ (by omega)];omega
   have e4:IntKind.i64.wrap (4 * (k:Int))=((4 * k:Nat):Int):=by rw [show 4 * (k:Int)=((4 * k:Nat):Int) by omega,hP _ (by omega)]
   have HE:Hid _:=e4
   clear e4
   go_wp2_with (first
    | ((with_reducible refine ae (some 15) (.slice 56 (.tmp 12) (some (.tmp 14)) none none) ?_);go_must (refine wpl_slo2 aF aQ (4 * k) (by omega) (by omega) rfl rfl (by first|exact HE.out|omega) ?_))
    | (go_at_call 231;refine (little_any _ _ _ _ _ _ _ _ (by omega) _ (HSG.out) HQ.out.1 HQ.out.2.1 HQ.out.2.2.1 HQ.out.2.2.2).mono ?_;rintro e w5 ⟨rfl,hb⟩;replace hm:=hm.call hb;clear hb)
    | ((with_reducible refine ae none (.store 69 (.tmp 17) (.tmp 16)) ?_);go_must (refine bj 0 (off+k) (.int .u32 (litAt bs k)) hm rfl rfl rfl dB HLN.out rfl rfl ?_);clear hm;intro w6 hm))

   rw [List.set_cons_zero,HST.out] at hm
   go_roundw
   case rel=>exact ⟨k+1,by omega,by go_num,hm⟩
   case measure=>simp [intOf];omega
  ·have hkn:k=n:=by omega
   subst hkn
   have hni:¬(k:Int)<(k:Int):=by omega
   go_wp2_with fail
   go_end0
   exact ⟨rfl,hm.get 0 rfl,hm.toUpd⟩
end Go.Proofs.YtlpnafdkhoimhaaGreatDoor
namespace Go.Proofs.YtlpnafdkhoimhaaGreatDoor
open Go Go.RowKit
def startWs (c:Int):List Int:=[1634760805,857760878,2036477234,1797285236,0,0,0,0,0,0,0,0,c,0,0,0]
theorem first_put (ks ns:List Int) (c:Int):putL (putL (startWs c) 4 ks 8) 13 ns 3=firstOf ks ns c:=by
 simp [putL,splice,litWords,startWs,firstOf,headWs]
theorem built_start (c:Int):Tryz.prog.built 243 [(0,.int .u32 1634760805),(1,.int .u32 857760878),(2,.int .u32 2036477234),(3,.int .u32 1797285236),(12,.int .u32 c)]=some (u32s (startWs c)).toArray:=by kernel_rfl
theorem swords_any (ks ns:List Int) (c:Int) (hkl:ks.length=32) (hnl:ns.length=12) (hkb:Bytes ks) (hnb:Bytes ns) (w:World) :
  Calls Tryz.prog 214 #[.agg (u8s ks).toArray,.agg (u8s ns).toArray,.int .u32 c] w fun e w'=>e=.returned (.agg (u32s (firstOf ks ns c)).toArray)∧Below w.heap.size w w':=by
 have hm:=Mem.start w
 have HKB:Hid _:=hkb
 have HNB:Hid _:=hnb
 have HKL:Hid _:=hkl
 have HNL:Hid _:=hnl
 have HFP:Hid _:=first_put ks ns c
 have HFL:Hid ((u32s (firstOf ks ns c)).length=16):=by show _=_;rw [ao,eo]
 have HL1:Hid ((putL (startWs c) 4 ks 8).length=16):=jB _ _ _ _ (by simp [startWs])
 clear hkb hnb hkl hnl
 go_enter Tryz.func214,Tryz.ntmps214
 go_wp2_with (first
  | ((with_reducible refine ae (some 3) (.box 43 (.tmp 0)) ?_);refine az (u8s ks) rfl hm ?_;clear hm;intro w1 g3 hm)
  | ((with_reducible refine ae (some 4) (.box 139 (.tmp 1)) ?_);refine az (u8s ns) rfl hm ?_;clear hm;intro w2 g4 hm)
  | ((with_reducible refine ae (some 6) (.alloc 243) ?_);refine ag _ fI hm ?_;clear hm;intro w3 g6 hm)
  | ((with_reducible refine ae (some 9) (.build 243 #[(0,.const (.int .u32 1634760805)),(1,.const (.int .u32 857760878)),(2,.const (.int .u32 2036477234)),(3,.const (.int .u32 1797285236)),(12,.tmp 8)]) ?_);go_must (refine ay (u32s (startWs c)) _ rfl (built_start c) ?_))
  | ((with_reducible refine ae (some 7) (.alloc 243) ?_);refine ag _ fI hm ?_;clear hm;intro w4 g7 hm)
  | ((with_reducible refine ae none (.store 243 (.tmp 7) (.tmp 9)) ?_);refine ah 0 (u32s (startWs c)) hm rfl rfl rfl 16 dU (by simp [ao]) (rfl) (aX _) ?_;clear hm;intro w5 hm))

 refine cU 2 (by kernel_rfl) (by kernel_rfl) hm ?_
 clear hm
 intro w6 hm
 simp only [List.take_succ_cons,List.take_zero,List.drop_succ_cons,List.drop_zero]
 refine wps_sla3 16 fy dB 4 8 12 (by omega) (by omega) (by omega) rfl rfl rfl rfl ?_
 still_step
 refine wpStill_nil ?_
 go_wp2_with (first
  | (go_at_call 222;refine (ip _ _ _ _ _ _ _ _ (startWs c) ks _ (by simp [startWs]) (by rw [HKL.out];omega) HKL.out.symm (Nat.le_refl _) (by omega) HKB.out (fun h=>hm.ne 2 rfl h.symm) _ (hm.get 0 rfl) (Seg.row (hm.get 3 rfl))).mono ?_;rintro e w7 ⟨rfl,hr,hu⟩;replace hm:=hm.upd 0 rfl hu hr;clear hr hu))

 refine cU 2 (by kernel_rfl) (by kernel_rfl) hm ?_
 clear hm
 intro w8 hm
 simp only [List.take_succ_cons,List.take_zero,List.drop_succ_cons,List.drop_zero]
 still_step
 still_step
 refine wpStill_nil ?_
 go_wp2_with (first
  | (go_at_call 222;refine (ip _ _ _ _ _ _ _ _ (putL (startWs c) 4 ks 8) ns _ (by rw [HL1.out];omega) (by rw [HNL.out];omega) HNL.out.symm (Nat.le_refl _) (by omega) HNB.out (fun h=>hm.ne 1 rfl h.symm) _ (hm.get 0 rfl) (Seg.row (hm.get 2 rfl))).mono ?_;rintro e w9 ⟨rfl,hr,hu⟩;rw [HFP.out] at hr;replace hm:=hm.upd 0 rfl hu hr;clear hr hu)
  | ((with_reducible refine ae (some 16) (.load 243 (.tmp 7)) ?_);refine av 0 hm rfl rfl _ fy rfl 16 dU (HFL.out) ?_)
  | ((with_reducible refine ae none (.store 243 (.tmp 6) (.tmp 16)) ?_);refine ah 1 (u32s (firstOf ks ns c)) hm rfl rfl rfl 16 dU (by simp [ao]) (HFL.out) (aX _) ?_;clear hm;intro w10 hm))
 exact aH 1 hm rfl Tryz.results214 rfl _ fy rfl 16 dU HFL.out rfl ⟨rfl,hm.below⟩
end Go.Proofs.YtlpnafdkhoimhaaGreatDoor
namespace Go.Proofs.YtlpnafdkhoimhaaGreatDoor
open Go Go.RowKit
def QTab (w:World):Prop:=∀j,j<32→w.cell? ⟨2,j,none⟩=some (.int .i64 (qFlat.getD j 0))
theorem QTab.lt {w:World} (h:QTab w):2<w.heap.size:=block_lt_of_cell (h 0 (by omega))
theorem QTab.mem {w0 w:World} {S:List Nat} {rows:List (Nat×List Value×TypeId)} (h:QTab w0) (hm:Mem w0 S w rows) (hS:2 ∉ S):QTab w:=by
 intro j hj
 rw [hm.old (p:=⟨2,j,none⟩) h.lt hS]
 exact h j hj
theorem QTab.cells {w:World} (h:QTab w):∀j v,(i64s qFlat)[j]?=some v→w.cell? ⟨2,0+j,none⟩=some v:=by
 intro j v hv
 have hj:j<32:=by
  rcases Nat.lt_or_ge j 32 with h'|h'
  ·exact h'
  ·rw [List.getElem?_eq_none (by rw [jD];exact h')] at hv;cases hv
 rw [i64s_get qFlat j hj] at hv
 rw [Nat.zero_add,h j hj,hv]
theorem quarter_at (a b c d ya yb yc yd:Int) (hq:quart a b c d=(ya,yb,yc,yd)) (w:World) :
  Calls Tryz.prog 223 #[.int .u32 a,.int .u32 b,.int .u32 c,.int .u32 d] w fun e w'=>e=.returned (.tuple #[.int .u32 ya,.int .u32 yb,.int .u32 yc,.int .u32 yd])∧w'=w:=by
 have h:=quarter_any a b c d w
 unfold quartV at h
 rw [hq] at h
 exact h
theorem qFlat_part:∀k:Fin 8,(qFlat.drop (k.val * 4)).take 4=[((qAt k.val 0:Nat):Int),((qAt k.val 1:Nat):Int),((qAt k.val 2:Nat):Int),((qAt k.val 3:Nat):Int)]:=by decide +kernel
theorem qround_step (ws:List Int) (n k:Nat) (hk:n % 8=k) (ya yb yc yd:Int) (hq:quart ((qrounds ws n).getD (qAt k 0) 0) ((qrounds ws n).getD (qAt k 1) 0) ((qrounds ws n).getD (qAt k 2) 0) ((qrounds ws n).getD (qAt k 3) 0)=(ya,yb,yc,yd)) :
  ((((u32s (qrounds ws n)).set (qAt k 0) (.int .u32 ya)).set (qAt k 1) (.int .u32 yb)).set (qAt k 2) (.int .u32 yc)).set (qAt k 3) (.int .u32 yd)=u32s (qrounds ws (n+1)):=by
 rw [cH,cH,cH,cH,qrounds,hk,qset,hq]
theorem mixed16_any (ws:List Int) (hws:ws.length=16) (w:World) (ht:QTab w) :
  Calls Tryz.prog 215 #[.agg (u32s ws).toArray] w fun e w'=>e=.returned (.agg (u32s (qrounds ws 80)).toArray)∧Below w.heap.size w w':=by
 have hm:=Mem.start w
 have HT:Hid _:=ht
 have HW:Hid _:=hws
 clear ht hws
 go_enter Tryz.func215,Tryz.ntmps215
 go_wp2_with (first
  | ((with_reducible refine ae (some 1) (.box 243 (.tmp 0)) ?_);refine az (u32s ws) rfl hm ?_;clear hm;intro w1 g1 hm)
  | ((with_reducible refine ae (some 2) (.alloc 243) ?_);refine ag _ fI hm ?_;clear hm;intro w2 g2 hm))

 go_loopw [9] (fun vi wr=>∃r:Nat,r≤10∧vi=.int .i64 r∧Mem w [] wr [(g2,u32s (List.replicate 16 0),243),(g1,u32s (qrounds ws (8 * r)),243)]) (fun vi _=>10 - (intOf vi).toNat)
 case atStart=>exact ⟨0,by omega,rfl,hm⟩
 case round =>
  clear hm
  obtain ⟨r,hr,rfl,hm⟩:=hrel
  by_cases hlt:r<10
  ·have hri:(r:Int)<10:=by omega
   go_wp2_with (first
    | ((with_reducible refine ae (some 11) (.load 246 (.global 2)) ?_);refine iq (i64s qFlat) 0 rfl (QTab.cells (QTab.mem HT.out hm (by simp))) _ un_i84 rfl 32 sz_i84 rfl ?_))

   go_loopw [12] (fun vi wr=>∃k:Nat,k≤8∧vi=.int .i64 k∧Mem w [] wr [(g2,u32s (List.replicate 16 0),243),(g1,u32s (qrounds ws (8 * r+k)),243)]) (fun vi _=>8 - (intOf vi).toNat)
   case atStart=>exact ⟨0,by omega,rfl,hm⟩
   case round =>
    clear hm
    obtain ⟨k,hk,rfl,hm⟩:=hrel
    by_cases hk8:k<8
    ·have hki:(k:Int)<8:=by omega
     have hpart:=qFlat_part ⟨k,hk8⟩
     have hlt4:=qAt_lt ⟨k,hk8⟩
     have hq0:=hlt4 0
     have hq1:=hlt4 1
     have hq2:=hlt4 2
     have hq3:=hlt4 3
     obtain ⟨Y,hY⟩:∃Y,Y=quart ((qrounds ws (8 * r+k)).getD (qAt k 0) 0) ((qrounds ws (8 * r+k)).getD (qAt k 1) 0) ((qrounds ws (8 * r+k)).getD (qAt k 2) 0) ((qrounds ws (8 * r+k)).getD (qAt k 3) 0):=⟨_,rfl⟩
     obtain ⟨ya,yb,yc,yd⟩:=Y
     have hstep:=qround_step ws (8 * r+k) k (by omega) ya yb yc yd hY.symm
     have HLN:Hid ((u32s (qrounds ws (8 * r+k))).length=16):=by show _=_;rw [ao,cx,HW.out]
     obtain ⟨ia,hia⟩:∃i,i=qAt k 0:=⟨_,rfl⟩
     obtain ⟨ib,hib⟩:∃i,i=qAt k 1:=⟨_,rfl⟩
     obtain ⟨ic,hic⟩:∃i,i=qAt k 2:=⟨_,rfl⟩
     obtain ⟨id,hid⟩:∃i,i=qAt k 3:=⟨_,rfl⟩
     have ha:ia<16:=by rw [hia];exact hq0
     have hb:ib<16:=by rw [hib];exact hq1
     have hc:ic<16:=by rw [hic];exact hq2
     have hd:id<16:=by rw [hid];exact hq3
     simp only at hpart
     rw [←hia,←hib,←hic,←hid] at hY hstep hpart
     obtain ⟨xa,hxa⟩:∃x,x=(qrounds ws (8 * r+k)).getD ia 0:=⟨_,rfl⟩
     obtain ⟨xb,hxb⟩:∃x,x=(qrounds ws (8 * r+k)).getD ib 0:=⟨_,rfl⟩
     obtain ⟨xc,hxc⟩:∃x,x=(qrounds ws (8 * r+k)).getD ic 0:=⟨_,rfl⟩
     obtain ⟨xd,hxd⟩:∃x,x=(qrounds ws (8 * r+k)).getD id 0:=⟨_,rfl⟩
     rw [←hxa,←hxb,←hxc,←hxd] at hY
     have hlq:(qrounds ws (8 * r+k)).length=16:=by rw [cx,HW.out]
     have HA:Hid ((u32s (qrounds ws (8 * r+k)))[ia]?=some (.int .u32 xa)):=by rw [hxa];exact aU _ _ (by omega)
     have HB:Hid ((u32s (qrounds ws (8 * r+k)))[ib]?=some (.int .u32 xb)):=by rw [hxb];exact aU _ _ (by omega)
     have HC:Hid ((u32s (qrounds ws (8 * r+k)))[ic]?=some (.int .u32 xc)):=by rw [hxc];exact aU _ _ (by omega)
     have HD:Hid ((u32s (qrounds ws (8 * r+k)))[id]?=some (.int .u32 xd)):=by rw [hxd];exact aU _ _ (by omega)
     have HY:Hid (quart xa xb xc xd=(ya,yb,yc,yd)):=hY.symm
     have HST:Hid (((((u32s (qrounds ws (8 * r+k))).set ia (.int .u32 ya)).set ib (.int .u32 yb)).set ic (.int .u32 yc)).set id (.int .u32 yd)=u32s (qrounds ws (8 * r+(k+1)))):=hstep
     have HPT:Hid (((i64s qFlat).drop (k * 4)).take 4=i64s [(ia:Int),(ib:Int),(ic:Int),(id:Int)]):=by
      show _=_
      rw [←hpart]
      simp [i64s,List.map_take,List.map_drop]
     have hai:(ia:Int)<16:=by omega
     have hbi:(ib:Int)<16:=by omega
     have hci:(ic:Int)<16:=by omega
     have hdi:(id:Int)<16:=by omega
     clear hpart hlt4 hq0 hq1 hq2 hq3 hY hstep hia hib hic hid hxa hxb hxc hxd hlq
     go_wp2_with (first
      | ((with_reducible refine ae (some 14) (.index 246 (.tmp 11) (.tmp 12)) ?_);go_must (refine wpl_ixp 8 un_i84 4 sz_i4 ag_i4 (i64s qFlat) (i64s [(ia:Int),(ib:Int),(ic:Int),(id:Int)]) k hk8 rfl rfl rfl HPT.out ?_))
      | ((with_reducible refine ae (some 4) (.alloc 245) ?_);refine ag _ zero_i4 hm ?_;clear hm;intro w5 g4 hm)
      | ((with_reducible refine ae none (.store 245 (.tmp 4) (.tmp 14)) ?_);refine ah 0 (i64s [(ia:Int),(ib:Int),(ic:Int),(id:Int)]) hm rfl rfl rfl 4 sz_i4 (by simp [jD]) (rfl) (i64s_one _) ?_;clear hm;intro w6 hm))

     have c0:w6.cell? ⟨g4,0,none⟩=some (.int .i64 ia):=hm.cell 0 rfl 0
     have c1:w6.cell? ⟨g4,1,none⟩=some (.int .i64 ib):=hm.cell 0 rfl 1
     have c2:w6.cell? ⟨g4,2,none⟩=some (.int .i64 ic):=hm.cell 0 rfl 2
     have c3:w6.cell? ⟨g4,3,none⟩=some (.int .i64 id):=hm.cell 0 rfl 3
     have HM:Hid _:=hm
     clear hm
     go_quiet (fail)
     go_wp2_with fail
     clear c0 c1 c2 c3
     have hm:=HM.out.drewN 1
     refine aA ?_
     refine gT (T:=fun W=>Mem w [] W [(g4,i64s [(ia:Int),(ib:Int),(ic:Int),(id:Int)],245),(g2,u32s (List.replicate 16 0),243),(g1,u32s (qrounds ws (8 * r+k)),243)]) (T2:=fun _=>True) 16 (by kernel_rfl) (HM.out.drewN _) ?_
     clear hm
     intro w7 hm
     refine aE 0 (v:=.int .i64 (ia:Int)) rfl (by kernel_rfl) (by kernel_rfl) (by kernel_rfl) rfl rfl (fun W _=>by go_simp) hm ?_
     go_simp
     refine aE 1 (v:=.int .i64 (ib:Int)) rfl (by kernel_rfl) (by kernel_rfl) (by kernel_rfl) rfl rfl (fun W _=>by go_simp) hm ?_
     go_simp
     refine aE 2 (v:=.int .i64 (ic:Int)) rfl (by kernel_rfl) (by kernel_rfl) (by kernel_rfl) rfl rfl (fun W _=>by go_simp) hm ?_
     go_simp
     refine aE 3 (v:=.int .i64 (id:Int)) rfl (by kernel_rfl) (by kernel_rfl) (by kernel_rfl) rfl rfl (fun W _=>by go_simp) hm ?_
     go_simp
     refine aE 4 (v:=.int .i64 (ia:Int)) rfl (by kernel_rfl) (by kernel_rfl) (by kernel_rfl) rfl rfl (fun W _=>by go_simp) hm ?_
     go_simp
     refine aE 5 (v:=.pointer (some ⟨g1,ia,none⟩)) rfl (by kernel_rfl) (by kernel_rfl) (by kernel_rfl) rfl rfl (fun W _=>by go_simp) hm ?_
     go_simp
     refine bX 6 (v:=.int .u32 xa) rfl (by kernel_rfl) (by kernel_rfl) (by kernel_rfl) rfl rfl (by kernel_rfl) rfl (fun W hW=>eI ia (.int .u32 xa) (Mem.get hW 2 rfl) rfl ey HA.out) hm ?_
     go_simp
     refine aE 7 (v:=.int .i64 (ib:Int)) rfl (by kernel_rfl) (by kernel_rfl) (by kernel_rfl) rfl rfl (fun W _=>by go_simp) hm ?_
     go_simp
     refine aE 8 (v:=.pointer (some ⟨g1,ib,none⟩)) rfl (by kernel_rfl) (by kernel_rfl) (by kernel_rfl) rfl rfl (fun W _=>by go_simp) hm ?_
     go_simp
     refine bX 9 (v:=.int .u32 xb) rfl (by kernel_rfl) (by kernel_rfl) (by kernel_rfl) rfl rfl (by kernel_rfl) rfl (fun W hW=>eI ib (.int .u32 xb) (Mem.get hW 2 rfl) rfl ey HB.out) hm ?_
     go_simp
     refine aE 10 (v:=.int .i64 (ic:Int)) rfl (by kernel_rfl) (by kernel_rfl) (by kernel_rfl) rfl rfl (fun W _=>by go_simp) hm ?_
     go_simp
     refine aE 11 (v:=.pointer (some ⟨g1,ic,none⟩)) rfl (by kernel_rfl) (by kernel_rfl) (by kernel_rfl) rfl rfl (fun W _=>by go_simp) hm ?_
     go_simp
     refine bX 12 (v:=.int .u32 xc) rfl (by kernel_rfl) (by kernel_rfl) (by kernel_rfl) rfl rfl (by kernel_rfl) rfl (fun W hW=>eI ic (.int .u32 xc) (Mem.get hW 2 rfl) rfl ey HC.out) hm ?_
     go_simp
     refine aE 13 (v:=.int .i64 (id:Int)) rfl (by kernel_rfl) (by kernel_rfl) (by kernel_rfl) rfl rfl (fun W _=>by go_simp) hm ?_
     go_simp
     refine aE 14 (v:=.pointer (some ⟨g1,id,none⟩)) rfl (by kernel_rfl) (by kernel_rfl) (by kernel_rfl) rfl rfl (fun W _=>by go_simp) hm ?_
     go_simp
     refine bX 15 (v:=.int .u32 xd) rfl (by kernel_rfl) (by kernel_rfl) (by kernel_rfl) rfl rfl (by kernel_rfl) rfl (fun W hW=>eI id (.int .u32 xd) (Mem.get hW 2 rfl) rfl ey HD.out) hm ?_
     go_simp
     refine jl (by kernel_rfl) rfl rfl ?_
     intro K hK
     go_wp2_with (go_at_call 223;refine (quarter_at _ _ _ _ ya yb yc yd HY.out _).mono ?_;rintro e w8 ⟨rfl,rfl⟩)
     refine hK _ _ trivial ?_
     clear hK K
     refine aT 17 (v:=.tuple #[.int .u32 ya,.int .u32 yb,.int .u32 yc,.int .u32 yd]) rfl (by kernel_rfl) rfl (fun W _=>by go_simp) trivial ?_
     go_simp
     refine aT 18 (v:=.int .u32 ya) rfl (by kernel_rfl) rfl (fun W _=>by go_simp) trivial ?_
     go_simp
     refine aT 19 (v:=.int .u32 yb) rfl (by kernel_rfl) rfl (fun W _=>by go_simp) trivial ?_
     go_simp
     refine aT 20 (v:=.int .u32 yc) rfl (by kernel_rfl) rfl (fun W _=>by go_simp) trivial ?_
     go_simp
     refine aT 21 (v:=.int .u32 yd) rfl (by kernel_rfl) rfl (fun W _=>by go_simp) trivial ?_
     go_simp
     refine aT 22 (v:=.pointer (some ⟨g1,ia,none⟩)) rfl (by kernel_rfl) rfl (fun W _=>by go_simp) trivial ?_
     go_simp
     refine aP 23 (by kernel_rfl) rfl rfl ?_
     intro K hK
     refine bj 2 ia (.int .u32 ya) hm rfl rfl rfl dB (by rw [HLN.out];exact ha) rfl rfl ?_
     clear hm
     intro v0 hm
     refine wpList_nil ?_
     refine hK _ _ trivial ?_
     clear hK K
     refine aT 24 (v:=.pointer (some ⟨g1,ib,none⟩)) rfl (by kernel_rfl) rfl (fun W _=>by go_simp) trivial ?_
     go_simp
     refine aP 25 (by kernel_rfl) rfl rfl ?_
     intro K hK
     refine bj 2 ib (.int .u32 yb) hm rfl rfl rfl dB (by rw [List.length_set,HLN.out];exact hb) rfl rfl ?_
     clear hm
     intro v1 hm
     refine wpList_nil ?_
     refine hK _ _ trivial ?_
     clear hK K
     refine aT 26 (v:=.pointer (some ⟨g1,ic,none⟩)) rfl (by kernel_rfl) rfl (fun W _=>by go_simp) trivial ?_
     go_simp
     refine aP 27 (by kernel_rfl) rfl rfl ?_
     intro K hK
     refine bj 2 ic (.int .u32 yc) hm rfl rfl rfl dB (by rw [List.length_set,List.length_set,HLN.out];exact hc) rfl rfl ?_
     clear hm
     intro v2 hm
     refine wpList_nil ?_
     refine hK _ _ trivial ?_
     clear hK K
     refine aT 28 (v:=.pointer (some ⟨g1,id,none⟩)) rfl (by kernel_rfl) rfl (fun W _=>by go_simp) trivial ?_
     go_simp
     refine aP 29 (by kernel_rfl) rfl rfl ?_
     intro K hK
     refine bj 2 id (.int .u32 yd) hm rfl rfl rfl dB (by rw [List.length_set,List.length_set,List.length_set,HLN.out];exact hd) rfl rfl ?_
     clear hm
     intro v3 hm
     refine wpList_nil ?_
     refine hK _ _ trivial ?_
     clear hK K
     refine wpAnyH_done (by kernel_rfl) ?_ _
     simp only [endsIn]
     have hn:Mem w [] v3 [(g2,u32s (List.replicate 16 0),243),(g1,u32s (qrounds ws (8 * r+(k+1))),243)]:=by
      have h2:=hm.tail
      simp only [List.set_cons_succ,List.set_cons_zero,HST.out] at h2
      exact h2
     clear hm
     go_wp2_with fail
     go_roundw
     case rel=>exact ⟨k+1,by omega,by go_num,hn⟩
     case measure=>simp [intOf];omega
    ·have hk8':k=8:=by omega
     subst hk8'
     go_wp2_with fail
     go_roundw
     case rel=>exact ⟨r+1,by omega,by go_num,hm⟩
     case measure=>simp [intOf];omega
  ·have hr10:r=10:=by omega
   subst hr10
   have HLN:Hid ((u32s (qrounds ws 80)).length=16):=by show _=_;rw [ao,cx,HW.out]
   replace hm:Mem w [] wr [(g2,u32s (List.replicate 16 0),243),(g1,u32s (qrounds ws (80)),243)]:=hm
   go_wp2_with (first
    | ((with_reducible refine ae (some 51) (.load 243 (.tmp 1)) ?_);refine av 1 hm rfl rfl _ fy rfl 16 dU (HLN.out) ?_)
    | ((with_reducible refine ae none (.store 243 (.tmp 2) (.tmp 51)) ?_);refine ah 0 (u32s (qrounds ws 80)) hm rfl rfl rfl 16 dU (by simp [ao]) (HLN.out) (aX _) ?_;clear hm;intro w8 hm))
   exact aH 0 hm rfl Tryz.results215 rfl _ fy rfl 16 dU HLN.out rfl ⟨rfl,hm.below⟩
end Go.Proofs.YtlpnafdkhoimhaaGreatDoor
namespace Go.Proofs.YtlpnafdkhoimhaaGreatDoor
open Go Go.RowKit
theorem lu (ws:List Int) (hws:ws.length=16) (w:World) :
  Calls Tryz.prog 216 #[.agg (u32s ws).toArray] w fun e w'=>e=.returned (.agg (u8s (asL ws)).toArray)∧Below w.heap.size w w':=by
 have hm:=Mem.start w
 go_enter Tryz.func216,Tryz.ntmps216
 go_wp2_with (first
  | ((with_reducible refine ae (some 1) (.box 243 (.tmp 0)) ?_);refine az (u32s ws) rfl hm ?_;clear hm;intro w1 g1 hm)
  | ((with_reducible refine ae (some 2) (.alloc 108) ?_);refine ag _ cG hm ?_;clear hm;intro w2 g2 hm)
  | ((with_reducible refine ae (some 3) (.alloc 108) ?_);refine ag _ cG hm ?_;clear hm;intro w3 g3 hm)
  | ((with_reducible refine ae (some 7) (.load 243 (.tmp 1)) ?_);refine av 2 hm rfl rfl _ fy rfl 16 dU (by rw [ao];exact hws) ?_))

 go_loopw [8] (fun vi wr=>∃k:Nat,k≤16∧vi=.int .i64 k∧Mem w [] wr [(g3,u8s (lRow ws k),108),(g2,u8s (List.replicate 64 0),108),(g1,u32s ws,243)]) (fun vi _=>16 - (intOf vi).toNat)
 case atStart=>exact ⟨0,by omega,rfl,hm⟩
 case round =>
  clear hm
  obtain ⟨k,hk,rfl,hm⟩:=hrel
  by_cases hlt:k<16
  ·obtain ⟨x,hx⟩:∃x,x=ws.getD k 0:=⟨_,rfl⟩
   have hvx:(u32s ws)[k]?=some (.int .u32 x):=by rw [aU _ _ (by omega),hx]
   have e4:IntKind.i64.wrap (4 * (k:Int))=((4 * k:Nat):Int):=by rw [show 4 * (k:Int)=((4 * k:Nat):Int) by omega,hP _ (by omega)]
   have hst:splice (u8s (lRow ws k)) (4 * k) (u8s (lfour x))=u8s (lRow ws (k+1)):=by
    rw [hx,←lRow_step ws hws k hlt];simp [splice,u8s]
   have hln:4 * k+4≤(u8s (lRow ws k)).length:=by rw [aa,lRow_length ws hws k hk];omega
   have HV:Hid _:=hvx
   have HE:Hid _:=e4
   have HS:Hid _:=hst
   have HL:Hid _:=hln
   clear hvx e4 hst hln hx
   go_wp2_with (first
    | ((with_reducible refine ae (some 11) (.index 243 (.tmp 7) (.tmp 8)) ?_);refine wpl_ixa 16 fy dB ey (u32s ws) k (.int .u32 x) (hlt) rfl rfl (rfl) (HV.out) ?_)
    | (go_at_call 224;refine (lE _ _).mono ?_;rintro e w4 ⟨rfl,hb⟩;replace hm:=hm.call hb;clear hb)
    | ((with_reducible refine ae (some 6) (.alloc 271) ?_);refine ag _ eW hm ?_;clear hm;intro w5 g5 hm)
    | ((with_reducible refine ae none (.store 271 (.tmp 6) (.tmp 13)) ?_);refine ah 0 (u8s (lfour x)) hm rfl rfl rfl 4 gI (by simp [aa]) (rfl) (ai _) ?_;clear hm;intro w6 hm))

   refine cU 4 (by kernel_rfl) (by kernel_rfl) hm ?_
   clear hm
   intro w7 hm
   simp only [List.take_succ_cons,List.take_zero,List.drop_succ_cons,List.drop_zero]
   still_step
   still_step
   refine gt 64 cD aQ (4 * k) (64 - 4 * k) (by omega) (by omega) rfl (Or.inl (dl _ rfl HE.out)) (Or.inr ⟨rfl,by omega⟩) ?_
   still_step
   refine wpStill_nil ?_
   go_wp2_with (first
    | ((with_reducible refine ae (some 18) (.call {callee:=.builtin .copy,args:=#[.tmp 16,.tmp 17],argTypes:=#[56,56]}) ?_);go_must (refine iU 1 (4 * k) (64 - 4 * k) (64 - 4 * k) ⟨g5,0,none⟩ 4 4 (u8s (lfour x)) hm rfl rfl rfl _ aF aQ (by have h4:(u8s (lfour x)).length=4:=rfl;rw [h4];show 4=min 4 (64 - 4 * k);omega) (by exact (Seg.row (hm.get 0 rfl)).src) (by exact HL.out) (ai _) ?_);clear hm;intro w8 hm))

   have hn:Mem w [] w8 [(g3,u8s (lRow ws (k+1)),108),(g2,u8s (List.replicate 64 0),108),(g1,u32s ws,243)]:=by
    rw [HS.out] at hm
    exact hm.tail
   clear hm
   go_roundw
   case rel=>exact ⟨k+1,by omega,by go_num,hn⟩
   case measure=>simp [intOf];omega
  ·have hk16:k=16:=by omega
   subst hk16
   rw [lRow_full ws hws] at hm
   have hln:(u8s (asL ws)).length=64:=by rw [aa,fq,hws]
   have HL:Hid _:=hln
   clear hln
   go_wp2_with (first
    | ((with_reducible refine ae (some 20) (.load 108 (.tmp 3)) ?_);refine av 0 hm rfl rfl _ cD rfl 64 bw (HL.out) ?_)
    | ((with_reducible refine ae none (.store 108 (.tmp 2) (.tmp 20)) ?_);refine ah 1 (u8s (asL ws)) hm rfl rfl rfl 64 bw (by simp [aa]) (HL.out) (ai _) ?_;clear hm;intro w8 hm))
   exact aH 1 hm rfl Tryz.results216 rfl _ cD rfl 64 bw HL.out rfl ⟨rfl,hm.below⟩
theorem block_any (ks ns:List Int) (c:Int) (hkl:ks.length=32) (hnl:ns.length=12) (hkb:Bytes ks) (hnb:Bytes ns) (w:World) (ht:QTab w) :
  Calls Tryz.prog 202 #[.agg (u8s ks).toArray,.agg (u8s ns).toArray,.int .u32 c] w fun e w'=>e=.returned (.agg (u8s (blockOf ks ns c)).toArray)∧Below w.heap.size w w':=by
 have hm:=Mem.start w
 have HT:Hid _:=ht
 have HKB:Hid _:=hkb
 have HNB:Hid _:=hnb
 have HKL:Hid _:=hkl
 have HNL:Hid _:=hnl
 have HKU:Hid ((u8s ks).length=32):=by show _=_;rw [aa];exact hkl
 have HNU:Hid ((u8s ns).length=12):=by show _=_;rw [aa];exact hnl
 obtain ⟨fs,hfs⟩:∃fs,fs=firstOf ks ns c:=⟨_,rfl⟩
 obtain ⟨vs,hvs⟩:∃vs,vs=qrounds fs 80:=⟨_,rfl⟩
 have HF:Hid (fs.length=16):=by show _=_;rw [hfs,eo]
 have HV:Hid (vs.length=16):=by show _=_;rw [hvs,cx];exact HF.out
 have HVF:Hid (vs.length=fs.length):=by show _=_;rw [HV.out,HF.out]
 have HFE:Hid (firstOf ks ns c=fs):=hfs.symm
 have HVE:Hid (qrounds fs 80=vs):=hvs.symm
 have HB:Hid (blockOf ks ns c=asL (sumOf vs fs)):=by show _=_;rw [hvs,hfs];rfl
 clear ht hkb hnb hkl hnl hfs hvs
 go_enter Tryz.func202,Tryz.ntmps202
 go_wp2_with (first
  | ((with_reducible refine ae (some 3) (.box 43 (.tmp 0)) ?_);refine az (u8s ks) rfl hm ?_;clear hm;intro w1 g3 hm)
  | ((with_reducible refine ae (some 4) (.box 139 (.tmp 1)) ?_);refine az (u8s ns) rfl hm ?_;clear hm;intro w2 g4 hm)
  | ((with_reducible refine ae (some 6) (.alloc 108) ?_);refine ag _ cG hm ?_;clear hm;intro w3 g6 hm)
  | ((with_reducible refine ae (some 10) (.load 43 (.tmp 3)) ?_);refine av 2 hm rfl rfl _ aw rfl 32 aq (HKU.out) ?_)
  | ((with_reducible refine ae (some 11) (.load 139 (.tmp 4)) ?_);refine av 1 hm rfl rfl _ dK rfl 12 dI (HNU.out) ?_)
  | (go_at_call 214;refine (swords_any ks ns c HKL.out HNL.out HKB.out HNB.out _).mono ?_;rintro e w4 ⟨he,hb⟩;rw [HFE.out] at he;subst he;replace hm:=hm.call hb;clear hb)
  | ((with_reducible refine ae (some 7) (.alloc 243) ?_);refine ag _ fI hm ?_;clear hm;intro w5 g7 hm)
  | ((with_reducible refine ae none (.store 243 (.tmp 7) (.tmp 13)) ?_);refine ah 0 (u32s fs) hm rfl rfl rfl 16 dU (by simp [ao]) (by rw [ao];exact HF.out) (aX _) ?_;clear hm;intro w6 hm)
  | ((with_reducible refine ae (some 14) (.load 243 (.tmp 7)) ?_);refine av 0 hm rfl rfl _ fy rfl 16 dU (by rw [ao];exact HF.out) ?_)
  | (go_at_call 215;refine (mixed16_any fs HF.out _ (QTab.mem HT.out hm (by simp))).mono ?_;rintro e w7 ⟨he,hb⟩;rw [HVE.out] at he;subst he;replace hm:=hm.call hb;clear hb)
  | ((with_reducible refine ae (some 8) (.alloc 243) ?_);refine ag _ fI hm ?_;clear hm;intro w8 g8 hm)
  | ((with_reducible refine ae none (.store 243 (.tmp 8) (.tmp 15)) ?_);refine ah 0 (u32s vs) hm rfl rfl rfl 16 dU (by simp [ao]) (by rw [ao];exact HV.out) (aX _) ?_;clear hm;intro w9 hm))

 go_loopw [16] (fun vi wr=>∃i:Nat,i≤16∧vi=.int .i64 i∧Mem w [] wr [(g8,u32s (sumUpto vs fs i),243),(g7,u32s fs,243),(g6,u8s (List.replicate 64 0),108),(g4,u8s ns,139),(g3,u8s ks,43)]) (fun vi _=>16 - (intOf vi).toNat)
 case atStart=>exact ⟨0,by omega,rfl,by rw [sumUpto_zero];exact hm⟩
 case round =>
  clear hm
  obtain ⟨i,hi,rfl,hm⟩:=hrel
  by_cases hlt:i<16
  ·have hii:(i:Int)<16:=by omega
   obtain ⟨x,hx⟩:∃x,x=vs.getD i 0:=⟨_,rfl⟩
   obtain ⟨y,hy⟩:∃y,y=fs.getD i 0:=⟨_,rfl⟩
   have HX:Hid ((u32s (sumUpto vs fs i))[i]?=some (.int .u32 x)):=by
    show _=_
    rw [aU _ _ (by rw [f3 _ _ HVF.out,HV.out];exact hlt),sumUpto_get _ _ HVF.out i (by rw [HV.out];exact hlt),hx]
   have HY:Hid ((u32s fs)[i]?=some (.int .u32 y)):=by
    show _=_
    rw [aU _ _ (by rw [HF.out];exact hlt),hy]
   have HST:Hid ((u32s (sumUpto vs fs i)).set i (.int .u32 ((x+y) % 4294967296))=u32s (sumUpto vs fs (i+1))):=by
    show _=_
    rw [cH,hx,hy,sumUpto_set _ _ HVF.out i (by rw [HV.out];exact hlt)]
   have HLN:Hid (i<(u32s (sumUpto vs fs i)).length):=by show _<_;rw [ao,f3 _ _ HVF.out,HV.out];exact hlt
   clear hx hy
   go_wp2_with fail
   refine cU 8 (by kernel_rfl) (by kernel_rfl) hm ?_
   clear hm
   intro w10 hm
   simp only [List.take_succ_cons,List.take_zero,List.drop_succ_cons,List.drop_zero]
   still_step
   still_step
   refine gB i (.int .u32 x) (hm.get 0 rfl) rfl ey HX.out ?_
   still_step
   still_step
   refine gB i (.int .u32 y) (hm.get 1 rfl) rfl ey HY.out ?_
   still_step
   still_step
   refine wpStill_nil ?_
   go_wp2_with (first
    | ((with_reducible refine ae none (.store 69 (.tmp 26) (.tmp 25)) ?_);refine bj 0 i (.int .u32 ((x+y) % 4294967296)) hm rfl (rfl) rfl dB (HLN.out) rfl rfl ?_;clear hm;intro w11 hm))

   rw [List.set_cons_zero,HST.out] at hm
   go_roundw
   case rel=>exact ⟨i+1,by omega,by go_num,hm⟩
   case measure=>simp [intOf];omega
  ·have hi16:i=16:=by omega
   subst hi16
   rw [sumUpto_full vs fs HVF.out 16 HV.out] at hm
   have HSL:Hid ((sumOf vs fs).length=16):=by show _=_;rw [di _ _ HVF.out];exact HV.out
   have HBL:Hid ((u8s (blockOf ks ns c)).length=64):=by show _=_;rw [aa,eJ]
   go_wp2_with (first
    | ((with_reducible refine ae (some 28) (.load 243 (.tmp 8)) ?_);refine av 0 hm rfl rfl _ fy rfl 16 dU (by rw [ao];exact HSL.out) ?_)
    | (go_at_call 216;refine (lu (sumOf vs fs) HSL.out _).mono ?_;rintro e w12 ⟨he,hb⟩;rw [←HB.out] at he;subst he;replace hm:=hm.call hb;clear hb)
    | ((with_reducible refine ae none (.store 108 (.tmp 6) (.tmp 29)) ?_);refine ah 2 (u8s (blockOf ks ns c)) hm rfl rfl rfl 64 bw (by simp [aa]) (HBL.out) (ai _) ?_;clear hm;intro w13 hm))
   exact aH 2 hm rfl Tryz.results202 rfl _ cD rfl 64 bw HBL.out rfl ⟨rfl,hm.below⟩
end Go.Proofs.YtlpnafdkhoimhaaGreatDoor
namespace Go.Proofs.YtlpnafdkhoimhaaGreatDoor
open Go Go.RowKit
theorem mask_any (g off n cap:Nat) (l b:List Int) (t:TypeId) (hl:off+n≤l.length) (hn:n≤64) (hbl:b.length=64) (w:World) (hr:Row w g (u8s l) t) :
  Calls Tryz.prog 201 #[.slice (some ⟨g,off,none⟩) n cap,.agg (u8s b).toArray] w fun e w'=>e=.returned (.tuple #[])∧Row w' g (u8s (maskL l off n b)) t∧Upd g w w':=by
 have hm:=Mem.enter hr
 have HB:Hid _:=hbl
 clear hr hbl
 go_enter Tryz.func201,Tryz.ntmps201
 go_wp2_with (first
  | ((with_reducible refine ae (some 3) (.box 108 (.tmp 1)) ?_);refine az (u8s b) rfl hm ?_;clear hm;intro w1 g3 hm))

 go_loopw [7] (fun vi wr=>∃k:Nat,k≤n∧vi=.int .i64 k∧Mem w [g] wr [(g3,u8s b,108),(g,u8s (maskL l off k b),t)]) (fun vi _=>n - (intOf vi).toNat)
 case atStart=>exact ⟨0,by omega,rfl,by rw [maskL_zero];exact hm⟩
 case round =>
  clear hm
  obtain ⟨k,hk,rfl,hm⟩:=hrel
  by_cases hlt:k<n
  ·have hki:(k:Int)<(n:Int):=by omega
   have hk64:(k:Int)<64:=by omega
   obtain ⟨x,hx⟩:∃x,x=l.getD (off+k) 0:=⟨_,rfl⟩
   obtain ⟨y,hy⟩:∃y,y=b.getD k 0:=⟨_,rfl⟩
   have HX:Hid ((u8s (maskL l off k b))[off+k]?=some (.int .u8 x)):=by
    show _=_
    rw [cK _ _ (by rw [fp];omega),maskL_get _ _ _ _ (by omega),hx]
   have HY:Hid ((u8s b)[k]?=some (.int .u8 y)):=by
    show _=_
    rw [cK _ _ (by rw [HB.out];omega),hy]
   have HST:Hid ((u8s (maskL l off k b)).set (off+k) (.int .u8 (bits .xor .u8 x y))=u8s (maskL l off (k+1) b)):=by
    show _=_
    rw [bW,hx,hy,maskL_step _ _ _ _ (by omega)]
   have HLN:Hid (off+k<(u8s (maskL l off k b)).length):=by show _<_;rw [aa,fp];omega
   clear hx hy
   go_wp2_with fail
   refine cU 9 (by kernel_rfl) (by kernel_rfl) hm ?_
   clear hm
   intro w2 hm
   simp only [List.take_succ_cons,List.take_zero,List.drop_succ_cons,List.drop_zero]
   still_step
   still_step
   still_step
   refine gB (off+k) (.int .u8 x) (hm.get 1 rfl) rfl eP HX.out ?_
   still_step
   still_step
   refine gB k (.int .u8 y) (hm.get 0 rfl) rfl eP HY.out ?_
   still_step
   still_step
   refine wpStill_nil ?_
   go_wp2_with (first
    | ((with_reducible refine ae none (.store 5 (.tmp 18) (.tmp 17)) ?_);go_must (refine bj 1 (off+k) (.int .u8 (bits .xor .u8 x y)) hm rfl rfl rfl aQ HLN.out rfl rfl ?_);clear hm;intro w3 hm))

   rw [List.set_cons_succ,List.set_cons_zero,HST.out] at hm
   go_roundw
   case rel=>exact ⟨k+1,by omega,by go_num,hm⟩
   case measure=>simp [intOf];omega
  ·have hkn:k=n:=by omega
   subst hkn
   have hni:¬(k:Int)<(k:Int):=by omega
   go_wp2_with fail
   go_end0
   exact ⟨rfl,hm.get 1 rfl,hm.toUpd⟩
theorem xor_any (ks ns ms:List Int) (c:Int) (v:Value) (hkl:ks.length=32) (hnl:ns.length=12) (hkb:Bytes ks) (hnb:Bytes ns) (hc:Word c) (hml:ms.length≤60000) (w:World) (ht:QTab w) (hv:SlOld w v ms) :
  Calls Tryz.prog 180 #[.agg (u8s ks).toArray,.agg (u8s ns).toArray,.int .u32 c,v] w fun e w'=>∃g,e=.returned (.slice (some ⟨g,0,none⟩) ms.length ms.length)∧w.heap.size≤g∧Row w' g (u8s (xorOf ks ns c ms)) 5∧Below w.heap.size w w':=by
 obtain ⟨p,cap,rfl,hcap⟩:=hv.len
 have hm:=Mem.start w
 have HT:Hid _:=ht
 have HKB:Hid _:=hkb
 have HNB:Hid _:=hnb
 have HKL:Hid _:=hkl
 have HNL:Hid _:=hnl
 have HV:Hid (SlOld w (.slice p ms.length cap) ms):=hv
 have HKU:Hid ((u8s ks).length=32):=by show _=_;rw [aa];exact hkl
 have HNU:Hid ((u8s ns).length=12):=by show _=_;rw [aa];exact hnl
 have HCP:Hid (splice (u8s (List.replicate ms.length 0)) 0 (u8s (ms.take ms.length))=u8s (xorUp ks ns c ms 0)):=by
  show _=_
  rw [cF,xorUp_zero,List.take_of_length_le (Nat.le_refl _)]
  simp
 obtain ⟨hc0,hc1⟩:=hc
 clear ht hkb hnb hkl hnl hv
 go_enter Tryz.func180,Tryz.ntmps180
 go_wp2_with (first
  | ((with_reducible refine ae (some 4) (.box 43 (.tmp 0)) ?_);refine az (u8s ks) rfl hm ?_;clear hm;intro w1 g4 hm)
  | ((with_reducible refine ae (some 5) (.box 139 (.tmp 1)) ?_);refine az (u8s ns) rfl hm ?_;clear hm;intro w2 g5 hm)
  | ((with_reducible refine ae (some 14) (.makeSlice 56 (.tmp 13) (.tmp 13)) ?_);go_must (refine ff _ aF _ bF rfl ms.length rfl rfl rfl rfl (by omega) hm ?_);clear hm;intro w3 g9 hm;replace hm:Mem w [] w3 [(g9,u8s (List.replicate ms.length 0),5),(g5,u8s ns,139),(g4,u8s ks,43)]:=(by have e:u8s (List.replicate ms.length 0)=List.replicate ms.length (.int .u8 0):=(by simp [u8s]);rw [e];exact hm))
  | ((with_reducible refine ae (some 17) (.call {callee:=.builtin .copy,args:=#[.tmp 15,.tmp 16],argTypes:=#[56,56]}) ?_);go_must (refine dy 0 ms ms.length (u8s (xorUp ks ns c ms 0)) hm rfl rfl rfl _ aF aQ (SlOld.mem HV.out hm) (Nat.min_self _).symm (by simp [aa]) HCP.out ?_);clear hm;intro w4 hm))

 have hge9:w.heap.size≤g9:=by
  have h:=hm.fresh _ (List.mem_cons_self ..)
  simpa using h
 have HGE:Hid (w.heap.size≤g9):=hge9
 clear hge9
 replace hm:Mem w [] w4 [(g9,u8s (xorUp ks ns c ms (64 * 0)),5),(g5,u8s ns,139),(g4,u8s ks,43)]:=hm
 go_loopw [2,10] (fun vc vr wr=>∃j:Nat,vc=.int .u32 ((c+(j:Int)) % 4294967296)∧64 * j<ms.length+64∧(∃q,vr=.slice q (ms.length - 64 * j) (ms.length - 64 * j)∧(64 * j<ms.length→q=some ⟨g9,64 * j,none⟩))∧Mem w [] wr [(g9,u8s (xorUp ks ns c ms (64 * j)),5),(g5,u8s ns,139),(g4,u8s ks,43)]) (fun _ vr _=>slLen vr)
 case atStart=>exact ⟨0,by rw [show (c+((0:Nat):Int)) % 4294967296=c by omega],by omega,⟨_,rfl,fun _=>rfl⟩,hm⟩
 case round =>
  clear hm
  obtain ⟨j,rfl,hj,⟨q,rfl,hq⟩,hm⟩:=hrel
  by_cases hlt:64 * j<ms.length
  ·obtain rfl:=hq hlt
   clear hq
   obtain ⟨L,hL⟩:∃L,L=ms.length - 64 * j:=⟨_,rfl⟩
   rw [←hL]
   have hL0:0<L:=by omega
   have hLi:(0:Int)<(L:Int):=by omega
   have hLi2:(L:Int) > 0:=by omega
   have HL:Hid (L=ms.length - 64 * j):=hL
   have HLE:Hid (64 * j+L=ms.length):=by show _=_;omega
   clear hL
   have HCE:Hid (((c+(j:Int)) % 4294967296+1) % 4294967296=(c+((j+1:Nat):Int)) % 4294967296):=by show _=_;omega
   by_cases h64:64<L
   ·have h64i:(64:Int)<(L:Int):=by omega
    have HST:Hid (maskL (xorUp ks ns c ms (64 * j)) (64 * j) 64 (blockOf ks ns ((c+(j:Int)) % 4294967296))=xorUp ks ns c ms (64 * (j+1))):=by
     show _=_
     rw [j7 ks ns c ms j 64 (by omega)]
     rw [show 64 * j+64=64 * (j+1) by omega]
    have HFT:Hid (64 * j+64≤(xorUp ks ns c ms (64 * j)).length):=by show _≤_;have:=HLE.out;rw [eh];omega
    go_wp2_with fail
    refine aA ?_
    refine aZ (T:=fun W=>Mem w [] W [(g5,u8s ns,139),(g4,u8s ks,43)]) (by kernel_rfl) hm ?_
    clear hm
    intro w5 hm
    refine aT 0 (v:=.slice (some ⟨g9,64 * j,none⟩) L L) rfl (by kernel_rfl) rfl (fun W _=>by go_simp) hm.tail ?_
    go_simp
    refine aT 1 (v:=.int .i64 64) rfl (by kernel_rfl) rfl (fun W _=>by go_simp) hm.tail ?_
    go_simp
    refine aT 2 (v:=.int .i64 64) rfl (by kernel_rfl) rfl (fun W _=>by go_simp) hm.tail ?_
    go_simp
    refine aT 3 (v:=.slice (some ⟨g9,64 * j,none⟩) 64 64) rfl (by kernel_rfl) rfl (fun W _=>exec_sl3 aF aQ 64 (by omega) (by omega) rfl rfl rfl rfl rfl) hm.tail ?_
    go_simp
    refine aT 4 (v:=.agg (u8s ks).toArray) rfl (by kernel_rfl) rfl (fun W hW=>bT 0 _ (Mem.get hW 1 rfl) rfl _ aw rfl 32 aq (by rw [HKU.out];omega) (by rw [List.drop_zero,List.take_of_length_le (Nat.le_of_eq HKU.out)])) hm.tail ?_
    go_simp
    refine aT 5 (v:=.agg (u8s ns).toArray) rfl (by kernel_rfl) rfl (fun W hW=>bT 0 _ (Mem.get hW 0 rfl) rfl _ dK rfl 12 dI (by rw [HNU.out];omega) (by rw [List.drop_zero,List.take_of_length_le (Nat.le_of_eq HNU.out)])) hm.tail ?_
    go_simp
    refine aT 6 (v:=.int .u32 ((c+(j:Int)) % 4294967296)) rfl (by kernel_rfl) rfl (fun W _=>by go_simp) hm.tail ?_
    go_simp
    refine aP 7 (by kernel_rfl) rfl rfl ?_
    intro K hK
    go_wp2_with (go_at_call 202;refine (block_any ks ns _ HKL.out HNL.out HKB.out HNB.out _ (QTab.mem HT.out hm (by simp))).mono ?_;rintro e w6 ⟨rfl,hb⟩;replace hm:=hm.call hb;clear hb)
    refine hK _ _ hm.tail ?_
    clear hK K
    refine aP 8 (by kernel_rfl) rfl rfl ?_
    intro K hK
    go_wp2_with (go_at_call 201;refine (mask_any g9 (64 * j) 64 64 (xorUp ks ns c ms (64 * j)) _ _ HFT.out (by omega) (eJ _ _ _) _ (hm.get 0 rfl)).mono ?_;rintro e w7 ⟨rfl,hr,hu⟩;rw [HST.out] at hr;replace hm:=hm.upd 0 rfl hu hr;clear hr hu)
    refine hK _ _ hm.tail ?_
    clear hK K
    refine wpAnyH_done (by kernel_rfl) ?_ _
    simp only [endsIn]
    go_wp2_with (first
     | ((with_reducible refine ae (some 38) (.slice 56 (.tmp 36) (some (.tmp 37)) none none) ?_);go_must (refine jW _ aF aQ 64 rfl rfl rfl (by omega) ?_);intro p2 hp2;have HP2:Hid _:=hp2;clear hp2))

    have HP:Hid (64 * (j+1)<ms.length→p2=some ⟨g9,64 * (j+1),none⟩):=by
     intro h
     have:=HLE.out
     rw [HP2.out,if_neg (by omega)]
     simp [bK]<;>omega
    have HLN:Hid (L - 64=ms.length - 64 * (j+1)):=by show _=_;have:=HLE.out;omega
    go_roundw
    case rel =>
     refine ⟨j+1,?_,by have:=HLE.out;omega,⟨p2,?_,HP.out⟩,hm⟩
     ·rw [←HCE.out];try simp
     ·rw [←HLN.out];try simp
    case measure=>simp [slLen];omega
   ·have h64i:¬(64:Int)<(L:Int):=by omega
    have HST:Hid (maskL (xorUp ks ns c ms (64 * j)) (64 * j) L (blockOf ks ns ((c+(j:Int)) % 4294967296))=xorUp ks ns c ms (64 * (j+1))):=by
     show _=_
     rw [j7 ks ns c ms j L (by omega)]
     have:=HLE.out
     rw [gQ _ _ _ _ _ (by omega),gQ _ _ _ _ _ (by omega)]
    have HFT:Hid (64 * j+L≤(xorUp ks ns c ms (64 * j)).length):=by show _≤_;have:=HLE.out;rw [eh];omega
    go_wp2_with fail
    refine aA ?_
    refine aZ (T:=fun W=>Mem w [] W [(g5,u8s ns,139),(g4,u8s ks,43)]) (by kernel_rfl) hm ?_
    clear hm
    intro w5 hm
    refine aT 0 (v:=.slice (some ⟨g9,64 * j,none⟩) L L) rfl (by kernel_rfl) rfl (fun W _=>by go_simp) hm.tail ?_
    go_simp
    refine aT 1 (v:=.int .i64 (L:Int)) rfl (by kernel_rfl) rfl (fun W _=>by go_simp) hm.tail ?_
    go_simp
    refine aT 2 (v:=.int .i64 (L:Int)) rfl (by kernel_rfl) rfl (fun W _=>by go_simp) hm.tail ?_
    go_simp
    refine aT 3 (v:=.slice (some ⟨g9,64 * j,none⟩) L L) rfl (by kernel_rfl) rfl (fun W _=>exec_sl3 aF aQ L (by omega) (by omega) rfl rfl rfl rfl rfl) hm.tail ?_
    go_simp
    refine aT 4 (v:=.agg (u8s ks).toArray) rfl (by kernel_rfl) rfl (fun W hW=>bT 0 _ (Mem.get hW 1 rfl) rfl _ aw rfl 32 aq (by rw [HKU.out];omega) (by rw [List.drop_zero,List.take_of_length_le (Nat.le_of_eq HKU.out)])) hm.tail ?_
    go_simp
    refine aT 5 (v:=.agg (u8s ns).toArray) rfl (by kernel_rfl) rfl (fun W hW=>bT 0 _ (Mem.get hW 0 rfl) rfl _ dK rfl 12 dI (by rw [HNU.out];omega) (by rw [List.drop_zero,List.take_of_length_le (Nat.le_of_eq HNU.out)])) hm.tail ?_
    go_simp
    refine aT 6 (v:=.int .u32 ((c+(j:Int)) % 4294967296)) rfl (by kernel_rfl) rfl (fun W _=>by go_simp) hm.tail ?_
    go_simp
    refine aP 7 (by kernel_rfl) rfl rfl ?_
    intro K hK
    go_wp2_with (go_at_call 202;refine (block_any ks ns _ HKL.out HNL.out HKB.out HNB.out _ (QTab.mem HT.out hm (by simp))).mono ?_;rintro e w6 ⟨rfl,hb⟩;replace hm:=hm.call hb;clear hb)
    refine hK _ _ hm.tail ?_
    clear hK K
    refine aP 8 (by kernel_rfl) rfl rfl ?_
    intro K hK
    go_wp2_with (go_at_call 201;refine (mask_any g9 (64 * j) L L (xorUp ks ns c ms (64 * j)) _ _ HFT.out (by omega) (eJ _ _ _) _ (hm.get 0 rfl)).mono ?_;rintro e w7 ⟨rfl,hr,hu⟩;rw [HST.out] at hr;replace hm:=hm.upd 0 rfl hu hr;clear hr hu)
    refine hK _ _ hm.tail ?_
    clear hK K
    refine wpAnyH_done (by kernel_rfl) ?_ _
    simp only [endsIn]
    go_wp2_with (first
     | ((with_reducible refine ae (some 38) (.slice 56 (.tmp 36) (some (.tmp 37)) none none) ?_);go_must (refine jW _ aF aQ L rfl rfl rfl (by omega) ?_);intro p2 hp2;have HP2:Hid _:=hp2;clear hp2))

    have HP:Hid (64 * (j+1)<ms.length→p2=some ⟨g9,64 * (j+1),none⟩):=by
     intro h
     have:=HLE.out
     rw [HP2.out,if_neg (by omega)]
     simp [bK]<;>omega
    have HLN:Hid (L - L=ms.length - 64 * (j+1)):=by show _=_;have:=HLE.out;omega
    go_roundw
    case rel =>
     refine ⟨j+1,?_,by have:=HLE.out;omega,⟨p2,?_,HP.out⟩,hm⟩
     ·rw [←HCE.out];try simp
     ·rw [←HLN.out];try simp
    case measure=>simp [slLen];omega
  ·have hL0:ms.length - 64 * j=0:=by omega
   rw [hL0]
   rw [gQ ks ns c ms (64 * j) (by omega)] at hm
   go_wp2_with fail
   go_ret
   exact ⟨g9,rfl,HGE.out,hm.get 0 rfl,hm.below⟩
end Go.Proofs.YtlpnafdkhoimhaaGreatDoor
namespace Go.Proofs.YtlpnafdkhoimhaaGreatDoor
open Go Go.RowKit
def riseUp (i:Nat):List Int:=riseK.take i++List.replicate (32 - i) 0
end Go.Proofs.YtlpnafdkhoimhaaGreatDoor
