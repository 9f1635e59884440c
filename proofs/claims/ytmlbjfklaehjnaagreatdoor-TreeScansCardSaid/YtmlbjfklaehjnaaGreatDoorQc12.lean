import Derived.Test.YtmlbjfklaehjnaaGreatDoorQc10
import Derived.Test.YtmlbjfklaehjnaaGreatDoorQc07
set_option maxRecDepth 100000
set_option maxHeartbeats 4000000
namespace Go.Proofs.YtmlbjfklaehjnaaGreatDoor
open Go Go.RowKit
theorem bm (zs:List Int) (v:Value) (m:Nat) (hzl:zs.length≤30000) (hml:m≤30000) (w:World) (hv:SlOld w v zs) :
  Calls Tryz.prog 90 #[v,.int .i64 (m:Int)] w fun e w'=>∃g,e=.returned (.slice (some ⟨g,0,none⟩) (zs.length+m) (zs.length+m))∧w.heap.size≤g∧Row w' g (u8s (zs++List.replicate m 0)) 5∧Below w.heap.size w w':=by
 obtain ⟨p,cap,rfl,hcap⟩:=hv.len
 have hm:=Mem.start w
 have HV:Hid (SlOld w (.slice p zs.length cap) zs):=hv
 have HNE:Hid (splice (List.replicate (zs.length+m) (.int .u8 0)) 0 (u8s (zs.take zs.length))=u8s (zs++List.replicate m 0)):=by
  show _=_
  have e:List.replicate (zs.length+m) (Value.int .u8 0)=u8s (List.replicate (zs.length+m) 0):=by simp [u8s]
  rw [List.take_of_length_le (Nat.le_refl _),e,da zs (zs.length+m),show zs.length+m - zs.length=m by omega]
 have HMI:Hid (zs.length=Nat.min zs.length (zs.length+m)):=(Nat.min_eq_left (by omega)).symm
 clear hv
 go_enter Tryz.func90,Tryz.ntmps90
 go_wp2_with (first
  | ((with_reducible refine aa (some 10) (.makeSlice 54 (.tmp 9) (.tmp 9)) ?_);go_must (refine dg _ aq _ aU rfl (zs.length+m) rfl (by first|rfl|omega|go_num) rfl (by first|rfl|omega|go_num) (by omega) hm ?_);clear hm;intro w1 g hm)
  | ((with_reducible refine aa (some 13) (.call {callee:=.builtin .copy,args:=#[.tmp 11,.tmp 12],argTypes:=#[54,54]}) ?_);go_must (refine ek 0 zs zs.length (u8s (zs++List.replicate m 0)) hm rfl rfl rfl _ aq av (SlOld.mem HV.out hm) HMI.out (by simp) HNE.out ?_);clear hm;intro w2 hm))
 go_ret
 have hf:=hm.fresh _ (List.mem_cons_self ..)
 exact ⟨g,rfl,by simpa using hf,hm.get 0 rfl,hm.below⟩
theorem set_two (zs:List Int) (a b:Int) (r:List Int):(((u8s (zs++([0,0]++r))).set (zs.length+1) (.int .u8 b)).set (zs.length+0) (.int .u8 a))=u8s (zs++([a,b]++r)):=by
 rw [bI,bI]
 simp [u8s,List.set_append_right]
theorem dl (g:Nat) (zs r:List Int) (n:Int) (cap:Nat) (w:World) (hr:Row w g (u8s (zs++([0,0]++r))) 5) :
  Calls Tryz.prog 91 #[.slice (some ⟨g,zs.length,none⟩) 2 cap,.int .u64 n] w fun e w'=>e=.returned (.tuple #[])∧Row w' g (u8s (zs++(be2 n++r))) 5∧Upd g w w':=by
 have hm:=Mem.enter hr
 have HLN:Hid (((u8s (zs++([0,0]++r))).length=zs.length+(2+r.length))):=by show _=_;simp [ab];omega
 clear hr
 go_enter Tryz.func91,Tryz.ntmps91
 go_wp2_with fail
 refine wp_loop_rounds 3 ?_
 iterate 3 (rw [rounds_succ];go_wp2_with (first
  | (((with_reducible refine aa none (.store 5 (.tmp 16) (.tmp 15)) ?_);refine aD 0 _ _ hm rfl (rfl) rfl av (by first|(rw [HLN.out];omega)|(simp only [List.length_set];rw [HLN.out];omega)) rfl rfl ?_;clear hm;intro w9 hm))))
 go_end0
 have hrow:=hm.get 0 rfl
 exact ⟨rfl,by have e:=set_two zs (n / 256 % 256) (n % 256) r;rw [show be2 n=[n / 256 % 256,n % 256] from rfl,←e];exact hrow,hm.toUpd⟩
theorem held_two (w:World) :
  Calls Tryz.prog 131 #[.int .i64 2] w fun e w'=>e=.returned (.int .i64 2)∧w'=w:=by
 go_enter Tryz.func131,Tryz.ntmps131
 go_wp2
 go_ret
 exact ⟨rfl,rfl⟩
theorem put_two (zs:List Int) (v:Value) (n:Int) (hzl:zs.length≤30000) (w:World) (hv:SlOld w v zs) :
  Calls Tryz.prog 89 #[v,.int .u64 n,.int .i64 2] w fun e w'=>∃g,e=.returned (.slice (some ⟨g,0,none⟩) (zs.length+2) (zs.length+2))∧w.heap.size≤g∧Row w' g (u8s (zs++be2 n)) 5∧Below w.heap.size w w':=by
 obtain ⟨p,cap,rfl,hcap⟩:=hv.len
 have hm:=Mem.start w
 have HV:Hid (SlOld w (.slice p zs.length cap) zs):=hv
 clear hv
 go_enter Tryz.func89,Tryz.ntmps89
 go_wp2_with (first
  | (go_at_call 131;refine (held_two _).mono ?_;rintro e w1 ⟨rfl,rfl⟩)
  | (go_at_call 90;refine (bm zs _ 2 (by omega) (by omega) _ HV.out).mono ?_;rintro e w2 ⟨g,rfl,hge,hr,hb⟩;have HGE:Hid _:=hge;have HR:Hid (Row w2 g (u8s (zs++([0,0]++[]))) 5):=hr;have HBL:Hid _:=hb;clear hge hr hb)
  | ((with_reducible refine aa (some 17) (.slice 54 (.tmp 14) (some (.tmp 16)) none none) ?_);go_must (refine gg aq av zs.length zs.length 2 2 (by omega) (by omega) (by omega) (by omega) (by omega) rfl rfl rfl ?_))
  | (go_at_call 91;refine (dl g zs [] n 2 _ HR.out).mono ?_;rintro e w3 ⟨rfl,hr2,hu⟩;rw [List.append_nil] at hr2;have HR2:Hid (Row w3 g (u8s (zs++be2 n)) 5):=hr2;have HU2:Hid (Upd g w2 w3):=hu;clear hr2 hu))
 go_ret
 exact ⟨g,rfl,HGE.out,HR2.out,iJ HBL.out HU2.out HGE.out HBL.out.size⟩
theorem or_next {x c:Int} (hx:0≤x∧x<72057594037927936) (hc:0≤c∧c<256):Go.bits .or .u64 (x * 256) c=x * 256+c:=by
 rw [u64_or (x * 256) c (by omega) (by omega) hc.1 (by omega),nat_join 8 _ _ (by omega) (by omega)]
 omega
theorem take_next (cs:List Int) (k:Nat) (h:k<cs.length):numL (cs.take (k+1))=numL (cs.take k) * 256+cs.getD k 0:=by
 rw [List.take_add_one,List.getElem?_eq_getElem h,Option.toList_some,numL_snoc]
 simp [h]
theorem cN (cs:List Int) (v:Value) (n:Nat) (hn:cs.length=n) (hn8:n≤8) (hcb:Bytes cs) (w:World) (hv:SlOld w v cs) :
  Calls Tryz.prog 179 #[v] w fun e w'=>e=.returned (.int .u64 (numL cs))∧w'=w:=by
 obtain ⟨p,cap,rfl,hcap,hs⟩:=hv
 rw [hn] at hs hcap ⊢
 have HB:Hid _:=hcb
 clear hcb
 go_enter Tryz.func179,Tryz.ntmps179
 go_wp2_with fail
 go_loopw [3,8] (fun vx vi wr=>∃k:Nat,k≤n∧vx=.int .u64 (numL (cs.take k))∧vi=.int .i64 k∧wr=w) (fun _ vi _=>n - (RowKit.intOf vi).toNat)
 case atStart=>exact ⟨0,by omega,rfl,rfl,rfl⟩
 case round =>
  obtain ⟨k,hk,rfl,rfl,rfl⟩:=hrel
  by_cases hlt:k<n
  ·obtain ⟨b,off,rfl,hseg⟩:=hs (by omega)
   have hki:(k:Int)<(n:Int):=by omega
   have hc:=hseg k (by omega)
   have hb1:=Bytes.get HB.out k
   have hb2:Bytes (cs.take k):=Bytes.take HB.out k
   have h1:=bL hb2
   have h2:=eX hb2
   have h3:(256:Int) ^ (cs.take k).length≤256 ^ 7:=by
    rw [List.length_take,Nat.min_eq_left (by omega)]
    exact (show ∀k:Nat,k<8→(256:Int) ^ k≤256 ^ 7 by decide) k (by omega)
   have h4:numL (cs.take k)<72057594037927936:=by
    have:(256:Int) ^ 7=72057594037927936:=by decide
    omega
   have HN:Hid (numL (cs.take (k+1))=Go.bits .or .u64 (numL (cs.take k) * 256) (cs.getD k 0)):=by
    show _=_
    rw [take_next cs k (by omega),or_next ⟨h1,h4⟩ hb1]
   obtain ⟨x,hx⟩:∃x,x=numL (cs.take k):=⟨_,rfl⟩
   obtain ⟨c,hcc⟩:∃c,c=cs.getD k 0:=⟨_,rfl⟩
   rw [←hx] at h1 h4 HN ⊢
   rw [←hcc] at hc hb1 HN
   obtain ⟨hb10,hb11⟩:=hb1
   clear h2 h3 hx hcc hb2 hseg
   go_wp2_with fail
   go_roundw
   case rel=>exact ⟨k+1,by omega,by rw [HN.out],by go_num,trivial⟩
   case measure=>simp [RowKit.intOf];omega
  ·have hkn:k=n:=by omega
   subst hkn
   have hni:¬(k:Int)<(k:Int):=by omega
   go_wp2_with fail
   go_ret
   rw [List.take_of_length_le (by omega)]
   exact ⟨rfl,rfl⟩
open Go Go.RowKit
theorem sum_in (a k:Nat) (h:a+k≤1000000):wrap64 ((a:Int)+(k:Int))=(a:Int)+(k:Int):=eD _ (by omega)
theorem quo8 (a k:Nat):((a:Int)+(k:Int)).tdiv 8=(((a+k) / 8:Nat):Int):=by
 have h:(0:Int)≤(a:Int)+(k:Int):=by omega
 rw [Int.tdiv_eq_ediv_of_nonneg h]
 omega
theorem rem8 (a k:Nat):((a:Int)+(k:Int)).tmod 8=(((a+k) % 8:Nat):Int):=by
 have h:(0:Int)≤(a:Int)+(k:Int):=by omega
 rw [Int.tmod_eq_emod_of_nonneg h]
 omega
theorem bit_place (a k n:Nat) (h:a+k<8 * n) (hn:n≤30000):∃q r:Nat,(q=(a+k) / 8∧r=(a+k) % 8)∧q<n∧r<8∧((a:Int)+(k:Int)).tdiv 8=(q:Int)∧((a:Int)+(k:Int)).tmod 8=(r:Int)
  ∧ wrap64 ((a:Int)+(k:Int))=(a:Int)+(k:Int)∧IntKind.i64.wrap ((a:Int)+(k:Int))=(a:Int)+(k:Int)∧IntKind.i64.wrap (q:Int)=(q:Int)∧IntKind.i64.wrap (r:Int)=(r:Int)∧(0:Int)≤(q:Int)∧(q:Int)<(n:Int):=by
 refine ⟨(a+k) / 8,(a+k) % 8,⟨rfl,rfl⟩,by omega,Nat.mod_lt _ (by omega),quo8 a k,rem8 a k,sum_in a k (by omega),?_,b7 _ (by omega),b7 _ (by omega),by omega,by omega⟩
 rw [show (a:Int)+(k:Int)=((a+k:Nat):Int) by omega]
 exact b7 _ (by omega)
theorem aK (zs:List Int) (v:Value) (m n:Nat) (hn:zs.length=n) (hml:m≤30000) (w:World) (hv:SlOld w v zs) :
  Calls Tryz.prog 115 #[v,.int .i64 (m:Int)] w fun e w'=>∃g,e=.returned (.slice (some ⟨g,0,none⟩) m m)∧w.heap.size≤g∧Row w' g (u8s (fillTo zs m)) 5∧Below w.heap.size w w':=by
 obtain ⟨p,cap,rfl,hcap⟩:=hv.len
 have hm:=Mem.start w
 have HV:Hid (SlOld w (.slice p zs.length cap) zs):=hv
 have HNE:Hid (splice (List.replicate m (.int .u8 0)) 0 (u8s (zs.take (Nat.min n m)))=u8s (fillTo zs m)):=by
  show _=_
  have e:List.replicate m (Value.int .u8 0)=u8s (List.replicate m 0):=by simp [u8s]
  have e2:zs.take (Nat.min n m)=zs.take m:=by
   rcases Nat.le_total n m with h|h
   ·rw [show Nat.min n m=n from Nat.min_eq_left h,List.take_of_length_le (by omega),List.take_of_length_le (by omega)]
   ·rw [show Nat.min n m=m from Nat.min_eq_right h]
  rw [e,e2,da (zs.take m) m,fillTo,List.length_take,hn]
  congr 2
  congr 1
  omega
 have HMI:Hid (Nat.min n m≤m):=Nat.min_le_right _ _
 rw [hn] at HV hcap ⊢
 clear hv
 go_enter Tryz.func115,Tryz.ntmps115
 go_wp2_with (first
  | ((with_reducible refine aa (some 7) (.makeSlice 54 (.tmp 6) (.tmp 6)) ?_);go_must (refine dg _ aq _ aU rfl m rfl (by first|rfl|omega|go_num) rfl (by first|rfl|omega|go_num) (by omega) hm ?_);clear hm;intro w1 g hm)
  | ((with_reducible refine aa (some 10) (.call {callee:=.builtin .copy,args:=#[.tmp 8,.tmp 9],argTypes:=#[54,54]}) ?_);go_must (refine ek 0 zs (Nat.min n m) (u8s (fillTo zs m)) hm rfl rfl rfl _ aq av (SlOld.mem HV.out hm) rfl (by have:=HMI.out;simp;omega) HNE.out ?_);clear hm;intro w2 hm))
 go_ret
 have hf:=hm.fresh _ (List.mem_cons_self ..)
 exact ⟨g,rfl,by simpa using hf,hm.get 0 rfl,hm.below⟩
theorem and_one {z:Int} (h0:0≤z) (h1:z<256):Go.bits .and .u8 z 1=z % 2:=by
 rw [u8_and _ 1 h0 h1 (by omega) (by omega),show (1:Int).toNat=1 from rfl,Nat.and_one_is_mod]
 omega
theorem pow_small {k:Nat} (h:k≤63):(2:Int) ^ k≤9223372036854775808:=by
 have h1:(2:Nat) ^ k≤2 ^ 63:=Nat.pow_le_pow_right (by decide) h
 have h2:((2 ^ k:Nat):Int)≤((2 ^ 63:Nat):Int):=Int.ofNat_le.2 h1
 rw [show ((2 ^ 63:Nat):Int)=9223372036854775808 by decide] at h2
 have h3:((2 ^ k:Nat):Int)=(2:Int) ^ k:=by push_cast;rfl
 omega
theorem io (cs:List Int) (v:Value) (n at_ size:Nat) (hl:cs.length=n) (hb:Bytes cs) (hf:at_+size≤8 * n) (hn:n≤30000) (hs:size≤63) (w:World) (hv:SlOld w v cs) :
  Calls Tryz.prog 206 #[v,.int .i64 (at_:Int),.int .i64 (size:Int)] w fun e w'=>e=.returned (.int .u64 (getT cs at_ size))∧w'=w:=by
 obtain ⟨p,cap,rfl,hcap,hsg⟩:=hv
 rw [hl] at hsg hcap ⊢
 have HB:Hid (Bytes cs):=hb
 clear hb
 go_enter Tryz.func206,Tryz.ntmps206
 go_wp2_with fail
 go_loopw [7,10] (fun vx vi wr=>∃k:Nat,k≤size∧vx=.int .u64 (getT cs at_ k)∧vi=.int .i64 k∧wr=w) (fun _ vi _=>size - (RowKit.intOf vi).toNat)
 case atStart=>exact ⟨0,by omega,rfl,rfl,rfl⟩
 case round =>
  obtain ⟨k,hk,rfl,rfl,rfl⟩:=hrel
  by_cases hlt:k<size
  ·have hki:(k:Int)<(size:Int):=by omega
   obtain ⟨q,r,hqr,hqn,hr8,e2,e3,e1,e4,e5,e6,hq0,hq1⟩:=bit_place at_ k n (by omega) hn
   obtain ⟨b,off,rfl,hseg⟩:=hsg (by omega)
   have hc:=hseg q (by omega)
   obtain ⟨y,hy⟩:∃y,y=cs.getD q 0:=⟨_,rfl⟩
   rw [←hy] at hc
   have hyb:=Bytes.get HB.out q
   rw [←hy] at hyb
   obtain ⟨c,hcc⟩:∃c,c=y / 2 ^ r % 2:=⟨_,rfl⟩
   have hc01:0≤c∧c≤1:=by omega
   have HAN:Go.bits .and .u8 (y / 2 ^ r) 1=c:=by
    rw [and_one (Int.ediv_nonneg hyb.1 (Int.pow_nonneg (by omega))) (Int.lt_of_le_of_lt (Int.ediv_le_self _ hyb.1) hyb.2),hcc]
   have HWC:IntKind.u64.wrap c=c:=by simp [IntKind.wrap,IntKind.bits,IntKind.signed];omega
   have hp:=pow_small (show k≤63 by omega)
   have hp0:(0:Int)<2 ^ k:=Int.pow_pos (by decide)
   have HWS:IntKind.u64.wrap (c * 2 ^ k)=c * 2 ^ k:=by
    have h4:c=0∨c=1:=by omega
    rcases h4 with h4|h4<;>rw [h4]<;>simp [IntKind.wrap,IntKind.bits,IntKind.signed]<;>omega
   obtain ⟨X,hX⟩:∃X,X=getT cs at_ k:=⟨_,rfl⟩
   have HJ:Hid (∀_:Unit,getT cs at_ (k+1)=Go.bits .or .u64 X (c * 2 ^ k)):=fun _=>by
    rw [join_go (by omega) (by rw [hX];exact k9 cs at_ k) hc01,getT,←hX,bitL,←hqr.1,←hqr.2,←hy,←hcc]
   rw [←hX]
   clear hqr hy hX hcc e1 e4 e5 e6 hseg hyb hc01 hp hp0
   go_wp2_with fail
   go_roundw
   case rel=>exact ⟨k+1,by omega,by rw [HJ.out ()],by go_num,trivial⟩
   case measure=>simp [RowKit.intOf];omega
  ·have hkn:k=size:=by omega
   subst hkn
   have hni:¬(k:Int)<(k:Int):=by omega
   go_wp2_with fail
   go_ret
   exact ⟨rfl,rfl⟩
theorem shl_one {r:Nat} (h:r<8):IntKind.u8.wrap (1 * 2 ^ r)=2 ^ r∧IntKind.u8.wrap (2 ^ r)=2 ^ r:=by
 rcases eight h with rfl|rfl|rfl|rfl|rfl|rfl|rfl|rfl<;>decide
theorem shl_bit {r:Nat} (h:r<8) {c:Int} (hc:0≤c∧c≤1):IntKind.u8.wrap (c * 2 ^ r)=c * 2 ^ r:=by
 have h4:c=0∨c=1:=by omega
 rcases h4 with rfl|rfl<;>rcases eight h with rfl|rfl|rfl|rfl|rfl|rfl|rfl|rfl<;>decide
theorem low_bit (X k:Nat):Go.bits .and .u8 ((X:Int) / 2 ^ k % 256) 1=((X / 2 ^ k % 2:Nat):Int):=by
 have e:((X:Int) / 2 ^ k)=((X / 2 ^ k:Nat):Int):=by push_cast;rfl
 rw [e,and_one (by omega) (by omega)]
 omega
theorem lk (g off n cap:Nat) (A l:List Int) (at_ size X:Nat) (hA:A.length=off) (hl:l.length=n) (hb:Bytes l) (hf:at_+size≤8 * n) (hn:n≤30000) (hs:size≤63) (w:World) (hr:Row w g (u8s (A++l)) 5) :
  Calls Tryz.prog 116 #[.slice (some ⟨g,off,none⟩) n cap,.int .i64 (at_:Int),.int .u64 (X:Int),.int .i64 (size:Int)] w fun e w'=>e=.returned (.tuple #[])∧Row w' g (u8s (A++putT l at_ X size)) 5∧Upd g w w':=by
 have hm:=Mem.enter hr
 have HB:Hid (Bytes l):=hb
 have HA:Hid (A.length=off):=hA
 have HL:Hid (l.length=n):=hl
 clear hr hb hA hl
 go_enter Tryz.func116,Tryz.ntmps116
 go_wp2_with fail
 go_loopw [12] (fun vi wr=>∃k:Nat,k≤size∧vi=.int .i64 k∧Hid (Mem w [g] wr [(g,u8s (A++putT l at_ X k),5)])) (fun vi _=>size - (RowKit.intOf vi).toNat)
 case atStart=>exact ⟨0,by omega,rfl,hm⟩
 case round =>
  clear hm
  obtain ⟨k,hk,rfl,HM⟩:=hrel
  by_cases hlt:k<size
  ·have hki:(k:Int)<(size:Int):=by omega
   obtain ⟨q,r,hqr,hqn,hr8,e2,e3,e1,e4,e5,e6,hq0,hq1⟩:=bit_place at_ k n (by omega) hn
   have HQR:Hid (∀_:Unit,q=(at_+k) / 8∧r=(at_+k) % 8):=fun _=>hqr
   obtain ⟨L,hL⟩:∃L,L=putT l at_ X k:=⟨_,rfl⟩
   have hll:L.length=n:=by rw [hL,eW];exact HL.out
   have hbb:Bytes L:=by rw [hL];exact jo HB.out _ _ _
   obtain ⟨y,hy⟩:∃y,y=L.getD q 0:=⟨_,rfl⟩
   have hyb:=Bytes.get hbb q
   rw [←hy] at hyb
   have hm:=HM.out
   rw [←hL] at hm
   have HX:Hid ((u8s (A++L))[off+q]?=some (.int .u8 y)):=by
    show _=_
    rw [cG _ _ (by rw [List.length_append,HA.out,hll];omega),hy]
    simp only [List.getD_eq_getElem?_getD]
    rw [List.getElem?_append_right (by rw [HA.out];omega),HA.out,Nat.add_sub_cancel_left]
   have HLN:Hid (off+q<(u8s (A++L)).length):=by show _<_;rw [ab,List.length_append,HA.out,hll];omega
   obtain ⟨c,hcc⟩:∃c:Int,c=((X / 2 ^ k % 2:Nat):Int):=⟨_,rfl⟩
   have hc01:0≤c∧c≤1:=by rw [hcc];exact bit_two X k
   have HC1:Go.bits .and .u8 (IntKind.u8.wrap ((X:Int) / 2 ^ k)) 1=c:=by rw [hcc,IntKind.wrap_u8'];exact low_bit X k
   have HS1:IntKind.u8.wrap (2 ^ r)=2 ^ r:=(shl_one hr8).2
   have HS2:IntKind.u8.wrap (c * 2 ^ r)=c * 2 ^ r:=shl_bit hr8 hc01
   have HST:Hid ((u8s (A++L)).set (off+q) (.int .u8 (Go.bits .or .u8 (Go.bits .andNot .u8 y (2 ^ r)) (c * 2 ^ r)))=u8s (A++putT l at_ X (k+1))):=by
    show _=_
    rw [bI,setB_go hr8 hyb hc01,List.set_append_right _ _ (by rw [HA.out];omega),HA.out,Nat.add_sub_cancel_left,putT,setBitL,←hL,←(HQR.out ()).1,←(HQR.out ()).2,←hy,hcc]
   clear hqr hL hll hbb hy hyb hcc hc01 HM
   go_wp2_with fail
   refine dq 17 (by kernel_rfl) (by kernel_rfl) hm ?_
   clear hm
   intro w2 hm
   simp only [List.take_succ_cons,List.take_zero,List.drop_succ_cons,List.drop_zero]
   iterate 5 still_step
   refine fY (off+q) (.int .u8 y) (hm.get 0 rfl) rfl eq HX.out ?_
   iterate 11 still_step
   refine wpStill_nil ?_
   clear e1 e2 e3 e4 e5 e6
   go_wp2_with (first
    | ((with_reducible refine aa none (.store 5 (.tmp 40) (.tmp 39)) ?_);go_must (refine aD 0 (off+q) (.int .u8 (Go.bits .or .u8 (Go.bits .andNot .u8 y (2 ^ r)) (c * 2 ^ r))) hm rfl rfl rfl av HLN.out rfl rfl ?_);clear hm;intro w3 hm))

   rw [List.set_cons_zero,HST.out] at hm
   have HM3:Hid (Mem w [g] w3 [(g,u8s (A++putT l at_ X (k+1)),5)]):=hm
   clear hm
   go_roundw
   case rel=>exact ⟨k+1,by omega,by go_num,HM3.out⟩
   case measure=>simp [RowKit.intOf];omega
  ·have hkn:k=size:=by omega
   subst hkn
   have hni:¬(k:Int)<(k:Int):=by omega
   have hm:=HM.out
   go_wp2_with fail
   go_end0
   exact ⟨rfl,hm.get 0 rfl,hm.toUpd⟩
open Go Go.RowKit Go.Maps
def gnV (g:Gn):Value:=.agg #[.int .u64 (g.first:Int),.int .u64 (g.next:Int),.int .u64 (g.limit:Int)]
theorem run_gensI (a b c:Int) (w:World):(Instr.build 111 #[(0,.int .u64 a),(1,.int .u64 b),(2,.int .u64 c)]).run Tryz.prog w=.ok (.agg #[.int .u64 a,.int .u64 b,.int .u64 c]) w:=run_build w 111 _ _ (by kernel_rfl)
section
variable {a:Act} {w:World} {dst:Option Tmp} {typ:TypeId} {pos:String} {aft:Array Edge} {gd:Option (Nat×Bool)}
theorem exec_gensI {x y z:Operand} (i j k:Int) (hx:a.eval x=.int .u64 i) (hy:a.eval y=.int .u64 j) (hz:a.eval z=.int .u64 k) :
  (execOp a.eval {dst:=dst,op:=.build 111 #[(0,x),(1,y),(2,z)],type:=typ,pos:=pos,after:=aft,guard:=gd}).run Tryz.prog w=.ok (.value (.agg [.int .u64 i,.int .u64 j,.int .u64 k].toArray)) w:=by
 unfold execOp
 simp only [List.map_toArray,List.map_cons,List.map_nil,hx,hy,hz,run_gensI,Sem.run_bind,Sem.run_pure,Result.andThen_ok]
theorem cz {x y:Operand} {i j:Int} (c:Int) (hx:a.eval x=.int .u64 i) (hy:a.eval y=.int .u64 j) (hc:(if i<j then j else i)=c) :
  (execOp a.eval {dst:=dst,op:=.call {callee:=.builtin .max,args:=#[x,y],argTypes:=#[109,109]},type:=typ,pos:=pos,after:=aft,guard:=gd}).run Tryz.prog w=.ok (.value (.int .u64 c)) w:=by
 subst hc
 unfold execOp
 simp only [resolve,invoke,builtin,Sem.run_bind,Sem.run_pure,Result.andThen_ok,List.map_toArray,List.map_cons,List.map_nil,hx,hy]
 simp [Builtin.max_,Builtin.max2]
end
theorem fN (n:Nat) (w:World) :
  Calls Tryz.prog 45 #[.int .u64 (n:Int)] w fun e w'=>e=.returned (gnV (Gn.from n))∧Below w.heap.size w w':=by
 have hm:=Mem.start w
 go_enter Tryz.func45,Tryz.ntmps45
 go_wp2_with (first
  | ((with_reducible refine aa (some 2) (.alloc 111) ?_);refine af _ iC hm ?_;clear hm;intro w1 g hm)
  | ((with_reducible refine aa (some 6) (.build 111 #[(0,.tmp 3),(1,.tmp 4),(2,.tmp 5)]) ?_);go_must (refine ae (.agg [.int .u64 (n:Int),.int .u64 (n:Int),.int .u64 (n:Int)].toArray) rfl (exec_gensI (n:Int) (n:Int) (n:Int) rfl rfl rfl) ?_))
  | ((with_reducible refine aa none (.store 111 (.tmp 2) (.tmp 6)) ?_);refine ag 0 [.int .u64 (n:Int),.int .u64 (n:Int),.int .u64 (n:Int)] hm rfl rfl rfl 3 bX (rfl) (rfl) (by simp [Value.oneCell']) ?_;clear hm;intro w2 hm))
 obtain ⟨fs,hfs⟩:=fR
 exact ay 0 hm rfl Tryz.results45 rfl _ hfs rfl 3 bX rfl rfl ⟨rfl,hm.below⟩
theorem more_new (g:Gn) (known:Nat) (_h1:g.first≤g.next) (_h2:g.next≤g.limit) (hb:g.limit<2305843009213693952) (hkb:known<2305843009213693952) (hk:g.limit<known) (w:World) :
  Calls Tryz.prog 76 #[gnV g,.int .u64 (known:Int)] w fun e w'=>e=.returned (gnV (g.more known))∧Below w.heap.size w w':=by
 have hm:=Mem.start w
 have hki:(known:Int) > (g.limit:Int):=by omega
 obtain ⟨fs,hfs⟩:=fR
 have HFS:Hid (∀_:Unit,Tryz.prog.underlying 111=some (.struct fs)):=fun _=>hfs
 obtain ⟨M,hM⟩:∃M:Nat,M=max known (known+(known - known)):=⟨_,rfl⟩
 have HWD:IntKind.u64.wrap ((known:Int) - (known:Int))=((known - known:Nat):Int):=by simp [IntKind.wrap,IntKind.bits,IntKind.signed]
 have HWA:IntKind.u64.wrap ((known:Int)+((known - known:Nat):Int))=((known+(known - known):Nat):Int):=by simp [IntKind.wrap,IntKind.bits,IntKind.signed];omega
 have HMX:Hid ((if (known:Int)<(known:Int) then (known:Int) else (known:Int))=(M:Int)):=by show _=_;rw [hM];split<;>omega
 have HWM:IntKind.u64.wrap ((M:Int)+1)=(M:Int)+1:=by have h9:=ec (M+1) (by omega);simpa using h9
 have HMO:Hid (∀_:Unit,gnV (g.more known)=.agg #[.int .u64 (known:Int),.int .u64 (known:Int),.int .u64 ((M:Int)+1)]):=fun _=>by
  unfold gnV Gn.more
  simp only [if_pos hk,Gn.from]
  rw [←hM]
  rfl
 clear hM hfs
 unfold gnV
 go_enter Tryz.func76,Tryz.ntmps76
 go_wp2_with (first
  | ((with_reducible refine aa (some 2) (.box 111 (.tmp 0)) ?_);refine ak [.int .u64 (g.first:Int),.int .u64 (g.next:Int),.int .u64 (g.limit:Int)] rfl hm ?_;clear hm;intro w1 gb hm)
  | ((with_reducible refine aa (some 4) (.alloc 111) ?_);refine af _ iC hm ?_;clear hm;intro w2 ga hm)
  | ((with_reducible refine aa (some 8) (.load 109 (.tmp 7)) ?_);refine ai 1 2 (.int .u64 (g.limit:Int)) hm rfl rfl aI (rfl) ?_)
  | (go_at_call 45;refine (fN known _).mono ?_;rintro e w3 ⟨rfl,hb⟩;replace hm:=hm.call hb;clear hb)
  | ((with_reducible refine aa none (.store 111 (.tmp 2) (.tmp 11)) ?_);refine ag 1 [.int .u64 (known:Int),.int .u64 (known:Int),.int .u64 (known:Int)] hm rfl rfl rfl 3 bX (rfl) (rfl) (by simp [Value.oneCell']) ?_;clear hm;intro w4 hm)
  | ((with_reducible refine aa (some 13) (.load 109 (.tmp 12)) ?_);refine ai 1 1 (.int .u64 (known:Int)) hm rfl rfl aI (rfl) ?_)
  | ((with_reducible refine aa (some 15) (.load 109 (.tmp 14)) ?_);refine ai 1 0 (.int .u64 (known:Int)) hm rfl rfl aI (rfl) ?_)
  | ((with_reducible refine aa (some 18) (.load 109 (.tmp 17)) ?_);refine ai 1 2 (.int .u64 (known:Int)) hm rfl rfl aI (rfl) ?_)
  | ((with_reducible refine aa (some 20) (.load 109 (.tmp 19)) ?_);refine ai 1 1 (.int .u64 (known:Int)) hm rfl rfl aI (rfl) ?_)
  | ((with_reducible refine aa (some 23) (.call {callee:=.builtin .max,args:=#[.tmp 18,.tmp 22],argTypes:=#[109,109]}) ?_);go_must (refine ae (.int .u64 (M:Int)) rfl (cz _ rfl rfl HMX.out) ?_))
  | ((with_reducible refine aa none (.store 109 (.tmp 25) (.tmp 24)) ?_);refine aD 1 2 (.int .u64 ((M:Int)+1)) hm rfl (rfl) rfl sz_u64 (by simp) rfl rfl ?_;clear hm;intro w5 hm)
  | ((with_reducible refine aa (some 26) (.load 111 (.tmp 2)) ?_);refine am 1 hm rfl rfl (.struct fs) (HFS.out ()) rfl 3 bX rfl ?_)
  | ((with_reducible refine aa none (.store 111 (.tmp 4) (.tmp 26)) ?_);refine ag 0 [.int .u64 (known:Int),.int .u64 (known:Int),.int .u64 ((M:Int)+1)] hm rfl rfl rfl 3 bX (rfl) (rfl) (by simp [Value.oneCell']) ?_;clear hm;intro w6 hm))
 exact ay 0 hm rfl Tryz.results76 rfl _ (HFS.out ()) rfl 3 bX rfl rfl ⟨by rw [←HMO.out ()];rfl,hm.below⟩
theorem more_same (g:Gn) (known:Nat) (h1:g.first≤g.next) (h2:g.next≤g.limit) (hb:g.limit<2305843009213693952) (_hkb:known<2305843009213693952) (hk:¬g.limit<known) (w:World) :
  Calls Tryz.prog 76 #[gnV g,.int .u64 (known:Int)] w fun e w'=>e=.returned (gnV (g.more known))∧Below w.heap.size w w':=by
 have hm:=Mem.start w
 have hki:¬(known:Int) > (g.limit:Int):=by omega
 obtain ⟨fs,hfs⟩:=fR
 have HFS:Hid (∀_:Unit,Tryz.prog.underlying 111=some (.struct fs)):=fun _=>hfs
 obtain ⟨M,hM⟩:∃M:Nat,M=max g.limit (g.next+(g.next - g.first)):=⟨_,rfl⟩
 have HWD:IntKind.u64.wrap ((g.next:Int) - (g.first:Int))=((g.next - g.first:Nat):Int):=by simp [IntKind.wrap,IntKind.bits,IntKind.signed];omega
 have HWA:IntKind.u64.wrap ((g.next:Int)+((g.next - g.first:Nat):Int))=((g.next+(g.next - g.first):Nat):Int):=by simp [IntKind.wrap,IntKind.bits,IntKind.signed];omega
 have HMX:Hid ((if (g.limit:Int)<((g.next+(g.next - g.first):Nat):Int) then ((g.next+(g.next - g.first):Nat):Int) else (g.limit:Int))=(M:Int)):=by show _=_;rw [hM];split<;>omega
 have HWM:IntKind.u64.wrap ((M:Int)+1)=(M:Int)+1:=by have h9:=ec (M+1) (by omega);simpa using h9
 have HMO:Hid (∀_:Unit,gnV (g.more known)=.agg #[.int .u64 (g.first:Int),.int .u64 (g.next:Int),.int .u64 ((M:Int)+1)]):=fun _=>by
  unfold gnV Gn.more
  simp only [if_neg hk]
  rw [←hM]
  rfl
 clear hM hfs
 unfold gnV
 go_enter Tryz.func76,Tryz.ntmps76
 go_wp2_with (first
  | ((with_reducible refine aa (some 2) (.box 111 (.tmp 0)) ?_);refine ak [.int .u64 (g.first:Int),.int .u64 (g.next:Int),.int .u64 (g.limit:Int)] rfl hm ?_;clear hm;intro w1 gb hm)
  | ((with_reducible refine aa (some 4) (.alloc 111) ?_);refine af _ iC hm ?_;clear hm;intro w2 ga hm)
  | ((with_reducible refine aa (some 8) (.load 109 (.tmp 7)) ?_);refine ai 1 2 (.int .u64 (g.limit:Int)) hm rfl rfl aI (rfl) ?_)
  | ((with_reducible refine aa (some 13) (.load 109 (.tmp 12)) ?_);refine ai 1 1 (.int .u64 (g.next:Int)) hm rfl rfl aI (rfl) ?_)
  | ((with_reducible refine aa (some 15) (.load 109 (.tmp 14)) ?_);refine ai 1 0 (.int .u64 (g.first:Int)) hm rfl rfl aI (rfl) ?_)
  | ((with_reducible refine aa (some 18) (.load 109 (.tmp 17)) ?_);refine ai 1 2 (.int .u64 (g.limit:Int)) hm rfl rfl aI (rfl) ?_)
  | ((with_reducible refine aa (some 20) (.load 109 (.tmp 19)) ?_);refine ai 1 1 (.int .u64 (g.next:Int)) hm rfl rfl aI (rfl) ?_)
  | ((with_reducible refine aa (some 23) (.call {callee:=.builtin .max,args:=#[.tmp 18,.tmp 22],argTypes:=#[109,109]}) ?_);go_must (refine ae (.int .u64 (M:Int)) rfl (cz _ rfl rfl HMX.out) ?_))
  | ((with_reducible refine aa none (.store 109 (.tmp 25) (.tmp 24)) ?_);refine aD 1 2 (.int .u64 ((M:Int)+1)) hm rfl (rfl) rfl sz_u64 (by simp) rfl rfl ?_;clear hm;intro w5 hm)
  | ((with_reducible refine aa (some 26) (.load 111 (.tmp 2)) ?_);refine am 1 hm rfl rfl (.struct fs) (HFS.out ()) rfl 3 bX rfl ?_)
  | ((with_reducible refine aa none (.store 111 (.tmp 4) (.tmp 26)) ?_);refine ag 0 [.int .u64 (g.first:Int),.int .u64 (g.next:Int),.int .u64 ((M:Int)+1)] hm rfl rfl rfl 3 bX (rfl) (rfl) (by simp [Value.oneCell']) ?_;clear hm;intro w6 hm))
 exact ay 0 hm rfl Tryz.results76 rfl _ (HFS.out ()) rfl 3 bX rfl rfl ⟨by rw [←HMO.out ()];rfl,hm.below⟩
open Go Go.RowKit
def secOf (l:List Int) (i:Nat):List Int:=(l.drop (64 * i)).take 64
theorem gD {l:List Int} {i:Nat} (h:64 * i+64≤l.length):(secOf l i).length=64:=by simp [secOf];omega
theorem iw {l:List Int} (h:Bytes l) (i:Nat):Bytes (secOf l i):=(h.drop _).take _
def rewL (d:Dk) (old new:List Int):Nat→Dk
 | 0=>d
 | i+1=>if secOf new i=secOf old i then rewL d old new i else (rewL d old new i).write (i:Int) (secOf new i)
theorem write_still {d:Dk} (h1:d.off=false) (h2:d.left=0) (i:Int) (bs:List Int):(d.write i bs).off=false∧(d.write i bs).left=0∧(d.write i bs).n=d.n∧(d.write i bs).kept=d.kept:=by
 unfold Dk.write
 split
 ·simp [Dk.put,Dk.step,h1,h2]
 ·simp [Dk.step,h1,h2]
theorem write_steps (d:Dk) (i:Int) (bs:List Int):(d.write i bs).steps=d.steps+1:=by
 unfold Dk.write
 split<;>rfl
theorem eN {d:Dk} (h1:d.off=false) (h2:d.left=0) (old new:List Int):∀k,(rewL d old new k).off=false∧(rewL d old new k).left=0∧(rewL d old new k).n=d.n∧(rewL d old new k).kept=d.kept
 | 0=>⟨h1,h2,rfl,rfl⟩
 | k+1=>by
  obtain ⟨a,b,c,e⟩:=eN h1 h2 old new k
  rw [rewL]
  split
  ·exact ⟨a,b,c,e⟩
  ·obtain ⟨a',b',c',e'⟩:=write_still a b (k:Int) (secOf new k)
   exact ⟨a',b',by rw [c',c],by rw [e',e]⟩
theorem ja (d:Dk) (old new:List Int):∀k,d.steps≤(rewL d old new k).steps∧(rewL d old new k).steps≤d.steps+k
 | 0=>by simp [rewL]
 | k+1=>by
  have ih:=ja d old new k
  rw [rewL]
  split
  ·omega
  ·rw [write_steps];omega
theorem kc {d:Dk} (h:d.Ok) (old:List Int) {new:List Int} (hb:Bytes new):∀k,(rewL d old new k).Ok
 | 0=>h
 | k+1=>by
  rw [rewL]
  split
  ·exact kc h old hb k
  ·exact Dk.write_ok (kc h old hb k) (iw hb k)
/-- A whole sector written stands there. -/
theorem write_now {d:Dk} (hk:d.Ok) (h1:d.off=false) (h2:d.left=0) {i:Nat} (hi:i<d.n) {bs:List Int} (hb:bs.length=64) (j:Nat):(d.write (i:Int) bs).now j=if j=i then bs else d.now j:=by
 have hs:d.step.off=false:=by simp [Dk.step,h1,h2]
 have hf:d.fits (i:Int) bs=true:=by
  unfold Dk.fits
  rw [decide_eq_true (by omega),decide_eq_true (by omega)]
  rfl
 have ho:over (d.now i) bs=bs:=by
  unfold over
  rw [hb,List.drop_of_length_le (by rw [hk.now hi];exact Nat.le_refl _),List.append_nil]
 unfold Dk.write
 rw [if_pos ⟨hs,hf⟩,show ((i:Int)).toNat=i by omega,ho]
 unfold Dk.now Dk.put
 by_cases hj:j=i
 ·subst hj
  simp [b4]
 ·rw [if_neg hj]
  simp only [bj d.step.pend _ hj]
  rfl
theorem rewL_now {d:Dk} (hk:d.Ok) (h1:d.off=false) (h2:d.left=0) {old new:List Int} (hb:Bytes new) (hl:new.length=2048) (hn:32≤d.n) (hold:∀i,i<32→d.now i=secOf old i) (j:Nat):∀k,k≤32→(rewL d old new k).now j=if j<k then secOf new j else d.now j
 | 0,_=>by rw [rewL,if_neg (by omega)]
 | k+1,hkk=>by
  have ih:=rewL_now hk h1 h2 hb hl hn hold j k (by omega)
  obtain ⟨a,b,c,_⟩:=eN h1 h2 old new k
  rw [rewL]
  split
  ·rename_i he
   rw [ih]
   by_cases hj:j=k
   ·subst hj
    rw [if_neg (by omega),if_pos (by omega),hold j (by omega),he]
   ·by_cases hj2:j<k
    ·rw [if_pos hj2,if_pos (by omega)]
    ·rw [if_neg hj2,if_neg (by omega)]
  ·rw [write_now (kc hk old hb k) a b (by rw [c];omega) (gD (by omega)),ih]
   by_cases hj:j=k
   ·subst hj
    rw [if_pos rfl,if_pos (by omega)]
   ·rw [if_neg hj]
    by_cases hj2:j<k
    ·rw [if_pos hj2,if_pos (by omega)]
    ·rw [if_neg hj2,if_neg (by omega)]
def rewArea (d:Dk) (old new:List Int):Dk:=(rewL d old new 32).flush
theorem kR {d:Dk} (hk:d.Ok) (h1:d.off=false) (h2:d.left=0) {old new:List Int} (hb:Bytes new) (hl:new.length=2048) (hn:32≤d.n) (hold:∀i,i<32→d.now i=secOf old i) (j:Nat) :
  (rewArea d old new).now j=if j<32 then secOf new j else d.now j:=by
 obtain ⟨a,b,_,_⟩:=eN h1 h2 old new 32
 have hs:(rewL d old new 32).step.off=false:=by simp [Dk.step,a,b]
 unfold rewArea Dk.flush
 rw [if_neg (by rw [hs];simp)]
 show ((fun _=>none:Nat→Option (List Int)) j).getD ((rewL d old new 32).step.now j)=_
 rw [Dk.step_now]
 exact rewL_now hk h1 h2 hb hl hn hold j 32 (by omega)
theorem dY {d:Dk} (h1:d.off=false) (h2:d.left=0) (old new:List Int):(rewArea d old new).off=false∧(rewArea d old new).left=0∧(rewArea d old new).n=d.n∧(∀i,(rewArea d old new).pend i=none)∧d.steps≤(rewArea d old new).steps∧(rewArea d old new).steps≤d.steps+33:=by
 obtain ⟨a,b,c,_⟩:=eN h1 h2 old new 32
 have hs:(rewL d old new 32).step.off=false:=by simp [Dk.step,a,b]
 have hst:=ja d old new 32
 unfold rewArea Dk.flush
 rw [if_neg (by rw [hs];simp)]
 refine ⟨hs,by show (if 0<(rewL d old new 32).left then _ else _)=0;rw [if_neg (by omega)];exact b,c,fun _=>rfl,?_,?_⟩
 ·show d.steps≤(rewL d old new 32).steps+1;omega
 ·show (rewL d old new 32).steps+1≤d.steps+33;omega
theorem jl {d:Dk} (h:d.Ok) (old:List Int) {new:List Int} (hb:Bytes new):(rewArea d old new).Ok:=by
 unfold rewArea Dk.flush
 split
 ·exact Dk.step_ok (kc h old hb 32)
 ·exact Dk.flushed_ok (Dk.step_ok (kc h old hb 32))
def area (b0 table b1:List Int):List Int:=b0++(table++b1)
def place (l:List Int) (at_:Nat):List Int:=(l.drop (1749 * at_)).take 299
def tableOf (l:List Int):List Int:=(l.drop 299).take 1450
theorem mj {b0 table b1:List Int} (h:b0.length=299):place (area b0 table b1) 0=b0:=by
 unfold place area
 rw [Nat.mul_zero,List.drop_zero,←h,List.take_left]
theorem place_one {b0 table b1:List Int} (h0:b0.length=299) (ht:table.length=1450) (h1:b1.length=299):place (area b0 table b1) 1=b1:=by
 unfold place area
 rw [Nat.mul_one,show 1749=299+1450 by rfl,←List.drop_drop,eS h0,eS ht,List.take_of_length_le (by omega)]
theorem jv {l:List Int} (h:l.length=2048):area (place l 0) (tableOf l) (place l 1)=l:=by
 unfold area place tableOf
 rw [Nat.mul_zero,List.drop_zero,Nat.mul_one]
 have e:(l.drop 1749).take 299=(l.drop 299).drop 1450:=by
  rw [List.drop_drop,List.take_of_length_le (by rw [List.length_drop];omega)]
 rw [e,List.take_append_drop,List.take_append_drop]
open Go Go.RowKit Go.Maps
theorem iW (xs ys:List Int) (u v:Value) (hx:Bytes xs) (hy:Bytes ys) (w:World) (hu:SlOld w u xs) (hv:SlOld w v ys) :
  Calls Tryz.prog 118 #[u,v] w fun e w'=>e=.returned (.bool (decide (xs=ys)))∧w'=w:=by
 obtain ⟨p,cap,rfl,hc1,hs1⟩:=hu
 obtain ⟨q,cap2,rfl,hc2,hs2⟩:=hv
 have HU:Hid (SlOld w (.slice p xs.length cap) xs):=⟨p,cap,rfl,hc1,hs1⟩
 have HV:Hid (SlOld w (.slice q ys.length cap2) ys):=⟨q,cap2,rfl,hc2,hs2⟩
 have HE:Hid ((strOf xs==strOf ys)=decide (xs=ys)):=strOf_eq hx hy
 clear hs1 hs2 hx hy
 go_enter Tryz.func118,Tryz.ntmps118
 go_wp2_with (first
  | ((with_reducible refine aa (some 6) (.convert 54 9 (.tmp 5)) ?_);go_must (refine ae (.string (strOf xs)) rfl (dW aq cf er xs rfl HU.out) ?_))
  | ((with_reducible refine aa (some 8) (.convert 54 9 (.tmp 7)) ?_);go_must (refine ae (.string (strOf ys)) rfl (dW aq cf er ys rfl HV.out) ?_))
  | ((with_reducible refine aa (some 9) (.binOp .eql 9 (.tmp 6) (.tmp 8) 9) ?_);go_must (refine ae (.bool (decide (xs=ys))) rfl (exec_eqsB (strOf xs) (strOf ys) _ rfl rfl HE.out) ?_)))
 go_ret
 exact ⟨rfl,rfl⟩
theorem fg (at_:Nat) (h:at_≤1) (w:World) :
  Calls Tryz.prog 125 #[.int .i64 (at_:Int)] w fun e w'=>e=.returned (.int .i64 ((1749 * at_:Nat):Int))∧w'=w:=by
 have HW:Hid (∀_:Unit,((1749 * at_:Nat):Int)=(at_:Int) * 1749):=fun _=>by omega
 go_enter Tryz.func125,Tryz.ntmps125
 go_wp2_with fail
 go_ret
 exact ⟨by rw [HW.out ()];rfl,rfl⟩
def withB (l:List Int) (at_:Nat) (b:List Int):List Int:=splice l (1749 * at_) b
theorem withB_length {l b:List Int} {at_:Nat} (hl:l.length=2048) (ha:at_≤1) (hb:b.length=299):(withB l at_ b).length=2048:=by
 simp [withB,splice];omega
theorem withB_bytes {l b:List Int} (hl:Bytes l) (hb:Bytes b) (at_:Nat):Bytes (withB l at_ b):=hl.splice hb _
theorem jk {l b:List Int} (hl:l.length=2048) (hb:b.length=299):withB l 0 b=area b (tableOf l) (place l 1):=by
 have h:=jv hl
 unfold withB
 conv=>lhs;rw [←h]
 have h0:(place l 0).length=299:=by simp [place];omega
 unfold splice area
 rw [Nat.mul_zero,List.take_zero,List.nil_append,Nat.zero_add,hb,eS h0]
theorem kf {l b:List Int} (hl:l.length=2048) (hb:b.length=299):withB l 1 b=area (place l 0) (tableOf l) b:=by
 have h:=jv hl
 have e:area (place l 0) (tableOf l) (place l 1)=(place l 0++tableOf l)++place l 1:=by unfold area;rw [List.append_assoc]
 rw [e] at h
 have h0:(place l 0++tableOf l).length=1749:=by simp [place,tableOf];omega
 have h1:(place l 1).length=299:=by simp [place];omega
 unfold withB
 conv=>lhs;rw [←h]
 unfold splice area
 rw [Nat.mul_one,←h0,List.take_left,List.drop_of_length_le (by rw [List.length_append,h1,hb];exact Nat.le_refl _),List.append_nil,List.append_assoc]
theorem m8 (l bs:List Int) (u v:Value) (at_:Nat) (ha:at_≤1) (hl:l.length=2048) (hbl:bs.length=299) (w:World) (hu:SlOld w u l) (hv:SlOld w v bs) :
  Calls Tryz.prog 80 #[u,.int .i64 (at_:Int),v] w fun e w'=>∃g,e=.returned (.slice (some ⟨g,0,none⟩) 2048 2048)∧w.heap.size≤g∧Row w' g (u8s (withB l at_ bs)) 5∧Below w.heap.size w w':=by
 obtain ⟨q,cap,rfl,hc,hs⟩:=hv
 have HV:Hid (SlOld w (.slice q 299 cap) bs):=by have h9:SlOld w (.slice q bs.length cap) bs:=⟨q,cap,rfl,hc,hs⟩;rw [hbl] at h9;exact h9
 have HU:Hid (SlOld w u l):=hu
 have HL:Hid (l.length=2048):=hl
 have hm:=Mem.start w
 have hfl:fillTo l 2048=l:=by rw [fillTo,List.take_of_length_le (by omega),hl];simp
 have HFL:Hid (∀_:Unit,fillTo l 2048=l):=fun _=>hfl
 obtain ⟨o,ho⟩:∃o:Nat,o=1749 * at_:=⟨_,rfl⟩
 have hob:o≤1749:=by omega
 have HO:Hid (∀_:Unit,1749 * at_=o):=fun _=>ho.symm
 have HNE:Hid (splice (u8s l) o (u8s (bs.take 299))=u8s (withB l at_ bs)):=by
  show _=_
  rw [List.take_of_length_le (by omega),withB,←ho]
  simp [splice,u8s]
 have HLU:Hid ((u8s l).length=2048):=by show _=_;rw [ab,hl]
 rw [hbl]
 clear hu hs hl hbl hc hfl ho
 go_enter Tryz.func80,Tryz.ntmps80
 go_wp2_with (first
  | (go_at_call 115;refine (aK l _ 2048 2048 HL.out (by omega) _ HU.out).mono ?_;rintro e w1 ⟨g,rfl,hge,hr,hb⟩;rw [HFL.out ()] at hr;replace hm:=hm.callNew hb hr hge;clear hge hr hb)
  | (go_at_call 125;refine (fg at_ ha _).mono ?_;rintro e w2 ⟨he,hw⟩;rw [HO.out ()] at he;subst he;replace hw:=hw.symm;subst hw)
  | ((with_reducible refine aa (some 13) (.slice 54 (.tmp 10) (some (.tmp 12)) none none) ?_);go_must (refine ae (.slice (cutLo (some ⟨g,0,none⟩) 2048 o) (2048 - o) (2048 - o)) rfl (cw aq av o (by omega) rfl rfl rfl) ?_);rw [show cutLo (some ⟨g,0,none⟩) 2048 o=some ⟨g,o,none⟩ by unfold cutLo;rw [if_neg (by omega)];simp [aZ]])
  | ((with_reducible refine aa (some 15) (.call {callee:=.builtin .copy,args:=#[.tmp 13,.tmp 14],argTypes:=#[54,54]}) ?_);go_must (refine ek 0 bs 299 (u8s (withB l at_ bs)) hm rfl rfl rfl _ aq av (SlOld.mem HV.out hm) (by show 299=min 299 (2048 - o);omega) (by have:=HLU.out;omega) HNE.out ?_);clear hm;intro w3 hm))
 go_ret
 have hf:=hm.fresh _ (List.mem_cons_self ..)
 exact ⟨g,rfl,by simpa using hf,hm.get 0 rfl,hm.below⟩
open Go Go.RowKit
theorem bitL_drop (l:List Int) (n j:Nat):bitL (l.drop n) j=bitL l (8 * n+j):=by
 unfold bitL
 rw [show (8 * n+j) / 8=n+j / 8 by omega,show (8 * n+j) % 8=j % 8 by omega]
 simp only [List.getD_eq_getElem?_getD,List.getElem?_drop]
theorem bitL_app {a b:List Int} {j:Nat} (h:j / 8<a.length):bitL (a++b) j=bitL a j:=by
 unfold bitL
 simp only [List.getD_eq_getElem?_getD]
 rw [List.getElem?_append_left h]
def wg (A:List Int) (f:Gens):List Int:=A.take 299++tabL (A.drop 299) f 400
def Dom (f:Gens):Prop:=∀i g,f i=some g→i<400
theorem wg_tab {A:List Int} (hl:A.length=2048) (hb:Bytes A) {f:Gens} (hf:Dom f):GTab (A.drop 299) f (tabL (A.drop 299) f 400):=by
 have h:=tabL_tab (hb.drop 299) f 400 (by rw [List.length_drop,hl];omega)
 have e:(fun k=>if k<400 then f k else none)=f:=by
  funext k
  by_cases hk:k<400
  ·rw [if_pos hk]
  ·rw [if_neg hk]
   cases hfk:f k with
   | none=>rfl
   | some g=>exact absurd (hf k g hfk) hk
 rw [e] at h
 exact h
theorem dR {A:List Int} (hl:A.length=2048) (hb:Bytes A) {f:Gens} (hf:Dom f):(wg A f).length=2048:=by
 have h:=(wg_tab hl hb hf).len
 rw [List.length_drop,hl] at h
 rw [wg,List.length_append,h,List.length_take,hl]
 omega
theorem lY {A:List Int} (hl:A.length=2048) (hb:Bytes A) {f:Gens} (hf:Dom f):Bytes (wg A f):=(hb.take _).append (wg_tab hl hb hf).bytes
theorem wg_drop {A:List Int} (hl:A.length=2048) (f:Gens):(wg A f).drop 299=tabL (A.drop 299) f 400:=by
 unfold wg
 exact eS (by rw [List.length_take,hl];omega)
theorem wg_get {A:List Int} (hl:A.length=2048) (hb:Bytes A) {f:Gens} (hf:Dom f) (i g:Nat) (h:f i=some g):getT ((wg A f).drop 299) (29 * i) 29=((g % 536870912:Nat):Int):=by
 have hi:=hf i g h
 rw [wg_drop hl,(wg_tab hl hb hf).get i g (by rw [List.length_drop,hl];omega) h]
theorem wg_zero {A:List Int} (hl:A.length=2048) (f:Gens):place (wg A f) 0=place A 0:=by
 unfold place wg
 rw [Nat.mul_zero,List.drop_zero,List.drop_zero,List.take_append_of_le_length (by rw [List.length_take,hl];omega),List.take_take]
 rfl
theorem tab_tail {A:List Int} (hl:A.length=2048) (hb:Bytes A) {f:Gens} (hf:Dom f):(tabL (A.drop 299) f 400).drop 1450=(A.drop 299).drop 1450:=by
 have hg:=wg_tab hl hb hf
 have h1:=hg.len
 refine lQ (hg.bytes.drop _) ((hb.drop 299).drop 1450) (by rw [List.length_drop,List.length_drop,h1]) fun j hj=>?_
 rw [List.length_drop,h1,List.length_drop,hl] at hj
 rw [bitL_drop,bitL_drop,hg.bit _ (by rw [List.length_drop,hl];omega)]
 unfold tabBit
 cases hfj:f ((8 * 1450+j) / 29) with
 | none=>rfl
 | some g=>exact absurd (hf _ g hfj) (by omega)
theorem wg_one {A:List Int} (hl:A.length=2048) (hb:Bytes A) {f:Gens} (hf:Dom f):place (wg A f) 1=place A 1:=by
 unfold place
 rw [Nat.mul_one,show (1749:Nat)=299+1450 by rfl,←List.drop_drop,←List.drop_drop,wg_drop hl,tab_tail hl hb hf]
theorem wg_place {A:List Int} (hl:A.length=2048) (hb:Bytes A) {f:Gens} (hf:Dom f) {at_:Nat} (ha:at_<2):place (wg A f) at_=place A at_:=by
 have h:at_=0∨at_=1:=by omega
 rcases h with rfl|rfl
 ·exact wg_zero hl f
 ·exact wg_one hl hb hf
theorem cn {A:List Int} (hl:A.length=2048) {at_:Nat} (ha:at_<2):(place A at_).length=299:=by
 have h:at_=0∨at_=1:=by omega
 rcases h with rfl|rfl<;>simp [place,hl]
theorem g0 {A:List Int} (hb:Bytes A) (at_:Nat):Bytes (place A at_):=(hb.drop _).take _
theorem kT {A b:List Int} (hl:A.length=2048) (hb:b.length=299) {at_:Nat} (ha:at_<2):place (withB A at_ b) at_=b:=by
 have ht:(tableOf A).length=1450:=by simp [tableOf,hl]
 have h:at_=0∨at_=1:=by omega
 rcases h with rfl|rfl
 ·rw [jk hl hb,mj hb]
 ·rw [kf hl hb,place_one (cn hl (by omega)) ht hb]
theorem withB_other {A b:List Int} (hl:A.length=2048) (hb:b.length=299) {at_:Nat} (ha:at_<2):place (withB A at_ b) (1 - at_)=place A (1 - at_):=by
 have ht:(tableOf A).length=1450:=by simp [tableOf,hl]
 have h:at_=0∨at_=1:=by omega
 rcases h with rfl|rfl
 ·rw [jk hl hb,place_one hb ht (cn hl (by omega))]
 ·rw [kf hl hb]
  exact mj (cn hl (by omega))
theorem k4 {A b:List Int} (hl:A.length=2048) (hb:b.length=299) {at_:Nat} (ha:at_<2) {i:Nat} (hi:i<400):getT ((withB A at_ b).drop 299) (29 * i) 29=getT (A.drop 299) (29 * i) 29:=by
 have h:at_=0∨at_=1:=by omega
 have ht:(tableOf A).length=1450:=by simp [tableOf,hl]
 have e0:A.drop 299=tableOf A++place A 1:=by
  have h9:=jv hl
  conv=>lhs;rw [←h9]
  unfold area
  exact eS (cn hl (by omega))
 have e1:∃c,(withB A at_ b).drop 299=tableOf A++c:=by
  rcases h with rfl|rfl
  ·rw [jk hl hb];exact ⟨_,eS hb⟩
  ·rw [kf hl hb];exact ⟨_,eS (cn hl (by omega))⟩
 obtain ⟨c,e1⟩:=e1
 rw [e0,e1]
 refine mL 29 fun j hj=>?_
 rw [bitL_app (by rw [ht];omega),bitL_app (by rw [ht];omega)]
structure SupIs (kS kN:List Int) (pg:Nat) (A:List Int) (at_ limit:Nat) (root:Int) (mt:List Int) (f:Gens):Prop where
 blk:place A at_=blockN kS kN pg limit (bodyN root mt f) f
 has:∀i g,f i=some g→getT (A.drop 299) (29 * i) 29=((g % 536870912:Nat):Int)
 kept:Kept f pg limit
 mt:Bytes mt∧mt.length≤200
 root:0≤root∧root<4294967296
def rootAt (kS b:List Int):Int:=numL ((bodyAt kS b).take 4)
def metaL (cs:List Int):List Int:=if numL (cs.take 2)≤200 then (cs.drop 2).take (numL (cs.take 2)).toNat else []
def metaAt (kS b:List Int):List Int:=metaL ((bodyAt kS b).drop 54)
def marksAt (kS b:List Int):List Int:=((bodyAt kS b).drop 4).take 50
theorem states_of {f:Gens} {pg limit:Nat} (hk:Kept f pg limit) (hp:pg≤400) {table:List Int} (ht:∀i g,f i=some g→getT table (29 * i) 29=((g % 536870912:Nat):Int)):statesN pg limit (marksOf f) table=f:=by
 funext i
 unfold statesN
 by_cases hi:i<pg
 ·rw [marksOf_bit f i (by omega)]
  cases hf:f i with
  | none=>simp
  | some g =>
   have h1:=hk.gen i g hf
   rw [ht i g hf,genB_back h1.1 h1.2 hk.lim]
   simp [hi]
 ·rw [if_neg (fun h=>hi h.1),hk.out i (by omega)]
section
variable {kS kN:List Int} {pg:Nat} {A:List Int} {at_ limit:Nat} {root:Int} {mt:List Int} {f:Gens}
theorem SupIs.lim (h:SupIs kS kN pg A at_ limit root mt f):limitAt (place A at_)=(limit:Int):=by
 have:=h.kept.lim
 rw [h.blk]
 exact fp kS kN pg (by omega) _ _
theorem SupIs.body (h:SupIs kS kN pg A at_ limit root mt f):bodyAt kS (place A at_)=bodyN root mt f:=by
 rw [h.blk]
 exact bodyAt_block kS kN pg limit (eY root h.mt.1 f) (bV root mt f) f
theorem SupIs.states (h:SupIs kS kN pg A at_ limit root mt f) (hp:pg≤400):statesN pg (limitAt (place A at_)) (marksAt kS (place A at_)) (A.drop 299)=f:=by
 unfold marksAt
 rw [h.lim,h.body,bodyN_marks root mt f h.mt.2]
 exact states_of h.kept hp h.has
theorem SupIs.valid (h:SupIs kS kN pg A at_ limit root mt f) (hp:pg≤400):validN kS kN pg (place A at_) (A.drop 299)=true:=by
 have h0:=h.kept.lim
 have hs:=h.states hp
 unfold marksAt at hs
 unfold validN
 rw [hs,h.lim,h.body,h.blk,opens_block kS kN pg (by omega),fj,decide_eq_true rfl]
 rfl
end
def keepA (kS kN:List Int) (pg:Nat) (A:List Int) (at_ limit:Nat) (root:Int) (mt:List Int) (f:Gens):List Int:=withB (wg A f) at_ (blockN kS kN pg limit (bodyN root mt f) f)
section
variable {kS kN:List Int} {pg:Nat} {A:List Int} {at_ limit limit':Nat} {root root':Int} {mt mt':List Int} {f f':Gens}
theorem ev (hl:A.length=2048) (hb:Bytes A) (hf:Dom f) (ha:at_<2):(keepA kS kN pg A at_ limit root mt f).length=2048 :=
 withB_length (dR hl hb hf) (by omega) (cD kS kN pg limit (bV root mt f) f)
theorem fb (hl:A.length=2048) (hb:Bytes A) (hf:Dom f) (hm:Bytes mt):Bytes (keepA kS kN pg A at_ limit root mt f) :=
 withB_bytes (lY hl hb hf) (j2 kS kN pg limit (eY root hm f) f) _
theorem keepA_sup (hl:A.length=2048) (hb:Bytes A) (hf:Dom f) (ha:at_<2) (hk:Kept f pg limit) (hm:Bytes mt∧mt.length≤200) (hr:0≤root∧root<4294967296):SupIs kS kN pg (keepA kS kN pg A at_ limit root mt f) at_ limit root mt f:=by
 have h1:=dR hl hb hf
 have h2:=cD kS kN pg limit (bV root mt f) f
 refine ⟨kT h1 h2 ha,fun i g hg=>?_,hk,hm,hr⟩
 unfold keepA
 rw [k4 h1 h2 ha (hf i g hg),wg_get hl hb hf i g hg]
theorem jp (hl:A.length=2048) (hb:Bytes A) (hf:Dom f) (ha:at_<2):place (keepA kS kN pg A at_ limit root mt f) (1 - at_)=place A (1 - at_):=by
 unfold keepA
 rw [withB_other (dR hl hb hf) (cD kS kN pg limit (bV root mt f) f) ha,wg_place hl hb hf (by omega)]
theorem keepA_other (hl:A.length=2048) (hb:Bytes A) (hf:Dom f) (ha:at_<2) (hs:SupIs kS kN pg A (1 - at_) limit' root' mt' f') (hc:∀i g,f' i=some g→f i=some g):SupIs kS kN pg (keepA kS kN pg A at_ limit root mt f) (1 - at_) limit' root' mt' f':=by
 have h1:=dR hl hb hf
 have h2:=cD kS kN pg limit (bV root mt f) f
 refine ⟨?_,fun i g hg=>?_,hs.kept,hs.mt,hs.root⟩
 ·rw [jp hl hb hf ha];exact hs.blk
 ·unfold keepA
  rw [k4 h1 h2 ha (hf i g (hc i g hg)),wg_get hl hb hf i g (hc i g hg)]
theorem keepA_lim (hl:A.length=2048) (hb:Bytes A) (hf:Dom f) (ha:at_<2) (hlt:limit<18446744073709551616) {m:Int} (h0:limitAt (place A 0)≤m) (h1:limitAt (place A 1)≤m) (hm:m≤limit) (j:Nat) (hj:j<2):limitAt (place (keepA kS kN pg A at_ limit root mt f) j)≤limit:=by
 by_cases h:j=at_
 ·subst h
  unfold keepA
  rw [kT (dR hl hb hf) (cD kS kN pg limit (bV root mt f) f) ha,fp kS kN pg (by omega)]
  exact Int.le_refl _
 ·rw [show j=1 - at_ by omega,jp hl hb hf ha]
  have h9:1 - at_=0∨1 - at_=1:=by omega
  rcases h9 with h9|h9<;>rw [h9]<;>omega
end
def keepD (d:Dk) (A A1 A2:List Int):Dk:=rewArea (rewArea d A A1) A1 A2
theorem secs_sec {f:Nat→List Int} {i:Nat} (h:∀i,i<32→(f i).length=64) (hi:i<32):secOf (secs f 0 32) i=f i:=by
 unfold secOf secs
 have h9:=flatK_at (fun i=>f (0+i)) 32 i (fun j hj=>by rw [Nat.zero_add];exact h j hj) hi
 rw [Nat.mul_comm,h9,Nat.zero_add]
theorem sec_secs {f:Nat→List Int} {A:List Int} (hl:A.length=2048) (h:∀i,i<32→f i=secOf A i):secs f 0 32=A:=by
 have h9:secs f 0 32=flatK (fun i=>(A.drop (64 * i)).take 64) 32:=eg _ _ _ (fun i hi=>by rw [Nat.zero_add];exact h i hi)
 rw [h9,mq A 32 (by omega),List.take_of_length_le (by omega)]
theorem kg {d:Dk} (hk:d.Ok) (h1:d.off=false) (h2:d.left=0) {A A1 A2:List Int} (hA:secs d.now 0 32=A) (hl1:A1.length=2048) (hb1:Bytes A1) (hl2:A2.length=2048) (hb2:Bytes A2) (hn:32≤d.n) :
  secs (keepD d A A1 A2).now 0 32=A2∧∀j,32≤j→(keepD d A A1 A2).now j=d.now j:=by
 obtain ⟨a,b,c,_⟩:=dY h1 h2 A A1
 have hold:∀i,i<32→d.now i=secOf A i:=fun i hi=>by rw [←hA,secs_sec (fun i hi=>hk.now (by omega)) hi]
 have hn1:=kR hk h1 h2 hb1 hl1 hn hold
 have hk1:=jl hk A hb1
 have hn2:=kR hk1 a b hb2 hl2 (by rw [c];exact hn) (fun i hi=>by rw [hn1,if_pos hi])
 refine ⟨sec_secs hl2 fun i hi=>?_,fun j hj=>?_⟩
 ·show (rewArea (rewArea d A A1) A1 A2).now i=_
  rw [hn2,if_pos hi]
 ·show (rewArea (rewArea d A A1) A1 A2).now j=_
  rw [hn2,if_neg (by omega),hn1,if_neg (by omega)]
theorem mh {d:Dk} {k:Nat} (h1:d.off=false) (h2:d.left=0) (hs0:0≤d.steps) (hs1:d.steps≤k) (A A1 A2:List Int):(keepD d A A1 A2).off=false∧(keepD d A A1 A2).left=0∧0≤(keepD d A A1 A2).steps∧(keepD d A A1 A2).steps≤((k+66:Nat):Int)∧(keepD d A A1 A2).n=d.n∧∀i,(keepD d A A1 A2).pend i=none:=by
 obtain ⟨a,b,c,_,e,g⟩:=dY h1 h2 A A1
 obtain ⟨a',b',c',p',e',g'⟩:=dY a b A1 A2
 unfold keepD
 exact ⟨a',b',by omega,by omega,by rw [c',c],p'⟩
end Go.Proofs.YtmlbjfklaehjnaaGreatDoor
