import Derived.Test.YtlpnafdkhoimhaaGreatDoorQr13
import Derived.Test.YtlpnafdkhoimhaaGreatDoorQr12
set_option maxRecDepth 100000
set_option maxHeartbeats 4000000
namespace Go.Proofs.YtlpnafdkhoimhaaGreatDoor
open Go Go.RowKit
theorem lm (zs:List Int) (v:Value) (m:Nat) (hzl:zs.length≤30000) (hml:m≤30000) (w:World) (hv:SlOld w v zs) :
  Calls Tryz.prog 120 #[v,.int .i64 (m:Int)] w fun e w'=>∃g,e=.returned (.slice (some ⟨g,0,none⟩) (zs.length+m) (zs.length+m))∧w.heap.size≤g∧Row w' g (u8s (zs++List.replicate m 0)) 5∧Below w.heap.size w w':=by
 obtain ⟨p,cap,rfl,hcap⟩:=hv.len
 have hm:=Mem.start w
 have HV:Hid (SlOld w (.slice p zs.length cap) zs):=hv
 have HNE:Hid (splice (List.replicate (zs.length+m) (.int .u8 0)) 0 (u8s (zs.take zs.length))=u8s (zs++List.replicate m 0)):=by
  show _=_
  have e:List.replicate (zs.length+m) (Value.int .u8 0)=u8s (List.replicate (zs.length+m) 0):=by simp [u8s]
  rw [List.take_of_length_le (Nat.le_refl _),e,cF zs (zs.length+m),show zs.length+m - zs.length=m by omega]
 have HMI:Hid (zs.length=Nat.min zs.length (zs.length+m)):=(Nat.min_eq_left (by omega)).symm
 clear hv
 go_enter Tryz.func120,Tryz.ntmps120
 go_wp2_with (first
  | ((with_reducible refine ae (some 10) (.makeSlice 56 (.tmp 9) (.tmp 9)) ?_);go_must (refine ff _ aF _ bF rfl (zs.length+m) rfl (by first|rfl|omega|go_num) rfl (by first|rfl|omega|go_num) (by omega) hm ?_);clear hm;intro w1 g hm)
  | ((with_reducible refine ae (some 13) (.call {callee:=.builtin .copy,args:=#[.tmp 11,.tmp 12],argTypes:=#[56,56]}) ?_);go_must (refine dy 0 zs zs.length (u8s (zs++List.replicate m 0)) hm rfl rfl rfl _ aF aQ (SlOld.mem HV.out hm) HMI.out (by simp) HNE.out ?_);clear hm;intro w2 hm))
 go_ret
 have hf:=hm.fresh _ (List.mem_cons_self ..)
 exact ⟨g,rfl,by simpa using hf,hm.get 0 rfl,hm.below⟩
theorem set_two (zs:List Int) (a b:Int) (r:List Int):(((u8s (zs++([0,0]++r))).set (zs.length+1) (.int .u8 b)).set (zs.length+0) (.int .u8 a))=u8s (zs++([a,b]++r)):=by
 rw [bW,bW]
 simp [u8s,List.set_append_right]
theorem lH (g:Nat) (zs r:List Int) (n:Int) (cap:Nat) (w:World) (hr:Row w g (u8s (zs++([0,0]++r))) 5) :
  Calls Tryz.prog 121 #[.slice (some ⟨g,zs.length,none⟩) 2 cap,.int .u64 n] w fun e w'=>e=.returned (.tuple #[])∧Row w' g (u8s (zs++(be2 n++r))) 5∧Upd g w w':=by
 have hm:=Mem.enter hr
 have HLN:Hid (((u8s (zs++([0,0]++r))).length=zs.length+(2+r.length))):=by show _=_;simp [aa];omega
 clear hr
 go_enter Tryz.func121,Tryz.ntmps121
 go_wp2_with fail
 refine wp_loop_rounds 3 ?_
 iterate 3 (rw [rounds_succ];go_wp2_with (first
  | (((with_reducible refine ae none (.store 5 (.tmp 16) (.tmp 15)) ?_);refine bj 0 _ _ hm rfl (rfl) rfl aQ (by first|(rw [HLN.out];omega)|(simp only [List.length_set];rw [HLN.out];omega)) rfl rfl ?_;clear hm;intro w9 hm))))
 go_end0
 have hrow:=hm.get 0 rfl
 exact ⟨rfl,by have e:=set_two zs (n / 256 % 256) (n % 256) r;rw [show be2 n=[n / 256 % 256,n % 256] from rfl,←e];exact hrow,hm.toUpd⟩
theorem held_two (w:World) :
  Calls Tryz.prog 119 #[.int .i64 2] w fun e w'=>e=.returned (.int .i64 2)∧w'=w:=by
 go_enter Tryz.func119,Tryz.ntmps119
 go_wp2
 go_ret
 exact ⟨rfl,rfl⟩
theorem put_two (zs:List Int) (v:Value) (n:Int) (hzl:zs.length≤30000) (w:World) (hv:SlOld w v zs) :
  Calls Tryz.prog 91 #[v,.int .u64 n,.int .i64 2] w fun e w'=>∃g,e=.returned (.slice (some ⟨g,0,none⟩) (zs.length+2) (zs.length+2))∧w.heap.size≤g∧Row w' g (u8s (zs++be2 n)) 5∧Below w.heap.size w w':=by
 obtain ⟨p,cap,rfl,hcap⟩:=hv.len
 have hm:=Mem.start w
 have HV:Hid (SlOld w (.slice p zs.length cap) zs):=hv
 clear hv
 go_enter Tryz.func91,Tryz.ntmps91
 go_wp2_with (first
  | (go_at_call 119;refine (held_two _).mono ?_;rintro e w1 ⟨rfl,rfl⟩)
  | (go_at_call 120;refine (lm zs _ 2 (by omega) (by omega) _ HV.out).mono ?_;rintro e w2 ⟨g,rfl,hge,hr,hb⟩;have HGE:Hid _:=hge;have HR:Hid (Row w2 g (u8s (zs++([0,0]++[]))) 5):=hr;have HBL:Hid _:=hb;clear hge hr hb)
  | ((with_reducible refine ae (some 17) (.slice 56 (.tmp 14) (some (.tmp 16)) none none) ?_);go_must (refine wpl_slo aF aQ zs.length zs.length 2 2 (by omega) (by omega) (by omega) (by omega) (by omega) rfl rfl rfl ?_))
  | (go_at_call 121;refine (lH g zs [] n 2 _ HR.out).mono ?_;rintro e w3 ⟨rfl,hr2,hu⟩;rw [List.append_nil] at hr2;have HR2:Hid (Row w3 g (u8s (zs++be2 n)) 5):=hr2;have HU2:Hid (Upd g w2 w3):=hu;clear hr2 hu))
 go_ret
 exact ⟨g,rfl,HGE.out,HR2.out,gp HBL.out HU2.out HGE.out HBL.out.size⟩
theorem or_next {x c:Int} (hx:0≤x∧x<72057594037927936) (hc:0≤c∧c<256):Go.bits .or .u64 (x * 256) c=x * 256+c:=by
 rw [u64_or (x * 256) c (by omega) (by omega) hc.1 (by omega),nat_join 8 _ _ (by omega) (by omega)]
 omega
theorem take_next (cs:List Int) (k:Nat) (h:k<cs.length):numL (cs.take (k+1))=numL (cs.take k) * 256+cs.getD k 0:=by
 rw [List.take_add_one,List.getElem?_eq_getElem h,Option.toList_some,numL_snoc]
 simp [h]
theorem number_any (cs:List Int) (v:Value) (n:Nat) (hn:cs.length=n) (hn8:n≤8) (hcb:Bytes cs) (w:World) (hv:SlOld w v cs) :
  Calls Tryz.prog 183 #[v] w fun e w'=>e=.returned (.int .u64 (numL cs))∧w'=w:=by
 obtain ⟨p,cap,rfl,hcap,hs⟩:=hv
 rw [hn] at hs hcap ⊢
 have HB:Hid _:=hcb
 clear hcb
 go_enter Tryz.func183,Tryz.ntmps183
 go_wp2_with fail
 go_loopw [3,8] (fun vx vi wr=>∃k:Nat,k≤n∧vx=.int .u64 (numL (cs.take k))∧vi=.int .i64 k∧wr=w) (fun _ vi _=>n - (RowKit.intOf vi).toNat)
 case atStart=>exact ⟨0,by omega,rfl,rfl,rfl⟩
 case round =>
  obtain ⟨k,hk,rfl,rfl,rfl⟩:=hrel
  by_cases hlt:k<n
  ·obtain ⟨b,off,rfl,hseg⟩:=hs (by omega)
   have hki:(k:Int)<(n:Int):=by omega
   have hc:=hseg k (by omega)
   have hb1:=Bytes.get HB.out k
   have hb2:Bytes (cs.take k):=Bytes.take HB.out k
   have h1:=jw hb2
   have h2:=numL_lt hb2
   have h3:(256:Int) ^ (cs.take k).length≤256 ^ 7:=by
    rw [List.length_take,Nat.min_eq_left (by omega)]
    exact (show ∀k:Nat,k<8→(256:Int) ^ k≤256 ^ 7 by decide) k (by omega)
   have h4:numL (cs.take k)<72057594037927936:=by
    have:(256:Int) ^ 7=72057594037927936:=by decide
    omega
   have HN:Hid (numL (cs.take (k+1))=Go.bits .or .u64 (numL (cs.take k) * 256) (cs.getD k 0)):=by
    show _=_
    rw [take_next cs k (by omega),or_next ⟨h1,h4⟩ hb1]
   obtain ⟨x,hx⟩:∃x,x=numL (cs.take k):=⟨_,rfl⟩
   obtain ⟨c,hcc⟩:∃c,c=cs.getD k 0:=⟨_,rfl⟩
   rw [←hx] at h1 h4 HN ⊢
   rw [←hcc] at hc hb1 HN
   obtain ⟨hb10,hb11⟩:=hb1
   clear h2 h3 hx hcc hb2 hseg
   go_wp2_with fail
   go_roundw
   case rel=>exact ⟨k+1,by omega,by rw [HN.out],by go_num,trivial⟩
   case measure=>simp [RowKit.intOf];omega
  ·have hkn:k=n:=by omega
   subst hkn
   have hni:¬(k:Int)<(k:Int):=by omega
   go_wp2_with fail
   go_ret
   rw [List.take_of_length_le (by omega)]
   exact ⟨rfl,rfl⟩
theorem get_eight (cs:List Int) (v:Value) (n:Nat) (hn:cs.length=n) (hk:8≤n) (hl:n≤30000) (hcb:Bytes cs) (w:World) (hv:SlOld w v cs) :
  Calls Tryz.prog 148 #[v,.int .i64 8] w fun e w'=>∃g,e=.returned (.tuple #[.int .u64 (numL (cs.take 8)),.slice (some ⟨g,0,none⟩) (n - 8) (n - 8),.int .i64 0])∧w.heap.size≤g∧Row w' g (u8s (cs.drop 8)) 5∧Below w.heap.size w w':=by
 obtain ⟨p,cap,rfl,hcap⟩:=hv.len
 have HV:Hid (SlOld w (.slice p cs.length cap) cs):=hv
 clear hv
 rw [hn] at hcap HV ⊢
 have HB:Hid _:=hcb
 clear hcb
 have HDL:Hid ((cs.drop 8).length=n - 8):=by show _=_;rw [List.length_drop,hn]
 have hm:=Mem.start w
 obtain ⟨X,hX⟩:∃X,X=numL (cs.take 8):=⟨_,rfl⟩
 have HX:Hid (∀_:Unit,numL (cs.take 8)=X):=fun _=>hX.symm
 rw [←hX]
 clear hX
 go_enter Tryz.func148,Tryz.ntmps148
 go_wp2_with (first
  | (go_at_call 119;refine (gV _).mono ?_;rintro e w1 ⟨rfl,rfl⟩))
 refine aA ?_
 refine aZ (T:=fun W=>Mem w1 [] W []) (by kernel_rfl) hm ?_
 clear hm
 intro w2 hm
 refine aT 0 (v:=.slice p n cap) rfl (by kernel_rfl) rfl (fun W _=>by go_simp) hm ?_
 go_simp
 refine aT 1 (v:=.int .i64 8) rfl (by kernel_rfl) rfl (fun W _=>by go_simp) hm ?_
 go_simp
 refine aT 4 (v:=.slice p n cap) rfl (by kernel_rfl) rfl (fun W _=>by go_simp) hm ?_
 go_simp
 refine aT 5 (v:=.int .i64 8) rfl (by kernel_rfl) rfl (fun W _=>by go_simp) hm ?_
 go_simp
 refine aT 2 (v:=.slice (cutHi p cap) 8 cap) rfl (by kernel_rfl) rfl (fun W _=>iI aF aQ 8 (by omega) rfl rfl rfl) hm ?_
 go_simp
 refine aT 6 (v:=.slice (cutLo p cap 8) (n - 8) (cap - 8)) rfl (by kernel_rfl) rfl (fun W _=>exec_sLo aF aQ 8 (by omega) rfl rfl rfl) hm ?_
 go_simp
 refine aO 3 (by kernel_rfl) rfl rfl ?_
 intro K hK
 go_wp2_with (go_at_call 183;refine (number_any (cs.take 8) _ 8 (by rw [List.length_take,hn];omega) (by omega) (Bytes.take HB.out 8) _ (old_hi (SlOld.mem HV.out hm) 8 (by omega))).mono ?_;rintro e w3 ⟨he,rfl⟩;rw [HX.out ()] at he;subst he)
 refine hK _ _ hm ?_
 clear hK K
 refine aO 7 (by kernel_rfl) rfl rfl ?_
 intro K hK
 go_wp2_with (go_at_call 120;refine (lm (cs.drop 8) _ 0 (by rw [HDL.out];omega) (by omega) _ (old_lo (SlOld.mem HV.out hm) 8 (by omega))).mono ?_;rintro e w4 ⟨g,he,hge,hr,hb⟩;rw [HDL.out,Nat.add_zero] at he;subst he;rw [List.replicate_zero,List.append_nil] at hr;replace hm:=hm.callNew hb hr hge;clear hb hr hge)
 refine hK _ _ hm.tail ?_
 clear hK K
 refine aT 8 (v:=.int .u64 X) rfl (by kernel_rfl) rfl (fun W _=>by go_simp) hm.tail ?_
 go_simp
 refine aT 9 (v:=.slice (some ⟨g,0,none⟩) (n - 8) (n - 8)) rfl (by kernel_rfl) rfl (fun W _=>by go_simp) hm.tail ?_
 go_simp
 refine aT 10 (v:=.int .i64 0) rfl (by kernel_rfl) rfl (fun W _=>by go_simp) hm.tail ?_
 go_simp
 refine wpAnyH_done (by kernel_rfl) ?_ _
 simp only [endsIn]
 go_wp2_with fail
 go_ret3
 have hf:=hm.fresh _ (List.mem_cons_self ..)
 exact ⟨g,rfl,by simpa using hf,hm.get 0 rfl,hm.below⟩
open Go Go.RowKit Go.Maps
theorem new_some (k:Nat) (hk:k≤4000) (w:World) :
  Calls Tryz.prog 17 #[.int .i64 (k:Int)] w fun e w'=>∃g,e=.returned (.pointer (some ⟨g,0,none⟩))∧∃mb kv,DkAt w' g mb kv (Dk.new (k))∧(∀q∈foot g mb kv,w.heap.size≤q)∧Below w.heap.size w w':=by
 have hm:=Mem.start w
 have h1:¬((0:Int) > (k:Int)):=by omega
 have h2:¬((4000:Int)<(k:Int)):=by omega
 go_enter Tryz.func17,Tryz.ntmps17
 go_wp2_with (first
  | ((with_reducible refine ae (some 6) (.makeSlice 96 (.tmp 5) (.tmp 5)) ?_);go_must (refine gU (k) rfl (by first|rfl|omega) rfl (by first|rfl|omega) (by omega) hm ?_);clear hm;intro w1 kb hm)
  | ((with_reducible refine ae (some 7) (.makeMap 97 none) ?_);go_must (refine jq hm ?_);intro w2 mb hm2 hmap hmb;have hkm:w.heap.size≤mb:=Nat.le_trans hm.size hmb;clear hm hmb;have hm:=hm2;clear hm2)
  | ((with_reducible refine ae (some 8) (.build 99 #[(0,.tmp 6),(1,.tmp 7)]) ?_);go_must (refine ay (drow (.slice (some ⟨kb,0,none⟩) (k) (k)) mb 0 0 false) _ rfl (by kernel_rfl) ?_))
  | ((with_reducible refine ae (some 9) (.box 99 (.tmp 8)) ?_);go_must (refine fN (drow (.slice (some ⟨kb,0,none⟩) (k) (k)) mb 0 0 false) rfl hm ?_);intro w3 g hb3 hm3;have hmap3:=(hb3.block mb (Array.getElem?_eq_some_iff.1 hmap).1).trans hmap;clear hm hmap hb3;have hm:=hm3;clear hm3))
 go_ret
 refine ⟨g,rfl,mb,.slice (some ⟨kb,0,none⟩) (k) (k),⟨Dk.new_ok _ (by omega),hm.get 0 rfl,⟨_,_,rfl,Nat.le_refl _,fun _=>⟨kb,[],rfl,by rw [List.append_nil];exact hm.get 1 rfl⟩⟩,⟨0,_,gz hmap3,PM.none⟩⟩,?_,hm.below⟩
 intro q hq
 have h1:=hm.fresh _ (List.mem_cons_self ..)
 have h2:=hm.tail.fresh _ (List.mem_cons_self ..)
 simp only [List.not_mem_nil,false_or] at h1 h2
 simp only [foot,kbOf,List.mem_cons] at hq
 rcases hq with rfl|rfl|hq
 ·exact h1
 ·exact hkm
 ·split at hq
  ·cases hq
  ·simp only [List.mem_cons,List.not_mem_nil,or_false] at hq
   subst hq
   exact h2
theorem new_none (n:Int) (hn:n<0) (w:World) :
  Calls Tryz.prog 17 #[.int .i64 n] w fun e w'=>∃g,e=.returned (.pointer (some ⟨g,0,none⟩))∧∃mb kv,DkAt w' g mb kv (Dk.new (0))∧(∀q∈foot g mb kv,w.heap.size≤q)∧Below w.heap.size w w':=by
 have hm:=Mem.start w
 have h1:(0:Int) > n:=by omega
 go_enter Tryz.func17,Tryz.ntmps17
 go_wp2_with (first
  | ((with_reducible refine ae (some 6) (.makeSlice 96 (.tmp 5) (.tmp 5)) ?_);go_must (refine gU (0) rfl (by first|rfl|omega) rfl (by first|rfl|omega) (by omega) hm ?_);clear hm;intro w1 kb hm)
  | ((with_reducible refine ae (some 7) (.makeMap 97 none) ?_);go_must (refine jq hm ?_);intro w2 mb hm2 hmap hmb;have hkm:w.heap.size≤mb:=Nat.le_trans hm.size hmb;clear hm hmb;have hm:=hm2;clear hm2)
  | ((with_reducible refine ae (some 8) (.build 99 #[(0,.tmp 6),(1,.tmp 7)]) ?_);go_must (refine ay (drow (.slice (some ⟨kb,0,none⟩) (0) (0)) mb 0 0 false) _ rfl (by kernel_rfl) ?_))
  | ((with_reducible refine ae (some 9) (.box 99 (.tmp 8)) ?_);go_must (refine fN (drow (.slice (some ⟨kb,0,none⟩) (0) (0)) mb 0 0 false) rfl hm ?_);intro w3 g hb3 hm3;have hmap3:=(hb3.block mb (Array.getElem?_eq_some_iff.1 hmap).1).trans hmap;clear hm hmap hb3;have hm:=hm3;clear hm3))
 go_ret
 refine ⟨g,rfl,mb,.slice (some ⟨kb,0,none⟩) (0) (0),⟨Dk.new_ok _ (by omega),hm.get 0 rfl,⟨_,_,rfl,Nat.le_refl _,fun _=>⟨kb,[],rfl,by rw [List.append_nil];exact hm.get 1 rfl⟩⟩,⟨0,_,gz hmap3,PM.none⟩⟩,?_,hm.below⟩
 intro q hq
 have h1:=hm.fresh _ (List.mem_cons_self ..)
 have h2:=hm.tail.fresh _ (List.mem_cons_self ..)
 simp only [List.not_mem_nil,false_or] at h1 h2
 simp only [foot,kbOf,List.mem_cons] at hq
 rcases hq with rfl|rfl|hq
 ·exact h1
 ·exact hkm
 ·split at hq
  ·cases hq
  ·simp only [List.mem_cons,List.not_mem_nil,or_false] at hq
   subst hq
   exact h2
theorem new_many (n:Int) (hn:4000<n) (w:World) :
  Calls Tryz.prog 17 #[.int .i64 n] w fun e w'=>∃g,e=.returned (.pointer (some ⟨g,0,none⟩))∧∃mb kv,DkAt w' g mb kv (Dk.new (4000))∧(∀q∈foot g mb kv,w.heap.size≤q)∧Below w.heap.size w w':=by
 have hm:=Mem.start w
 have h1:¬((0:Int) > n):=by omega
 have h2:(4000:Int)<n:=by omega
 go_enter Tryz.func17,Tryz.ntmps17
 go_wp2_with (first
  | ((with_reducible refine ae (some 6) (.makeSlice 96 (.tmp 5) (.tmp 5)) ?_);go_must (refine gU (4000) rfl (by first|rfl|omega) rfl (by first|rfl|omega) (by omega) hm ?_);clear hm;intro w1 kb hm)
  | ((with_reducible refine ae (some 7) (.makeMap 97 none) ?_);go_must (refine jq hm ?_);intro w2 mb hm2 hmap hmb;have hkm:w.heap.size≤mb:=Nat.le_trans hm.size hmb;clear hm hmb;have hm:=hm2;clear hm2)
  | ((with_reducible refine ae (some 8) (.build 99 #[(0,.tmp 6),(1,.tmp 7)]) ?_);go_must (refine ay (drow (.slice (some ⟨kb,0,none⟩) (4000) (4000)) mb 0 0 false) _ rfl (by kernel_rfl) ?_))
  | ((with_reducible refine ae (some 9) (.box 99 (.tmp 8)) ?_);go_must (refine fN (drow (.slice (some ⟨kb,0,none⟩) (4000) (4000)) mb 0 0 false) rfl hm ?_);intro w3 g hb3 hm3;have hmap3:=(hb3.block mb (Array.getElem?_eq_some_iff.1 hmap).1).trans hmap;clear hm hmap hb3;have hm:=hm3;clear hm3))
 go_ret
 refine ⟨g,rfl,mb,.slice (some ⟨kb,0,none⟩) (4000) (4000),⟨Dk.new_ok _ (by omega),hm.get 0 rfl,⟨_,_,rfl,Nat.le_refl _,fun _=>⟨kb,[],rfl,by rw [List.append_nil];exact hm.get 1 rfl⟩⟩,⟨0,_,gz hmap3,PM.none⟩⟩,?_,hm.below⟩
 intro q hq
 have h1:=hm.fresh _ (List.mem_cons_self ..)
 have h2:=hm.tail.fresh _ (List.mem_cons_self ..)
 simp only [List.not_mem_nil,false_or] at h1 h2
 simp only [foot,kbOf,List.mem_cons] at hq
 rcases hq with rfl|rfl|hq
 ·exact h1
 ·exact hkm
 ·split at hq
  ·cases hq
  ·simp only [List.mem_cons,List.not_mem_nil,or_false] at hq
   subst hq
   exact h2
def clampK (n:Int):Nat:=if n<0 then 0 else if 4000<n then 4000 else n.toNat
theorem new_anyD (n:Int) (w:World) :
  Calls Tryz.prog 17 #[.int .i64 n] w fun e w'=>∃g,e=.returned (.pointer (some ⟨g,0,none⟩))∧∃mb kv,DkAt w' g mb kv (Dk.new (clampK n))∧(∀q∈foot g mb kv,w.heap.size≤q)∧Below w.heap.size w w':=by
 unfold clampK
 by_cases h0:n<0
 ·rw [if_pos h0]
  exact new_none n h0 w
 ·rw [if_neg h0]
  by_cases h1:4000<n
  ·rw [if_pos h1]
   exact new_many n h1 w
  ·rw [if_neg h1]
   obtain ⟨k,rfl⟩:∃k:Nat,n=(k:Int):=⟨n.toNat,by omega⟩
   exact new_some k (by omega) w
theorem read_good (g mb:Nat) (kv:Value) (d:Dk) (i:Nat) (ho:d.off=false) (hi:i<d.n) (w:World) (hd:DkAt w g mb kv d) :
  Calls Tryz.prog 110 #[.pointer (some ⟨g,0,none⟩),.int .i64 i] w fun e w'=>∃q,e=.returned (.tuple #[.slice (some ⟨q,0,none⟩) 64 64,.int .i64 0])∧w.heap.size≤q∧Row w' q (u8s (d.now i)) 119∧Below w.heap.size w w':=by
 have c4:w.cell? ⟨g,4,none⟩=some (.bool d.off):=by rw [hd.row.cell];rfl
 rw [ho] at c4
 have hm:=Mem.start w
 have HD:Hid _:=hd
 have HH:Hid (d.has i=true):=by show _=_;simp [Dk.has];omega
 have HI:Hid (i<d.n):=hi
 have HZ:Hid ((u8s zeroK).length=64):=by show _=_;rw [aa];exact aS
 have HL:Hid ((u8s (d.now i)).length=64):=by show _=_;rw [aa];exact hd.ok.now hi
 clear hd ho hi
 go_enter Tryz.func110,Tryz.ntmps110
 go_wp2_with (first
  | (go_at_call 113;refine (j1 g mb kv d i _ HD.out).mono ?_;rintro e w1 ⟨he,hw⟩;rw [HH.out] at he;subst he;replace hw:=hw.symm;subst hw)
  | (go_at_call 114;refine (now_any g mb kv d i HI.out _ (HD.out.mem hm)).mono ?_;rintro e w2 ⟨he,hb⟩;subst he;replace hm:=hm.call hb;clear hb)
  | ((with_reducible refine ae (some 6) (.alloc 119) ?_);refine ag _ cL hm ?_;clear hm;intro w3 q hm)
  | ((with_reducible refine ae none (.store 119 (.tmp 6) (.tmp 17)) ?_);refine ah 0 (u8s (d.now i)) hm rfl rfl rfl 64 cq (HZ.out) (HL.out) (ai _) ?_;clear hm;intro w4 hm)
  | ((with_reducible refine ae (some 18) (.slice 119 (.tmp 6) none none none) ?_);refine ed 64 cV e6 0 64 (by omega) (by omega) rfl (Or.inr ⟨rfl,rfl⟩) (Or.inr ⟨rfl,rfl⟩) ?_))
 go_ret2
 have hf:=hm.fresh _ (List.mem_cons_self ..)
 exact ⟨q,rfl,by simpa using hf,hm.get 0 rfl,hm.below⟩
end Go.Proofs.YtlpnafdkhoimhaaGreatDoor
namespace Go.Proofs.YtlpnafdkhoimhaaGreatDoor
open Go Go.RowKit Go.Maps
theorem write_off (g mb:Nat) (kv:Value) (d:Dk) (i:Int) (v:Value) (ho:d.step.off=true) (hnu:d.Num) (w:World) (hd:DkAt w g mb kv d) :
  Calls Tryz.prog 85 #[.pointer (some ⟨g,0,none⟩),.int .i64 i,v] w fun e w'=>e=.returned (.int .i64 61)∧DkAt w' g mb kv d.step∧UpdS (foot g mb kv) w w':=by
 have HD:Hid _:=hd
 have HNU:Hid _:=hnu
 have HO:Hid (d.step.off=true):=ho
 clear hd hnu ho
 go_enter Tryz.func85,Tryz.ntmps85
 go_wp2_with (first
  | (go_at_call 112;refine (fh g mb kv d HNU.out _ HD.out).mono ?_;rintro e w1 ⟨he,hd1,hu1⟩;rw [HO.out] at he;subst he;clear HD;have HD:Hid _:=hd1;have HU1:Hid _:=hu1;clear hd1 hu1;have hm:=Mem.start w1))
 go_ret
 exact ⟨rfl,HD.out,HU1.out⟩
theorem write_no (g mb:Nat) (kv:Value) (d:Dk) (i:Int) (v:Value) (ho:d.step.off=false) (hh:d.has i=false) (hnu:d.Num) (w:World) (hd:DkAt w g mb kv d) :
  Calls Tryz.prog 85 #[.pointer (some ⟨g,0,none⟩),.int .i64 i,v] w fun e w'=>e=.returned (.int .i64 60)∧DkAt w' g mb kv d.step∧UpdS (foot g mb kv) w w':=by
 have HD:Hid _:=hd
 have HNU:Hid _:=hnu
 have HO:Hid (d.step.off=false):=ho
 have HH:Hid (d.has i=false):=hh
 clear hd hnu ho hh
 go_enter Tryz.func85,Tryz.ntmps85
 go_wp2_with (first
  | (go_at_call 112;refine (fh g mb kv d HNU.out _ HD.out).mono ?_;rintro e w1 ⟨he,hd1,hu1⟩;rw [HO.out] at he;subst he;clear HD;have HD:Hid _:=hd1;have HU1:Hid _:=hu1;clear hd1 hu1;have hm:=Mem.start w1)
  | (go_at_call 113;refine (j1 g mb kv d.step i _ HD.out).mono ?_;rintro e w2 ⟨he,hw⟩;rw [show d.step.has i=false from HH.out] at he;subst he;replace hw:=hw.symm;subst hw))
 go_ret
 exact ⟨rfl,HD.out,HU1.out⟩
theorem write_long (g mb:Nat) (kv:Value) (d:Dk) (i:Int) (n cap:Nat) (p:Option Addr) (ho:d.step.off=false) (hh:d.has i=true) (hn:64<n) (hnu:d.Num) (w:World) (hd:DkAt w g mb kv d) :
  Calls Tryz.prog 85 #[.pointer (some ⟨g,0,none⟩),.int .i64 i,.slice p n cap] w fun e w'=>e=.returned (.int .i64 60)∧DkAt w' g mb kv d.step∧UpdS (foot g mb kv) w w':=by
 have HD:Hid _:=hd
 have HNU:Hid _:=hnu
 have HO:Hid (d.step.off=false):=ho
 have HH:Hid (d.has i=true):=hh
 have hn1:(n:Int) > 64:=by omega
 clear hd hnu ho hh
 go_enter Tryz.func85,Tryz.ntmps85
 go_wp2_with (first
  | (go_at_call 112;refine (fh g mb kv d HNU.out _ HD.out).mono ?_;rintro e w1 ⟨he,hd1,hu1⟩;rw [HO.out] at he;subst he;clear HD;have HD:Hid _:=hd1;have HU1:Hid _:=hu1;clear hd1 hu1;have hm:=Mem.start w1)
  | (go_at_call 113;refine (j1 g mb kv d.step i _ HD.out).mono ?_;rintro e w2 ⟨he,hw⟩;rw [show d.step.has i=true from HH.out] at he;subst he;replace hw:=hw.symm;subst hw))
 go_ret
 exact ⟨rfl,HD.out,HU1.out⟩
theorem kI (g mb:Nat) (kv:Value) (d:Dk) (i:Nat) (bs:List Int) (v:Value) (ho:d.step.off=false) (hi:i<d.n) (hl:bs.length≤64) (hbb:Bytes bs) (hnu:d.Num) (w:World) (hd:DkAt w g mb kv d) (hs:SlA w (foot g mb kv) v bs) :
  Calls Tryz.prog 85 #[.pointer (some ⟨g,0,none⟩),.int .i64 i,v] w fun e w'=>e=.returned (.int .i64 0)∧DkAt w' g mb kv (d.step.put i (over (d.now i) bs))∧UpdS (foot g mb kv) w w':=by
 have HD:Hid _:=hd
 have HNU:Hid _:=hnu
 have HO:Hid (d.step.off=false):=ho
 obtain ⟨p,cap,rfl,hcap,_⟩:=id hs
 obtain ⟨bl,hbl⟩:∃bl,bl=bs.length:=⟨_,rfl⟩
 have HS:Hid (SlA w (foot g mb kv) (.slice p bl cap) bs):=by rw [hbl];exact hs
 have HH:Hid (d.has (i:Int)=true):=by show _=_;simp [Dk.has];omega
 have hbl1:¬((bl:Int) > 64):=by omega
 have hbl2:bl≤64:=by omega
 have HI:Hid (i<d.step.n):=hi
 obtain ⟨N,hN⟩:∃N,N=d.now i:=⟨_,rfl⟩
 have HNN:Hid (∀_:Unit,d.step.now i=N):=fun _=>hN.symm
 have hNl:N.length=64:=by rw [hN];exact hd.ok.now hi
 have HZ:Hid ((u8s zeroK).length=64):=by show _=_;rw [aa];exact aS
 have HNL:Hid ((u8s N).length=64):=by show _=_;rw [aa];exact hNl
 have HOL:Hid ((over N bs).length=64):=over_length hNl hl
 have HOU:Hid ((u8s (over N bs)).length=64):=by show _=_;rw [aa];exact HOL.out
 have HOB:Hid (Bytes (over N bs)):=over_bytes (by rw [hN];exact hd.ok.nowB hi) hbb
 have HSP:Hid (splice (u8s N) 0 (u8s (bs.take bl))=u8s (over N bs)):=by
  show _=_
  rw [hbl,List.take_of_length_le (Nat.le_refl _),←splice_over]
  simp [splice,u8s]
 rw [←hN,←hbl]
 clear hd hnu ho hs hN hNl hi hl hbl hbb hcap
 go_enter Tryz.func85,Tryz.ntmps85
 go_wp2_with (first
  | (go_at_call 112;refine (fh g mb kv d HNU.out _ HD.out).mono ?_;rintro e w1 ⟨he,hd1,hu1⟩;rw [HO.out] at he;subst he;clear HD;have HD:Hid _:=hd1;have HU1:Hid _:=hu1;clear hd1 hu1;have hm:=Mem.start w1)
  | (go_at_call 113;refine (j1 g mb kv d.step i _ HD.out).mono ?_;rintro e w2 ⟨he,hw⟩;rw [show d.step.has i=true from HH.out] at he;subst he;replace hw:=hw.symm;subst hw)
  | (go_at_call 114;refine (now_any g mb kv d.step i HI.out _ (HD.out.mem hm)).mono ?_;rintro e w3 ⟨he,hb⟩;rw [HNN.out ()] at he;subst he;replace hm:=hm.call hb;clear hb)
  | ((with_reducible refine ae (some 7) (.alloc 119) ?_);refine ag _ cL hm ?_;clear hm;intro w4 q hm)
  | ((with_reducible refine ae none (.store 119 (.tmp 7) (.tmp 22)) ?_);refine ah 0 (u8s N) hm rfl rfl rfl 64 cq (HZ.out) (HNL.out) (ai _) ?_;clear hm;intro w5 hm)
  | ((with_reducible refine ae (some 23) (.slice 119 (.tmp 7) none none none) ?_);refine ed 64 cV e6 0 64 (by omega) (by omega) rfl (Or.inr ⟨rfl,rfl⟩) (Or.inr ⟨rfl,rfl⟩) ?_)
  | ((with_reducible refine ae (some 25) (.call {callee:=.builtin .copy,args:=#[.tmp 23,.tmp 24],argTypes:=#[56,56]}) ?_);go_must (refine dy 0 bs bl (u8s (over N bs)) hm rfl rfl rfl _ un_bsD e6 (SlOld.mem (SlA.old (SlA.upd HS.out HU1.out)) hm) (by show bl=min bl 64;omega) (by rw [HNL.out];omega) HSP.out ?_);clear hm;intro w6 hm))
 refine cU 6 (by kernel_rfl) (by kernel_rfl) hm ?_
 clear hm
 intro w7 hm
 simp only [List.take_succ_cons,List.take_zero,List.drop_succ_cons,List.drop_zero]
 still_step
 still_step
 still_step
 refine gB 1 (.map (some mb)) (DkAt.row (HD.out.mem hm)) rfl ea rfl ?_
 still_step
 refine ie 0 0 (u8s (over N bs)) hm rfl rfl _ cV rfl 64 cq (by rw [HOU.out];omega) (by rw [List.drop_zero,List.take_of_length_le (by rw [HOU.out];omega)]) ?_
 refine wpStill_nil ?_
 go_wp2_with (first
  | ((with_reducible refine ae none (.mapUpdate 97 (.tmp 29) (.tmp 30) (.tmp 31)) ?_);go_must (refine wpl_put i (over N bs) (HD.out.mem hm) HI.out HOL.out HOB.out rfl rfl rfl rfl ?_);intro w8 hd8 hu8;have HD8:Hid _:=hd8;have HU8:Hid _:=hu8;clear hd8 hu8))
 go_ret
 exact ⟨rfl,HD8.out,(HU1.out.trans (UpdS.of_below hm.below)).trans (UpdS.of_upd HU8.out (foot_m ..))⟩
theorem write_anyD (g mb:Nat) (kv:Value) (d:Dk) (i:Int) (bs:List Int) (v:Value) (hbb:Bytes bs) (hnu:d.Num) (w:World) (hd:DkAt w g mb kv d) (hs:SlA w (foot g mb kv) v bs) :
  Calls Tryz.prog 85 #[.pointer (some ⟨g,0,none⟩),.int .i64 i,v] w fun e w'=>e=.returned (.int .i64 (d.wcode i bs))∧DkAt w' g mb kv (d.write i bs)∧UpdS (foot g mb kv) w w':=by
 unfold Dk.wcode Dk.write
 cases ho:d.step.off with
 | true =>
  rw [if_pos rfl,if_neg (by simp)]
  exact write_off g mb kv d i v ho hnu w hd
 | false =>
  rw [if_neg (by simp)]
  cases hf:d.fits i bs with
  | true =>
   simp only [Dk.fits,Bool.and_eq_true,decide_eq_true_eq] at hf
   rw [if_pos rfl,if_pos ⟨rfl,rfl⟩]
   obtain ⟨k,rfl⟩:∃k:Nat,i=(k:Int):=⟨i.toNat,by omega⟩
   exact kI g mb kv d k bs v ho (by omega) hf.2 hbb hnu w hd hs
  | false =>
   rw [if_neg (by simp),if_neg (by simp)]
   cases hh:d.has i with
   | false=>exact write_no g mb kv d i v ho hh hnu w hd
   | true =>
    obtain ⟨p,cap,rfl,_,_⟩:=hs
    refine write_long g mb kv d i bs.length cap p ho hh ?_ hnu w hd
    unfold Dk.has at hh
    unfold Dk.fits at hf
    rw [hh,Bool.true_and] at hf
    simpa using hf
end Go.Proofs.YtlpnafdkhoimhaaGreatDoor
namespace Go.Proofs.YtlpnafdkhoimhaaGreatDoor
open Go Go.RowKit Go.Maps
def Dk.flOf (d:Dk) (left:Lit→Bool) (i:Nat):List Int :=
 match d.pend i with
 | some l=>if left (.int .i64 (i:Int))=true then d.kept i else l
 | none=>d.kept i
def Dk.fl (d:Dk) (left:Lit→Bool):Dk:={d with kept:=d.flOf left}
theorem Dk.flOf_done (d:Dk) (left:Lit→Bool) (h:∀k,left k=false):d.flOf left=d.now:=by
 funext i
 unfold Dk.flOf Dk.now
 cases d.pend i<;>simp [h]
theorem Dk.flOf_step (d:Dk) (left:Lit→Bool) (i:Nat) (l:List Int) (hp:d.pend i=some l):d.flOf (fun z=>left z && !z.sameKey (.int .i64 (i:Int)))=upf (d.flOf left) i l:=by
 funext j
 by_cases he:j=i
 ·subst he
  rw [bo]
  simp [Dk.flOf,hp,Lit.sameKey]
 ·rw [aN _ _ he]
  unfold Dk.flOf
  cases hj:d.pend j with
  | none=>rfl
  | some x =>
   have hne:¬((j:Int)=(i:Int)):=by omega
   simp [Lit.sameKey,hne]
theorem DkAt.congr {w:World} {g mb:Nat} {kv:Value} {d d':Dk} (h:DkAt w g mb kv d) (he:d=d'):DkAt w g mb kv d':=he▸h
theorem Dk.flOf_start {D:DataW Value} (d:Dk) (pm:PM D d.pend):d.flOf (Maps.has D)=d.kept:=by
 funext i
 unfold Dk.flOf
 cases hp:d.pend i with
 | none=>rfl
 | some l =>
  simp only
  rw [if_pos (by rw [pm.hasN i,hp];rfl)]
theorem flush_off (g mb:Nat) (kv:Value) (d:Dk) (ho:d.step.off=true) (hnu:d.Num) (w:World) (hd:DkAt w g mb kv d) :
  Calls Tryz.prog 86 #[.pointer (some ⟨g,0,none⟩)] w fun e w'=>e=.returned (.int .i64 61)∧DkAt w' g mb kv d.step∧UpdS (foot g mb kv) w w':=by
 have HD:Hid _:=hd
 have HNU:Hid _:=hnu
 have HO:Hid (d.step.off=true):=ho
 clear hd hnu ho
 go_enter Tryz.func86,Tryz.ntmps86
 go_wp2_with (first
  | (go_at_call 112;refine (fh g mb kv d HNU.out _ HD.out).mono ?_;rintro e w1 ⟨he,hd1,hu1⟩;rw [HO.out] at he;subst he;clear HD;have HD:Hid _:=hd1;have HU1:Hid _:=hu1;clear hd1 hu1;have hm:=Mem.start w1))
 go_ret
 exact ⟨rfl,HD.out,HU1.out⟩
theorem flush_good (g mb:Nat) (kv:Value) (d:Dk) (ho:d.step.off=false) (hnu:d.Num) (w:World) (hd:DkAt w g mb kv d) :
  Calls Tryz.prog 86 #[.pointer (some ⟨g,0,none⟩)] w fun e w'=>e=.returned (.int .i64 0)∧DkAt w' g mb kv d.step.flushed∧UpdS (foot g mb kv) w w':=by
 have HD:Hid _:=hd
 have HNU:Hid _:=hnu
 have HO:Hid (d.step.off=false):=ho
 clear hd hnu ho
 go_enter Tryz.func86,Tryz.ntmps86
 go_wp2_with (first
  | (go_at_call 112;refine (fh g mb kv d HNU.out _ HD.out).mono ?_;rintro e w1 ⟨he,hd1,hu1⟩;rw [HO.out] at he;subst he;clear HD;have HD:Hid _:=hd1;have HU1:Hid _:=hu1;clear hd1 hu1;have hm:=Mem.start w1)
  | ((with_reducible refine ae (some 11) (.load 97 (.tmp 10)) ?_);refine eS 1 (.map (some mb)) (DkAt.row HD.out) rfl ea rfl ?_;obtain ⟨qn,D,ho,pm⟩:=HD.out.map;have HPM:Hid _:=pm;have HOW:Hid _:=ho;clear ho pm)
  | ((with_reducible refine ae (some 12) (.range 97 (.tmp 11)) ?_);go_must (refine wpList_range_own _ rfl _ _ rfl 3 119 cB iL rdV mb qn D rfl HOW.out ?_);intro w2 hrg0 hg0 hs0))
 have HST:Hid (DkAt w2 g mb kv (d.step.fl (Maps.has D))∧UpdS (foot g mb kv) w w2):=by
  have hb:Below w1.heap.size w1 w2:=⟨hg0.os,hg0.tape,hg0.output,hg0.size,fun k hk=>hg0.block k hk (by simp)⟩
  refine ⟨(HD.out.below hb).congr ?_,HU1.out.trans (UpdS.of_below hb)⟩
  rw [Dk.fl,Dk.flOf_start d.step HPM.out]
 have HFT:Hid (∀k∈foot g mb kv,k<w1.heap.size):=HD.out.lt
 have HOK:Hid d.step.Ok:=HD.out.ok
 have HW1:Hid (w.heap.size≤w1.heap.size):=HU1.out.size
 have HRG:Hid _:=hrg0
 clear hrg0 hg0 hs0 HOW hm HNU HO
 go_frame
 go_loopw [3] (fun _ wr=>∃(left:Lit→Bool) (cnt:Nat),wr.ranges Tryz.prog 3 rdV mb w1.heap.size qn D left cnt∧DkAt wr g mb kv (d.step.fl left)∧UpdS (foot g mb kv) w wr)
  (fun _ wr=>wr.rangeLeft mb w1.heap.size)
 case atStart=>exact ⟨_,_,HRG.out,HST.out.1,HST.out.2⟩
 case round =>
  obtain ⟨left,cnt,hrg,hdr,hur⟩:=hrel
  have HR:Hid _:=hdr
  have HUR:Hid _:=hur
  have HRR:Hid _:=hrg
  have HRL:Hid (wr.rangeLeft mb w1.heap.size=cnt):=hrg.left_eq
  clear hdr hur HRG HST HD HU1 hrg
  go_wp2_with (first
   | (at_next;refine wpList_next_ranges _ rfl _ rfl 3 cB rdV (fun x:Int=>Value.int .i64 x) id (fun key kl hk=>by obtain ⟨x,hx,_⟩:=Maps.keyOf_i64 iy hk;exact ⟨x,hx⟩) (fun v _ _=>⟨v,rfl⟩) mb w1.heap.size qn D _ _ rfl HRR.out ?_ ?_)
   | go_in)
  ·intro _ hl0
   have HL0:Hid _:=hl0
   clear hl0
   go_wp2_with (first
    | ((with_reducible refine ae (some 28) (.load 97 (.tmp 27)) ?_);refine eS 1 (.map (some mb)) (DkAt.row HR.out) rfl ea rfl ?_)
    | ((with_reducible refine ae none (.call {callee:=.builtin .clear,args:=#[.tmp 28],argTypes:=#[97]}) ?_);go_must (refine wpl_clear HR.out rfl ?_);intro w9 hd9 hu9;have HD9:Hid _:=hd9;have HU9:Hid _:=hu9;clear hd9 hu9))
   go_ret
   refine ⟨rfl,HD9.out.congr ?_,HUR.out.trans (UpdS.of_upd HU9.out (foot_m ..))⟩
   show ({d.step.fl left with pend:=fun _=>none}:Dk)=d.step.flushed
   rw [Dk.fl,Dk.flOf_done d.step left HL0.out]
   rfl
  ·intro x c kl yd yp w3 cnt3 hkey hlk hv hat hrg3 hlt hg3 hs3 hen
   obtain ⟨x',ex,rfl,_⟩:=Maps.keyOf_i64 iy hkey
   obtain rfl:x=x':=encZ_inj ex
   have hhas:Maps.has D (.int .i64 x)=true:=has_true_of_atKey hat
   obtain ⟨i,rfl,hpi⟩:=(HPM.out.has x).1 hhas
   obtain ⟨l,hpl⟩:=Option.isSome_iff_exists.1 hpi
   have hc:c=.agg (u8s l).toArray:=by
    have h1:=HPM.out.val i l hpl (.held c)
    rw [hat] at h1
    have h2:=eU hv
    rw [h2] at h1
    simpa using h1
   subst hc
   have hok:=HOK.out.pend i l hpl
   have hb3:DkAt w3 g mb kv (d.step.fl left)∧UpdS (foot g mb kv) w w3:=by
    have hk:∀k∈foot g mb kv,w3.heap[k]?=wr.heap[k]?:=fun k hk=>hg3.block k (HR.out.lt k hk) (fun e=>by
     have:=HFT.out k hk
     simp only [Option.some.injEq] at e
     omega)
    refine ⟨HR.out.keep hk,⟨hg3.os.trans HUR.out.os,hg3.tape.trans HUR.out.tape,hg3.output.trans HUR.out.output,Nat.le_trans HUR.out.size hg3.size,fun k hk hn=>?_⟩⟩
    refine (hg3.block k (Nat.lt_of_lt_of_le hk HUR.out.size) (fun e=>?_)).trans (HUR.out.block k hk hn)
    have:=HW1.out
    simp only [Option.some.injEq] at e
    omega
   have HB3:Hid _:=hb3.1
   have HU3:Hid _:=hb3.2
   have HLL:Hid ((u8s l).length=64):=by show _=_;rw [aa];exact hok.2.1
   have HL1:Hid (l.length=64):=hok.2.1
   have HLB:Hid (Bytes l):=hok.2.2
   have HZ:Hid ((u8s zeroK).length=64):=by show _=_;rw [aa];exact aS
   have HPL:Hid (d.step.pend i=some l):=hpl
   have HRG3:Hid (w3.ranges Tryz.prog 3 rdV mb w1.heap.size qn D (fun z=>left z && !z.sameKey (.int .i64 (i:Int))) cnt3):=hrg3
   have hi:i<d.step.n:=hok.1
   obtain ⟨kb,cap,tl,hkv,hcap,hrk⟩:=hb3.1.kept.some (by show 0<d.step.n;omega)
   have HKV:Hid (∀_:Unit,kv=.slice (some ⟨kb,0,none⟩) d.step.n cap):=fun _=>hkv
   have HKB:Hid (∀_:Unit,kb∈kbOf kv):=fun _=>by rw [hkv];simp [kbOf];show ¬d.step.n=0;omega
   obtain ⟨n,hn⟩:∃n,n=d.step.n:=⟨_,rfl⟩
   have HN:Hid (∀_:Unit,d.step.n=n):=fun _=>hn.symm
   have HKE:Hid (kv=.slice (some ⟨kb,0,none⟩) n cap):=by show _=_;rw [hkv,hn];rfl
   rw [←hn] at hi
   have hm:=Mem.start w3
   clear hkey hlk hv hat hg3 hs3 ex hhas hpi hok hb3 hkv hcap hrk hn HR HUR hrg3 hpl HRR
   go_wp2_with (first
    | ((with_reducible refine ae (some 4) (.alloc 119) ?_);refine ag _ cL hm ?_;clear hm;intro w4 q hm)
    | ((with_reducible refine ae none (.store 119 (.tmp 4) (.tmp 17)) ?_);refine ah 0 (u8s l) hm rfl rfl rfl 64 cq (HZ.out) (HLL.out) (ai _) ?_;clear hm;intro w5 hm))
   refine cU 6 (by kernel_rfl) (by kernel_rfl) hm ?_
   clear hm
   intro w6 hm
   simp only [List.take_succ_cons,List.take_zero,List.drop_succ_cons,List.drop_zero]
   still_step
   still_step
   still_step
   refine gB 0 (.slice (some ⟨kb,0,none⟩) n cap) (DkAt.row (HB3.out.mem hm)) rfl gf (by rw [←HKE.out];rfl) ?_
   still_step
   refine ie 0 0 (u8s l) hm rfl rfl _ cV rfl 64 cq (by rw [HLL.out];omega) (by rw [List.drop_zero,List.take_of_length_le (by rw [HLL.out];omega)]) ?_
   refine wpStill_nil ?_
   go_wp2_with (first
    | ((with_reducible refine ae (some 24) (.indexAddr 96 (.tmp 21) (.tmp 22)) ?_);refine aj (.pointer (some ⟨kb,i * 64,none⟩)) rfl (fo i rfl rfl rfl hi) ?_)
    | ((with_reducible refine ae none (.store 119 (.tmp 24) (.tmp 23)) ?_);go_must (refine wpl_stK (d:=d.step.fl left) i l (by have h:=HB3.out.mem hm;rw [HKE.out] at h;exact h) (HN.out ()) hi rfl rfl HL1.out HLB.out ?_);intro w7 hd7 hu7;have HD7:Hid _:=hd7;have HU7:Hid _:=hu7;clear hd7 hu7))
   have hrg3':w3.ranges Tryz.prog 3 rdV mb w1.heap.size qn D (fun z=>left z && !z.sameKey (.int .i64 (i:Int))) cnt3:=HRG3.out
   have hrg7:=World.ranges.kept (World.ranges.kept hrg3' (bE hm.below) (by simp) (by simp)) (iH HU7.out) (by
    have:=(DkAt.ne_k (HB3.out.mem hm) kb (HKB.out ())).2
    intro e
    exact this (Option.some.inj e).symm) (by
    have:=HFT.out kb (by simp only [foot,List.mem_cons];exact Or.inr (Or.inr (HKB.out ())))
    intro e
    have:=Option.some.inj e
    omega)
   have HRG7:Hid (w7.ranges Tryz.prog 3 rdV mb w1.heap.size qn D (fun z=>left z && !z.sameKey (.int .i64 (i:Int))) cnt3):=hrg7
   have HRL7:Hid (w7.rangeLeft mb w1.heap.size=cnt3):=hrg7.left_eq
   clear hrg7 hrg3'
   go_frame
   go_roundw
   case rel =>
    refine ⟨_,cnt3,HRG7.out,?_,(HU3.out.trans (UpdS.of_below hm.below)).trans (UpdS.of_upd HU7.out (by simp only [foot,List.mem_cons];exact Or.inr (Or.inr (HKB.out ()))))⟩
    have h7:=HD7.out
    rw [←HKE.out] at h7
    refine h7.congr ?_
    show ({d.step.fl left with kept:=upf (d.step.flOf left) i l}:Dk)=d.step.fl _
    rw [Dk.fl,Dk.fl,Dk.flOf_step d.step left i l HPL.out]
   case measure=>rw [HRL7.out,HRL.out];exact hlt
theorem flush_any (g mb:Nat) (kv:Value) (d:Dk) (hnu:d.Num) (w:World) (hd:DkAt w g mb kv d) :
  Calls Tryz.prog 86 #[.pointer (some ⟨g,0,none⟩)] w fun e w'=>e=.returned (.int .i64 d.fcode)∧DkAt w' g mb kv d.flush∧UpdS (foot g mb kv) w w':=by
 unfold Dk.fcode Dk.flush
 cases ho:d.step.off with
 | true =>
  rw [if_pos rfl,if_pos rfl]
  exact flush_off g mb kv d ho hnu w hd
 | false =>
  rw [if_neg (by simp),if_neg (by simp)]
  exact flush_good g mb kv d ho hnu w hd
end Go.Proofs.YtlpnafdkhoimhaaGreatDoor
