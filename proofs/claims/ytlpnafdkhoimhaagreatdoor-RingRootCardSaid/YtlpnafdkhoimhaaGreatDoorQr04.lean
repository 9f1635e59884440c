import Derived.Test.YtlpnafdkhoimhaaGreatDoorQr03
import Derived.Maps.OwnSet
import Derived.Maps.OwnOps
import Derived.DeepKeys4
import Derived.Lib.ConvBytes
set_option maxRecDepth 100000
set_option maxHeartbeats 4000000
namespace Go.Proofs.YtlpnafdkhoimhaaGreatDoor
open Go Go.RowKit
def begV (gi go:Nat):List Value:=[.pointer (some ⟨gi,0,none⟩),.pointer (some ⟨go,0,none⟩)]
theorem begin_any (b:List Int) (hbl:b.length=64) (hbb:Bytes b) (w:World) (ht:Tab w) :
  Calls Tryz.prog 158 #[.agg (u8s b).toArray] w fun e w'=>∃gi go,e=.returned (.agg (begV gi go).toArray)∧w.heap.size≤gi∧w.heap.size≤go∧gi≠go∧Row w' gi (hrow (wsOf (xorB b 54)) (restOf (xorB b 54)) ((xorB b 54).length:Int)) 255∧Row w' go (hrow (wsOf (xorB b 92)) (restOf (xorB b 92)) ((xorB b 92).length:Int)) 255∧Below w.heap.size w w':=by
 have hm:=Mem.start w
 have HT:Hid _:=ht
 have HB:Hid _:=hbb
 have HL:Hid _:=hbl
 clear ht hbb hbl
 go_enter Tryz.func158,Tryz.ntmps158
 go_wp2_with (first
  | ((with_reducible refine ae (some 1) (.box 108 (.tmp 0)) ?_);refine az (u8s b) rfl hm ?_;clear hm;intro w1 g1 hm)
  | ((with_reducible refine ae (some 2) (.alloc 184) ?_);refine ag _ dR hm ?_;clear hm;intro w2 g2 hm))

 refine aA ?_
 refine aZ (T:=fun W=>Mem w [] W [(g1,u8s b,108)]) (by kernel_rfl) hm ?_
 clear hm
 intro w3 hm
 refine aT 0 (v:=.agg (u8s b).toArray) rfl (by kernel_rfl) rfl (fun W hW=>bT 0 _ (Mem.get hW 0 rfl) rfl _ cD rfl 64 bw (by rw [aa,HL.out];omega) (by rw [List.drop_zero,List.take_of_length_le (by rw [aa];exact Nat.le_of_eq HL.out)])) hm.tail ?_
 go_simp
 refine aT 2 (v:=.agg (u8s b).toArray) rfl (by kernel_rfl) rfl (fun W hW=>bT 0 _ (Mem.get hW 0 rfl) rfl _ cD rfl 64 bw (by rw [aa,HL.out];omega) (by rw [List.drop_zero,List.take_of_length_le (by rw [aa];exact Nat.le_of_eq HL.out)])) hm.tail ?_
 go_simp
 refine aP 1 (by kernel_rfl) rfl rfl ?_
 intro K hK
 go_wp2_with (go_at_call 188;refine (k4 b 54 HL.out HB.out (by omega) _ (Tab.mem HT.out hm (by simp))).mono ?_;rintro e w4 ⟨gi,rfl,hgi,hri,hb⟩;replace hm:=hm.callNew hb hri hgi;clear hb hgi hri)
 refine hK _ _ hm.tail.tail ?_
 clear hK K
 refine aP 3 (by kernel_rfl) rfl rfl ?_
 intro K hK
 go_wp2_with (go_at_call 188;refine (k4 b 92 HL.out HB.out (by omega) _ (Tab.mem HT.out hm (by simp))).mono ?_;rintro e w5 ⟨go,rfl,hgo,hro,hb⟩;replace hm:=hm.callNew hb hro hgo;clear hb hgo hro)
 refine hK _ _ hm.tail.tail.tail ?_
 clear hK K
 refine aP 4 (by kernel_rfl) rfl rfl ?_
 intro K hK
 refine ay (pl:=[(0,.tmp 4),(1,.tmp 6)]) (begV gi go) [(0,.pointer (some ⟨gi,0,none⟩)),(1,.pointer (some ⟨go,0,none⟩))] rfl (by kernel_rfl) ?_
 refine wpList_nil ?_
 refine hK _ _ hm.tail.tail.tail ?_
 clear hK K
 refine aP 5 (by kernel_rfl) rfl rfl ?_
 intro K hK
 refine ah 2 (begV gi go) hm rfl rfl rfl 2 dW rfl rfl (by intro v hv;simp [begV] at hv;rcases hv with rfl|rfl<;>rfl) ?_
 clear hm
 intro w6 hm
 refine wpList_nil ?_
 refine hK _ _ hm.tail.tail.tail ?_
 clear hK K
 refine wpAnyH_done (by kernel_rfl) ?_ _
 simp only [endsIn]
 go_wp2_with fail
 have h0:=hm.fresh _ (List.mem_cons_self ..)
 have h1:=hm.tail.fresh _ (List.mem_cons_self ..)
 refine aH 2 hm rfl Tryz.results158 rfl _ jt rfl 2 dW rfl rfl ⟨gi,go,rfl,by simpa using h1,by simpa using h0,fun h=>hm.ne 0 rfl h.symm,hm.get 1 rfl,hm.get 0 rfl,hm.below⟩
def catN (Pc:Nat→List Int):Nat→List Int
 | 0=>[]
 | k+1=>catN Pc k++Pc k
theorem catN_bytes {Pc:Nat→List Int} {N:Nat} (h:∀i,i<N→Bytes (Pc i)):∀k,k≤N→Bytes (catN Pc k):=by
 intro k
 induction k with
 | zero=>intro _;exact lf
 | succ k ih=>intro hk;exact (ih (by omega)).append (h k (by omega))
theorem catN_mono (Pc:Nat→List Int) (k j:Nat):(catN Pc k).length≤(catN Pc (k+j)).length:=by
 induction j with
 | zero=>exact Nat.le_refl _
 | succ j ih=>rw [←Nat.add_assoc,catN,List.length_append];omega
theorem catN_le (Pc:Nat→List Int) {k N:Nat} (h:k≤N):(catN Pc k).length≤(catN Pc N).length:=by
 have:=catN_mono Pc k (N - k)
 rwa [show k+(N - k)=N by omega] at this
theorem code_any (gi go:Nat) (ki ko:List Int) (hki:Bytes ki) (hko:Bytes ko) (hkl:ko.length≤64) (b o N cap:Nat) (Pv:Nat→Value) (Pc:Nat→List Int) (hlen:ki.length+(catN Pc N).length≤1000000) (hN:N≤3) (w:World) (ht:Tab w)
  (hri:Row w gi (hrow (wsOf ki) (restOf ki) (ki.length:Int)) 255) (hro:Row w go (hrow (wsOf ko) (restOf ko) (ko.length:Int)) 255)
  (hp:∀i,i<N→w.cell? ⟨b,o+i,none⟩=some (Pv i)∧SlOld w (Pv i) (Pc i)∧Bytes (Pc i)) :
  Calls Tryz.prog 118 #[.agg (begV gi go).toArray,.slice (some ⟨b,o,none⟩) N cap] w fun e w'=>e=.returned (.agg (u8s (shaOf (ko++shaOf (ki++catN Pc N)))).toArray)∧Below w.heap.size w w':=by
 have hm:=Mem.start w
 have HT:Hid _:=ht
 have HKI:Hid _:=hki
 have HKO:Hid _:=hko
 have HRI:Hid (Row w gi (hrow (wsOf ki) (restOf ki) (ki.length:Int)) 255):=hri
 have HRO:Hid (Row w go (hrow (wsOf ko) (restOf ko) (ko.length:Int)) 255):=hro
 have HP:Hid _:=hp
 have HCB:Hid (∀k,k≤N→Bytes (catN Pc k)):=catN_bytes (fun i hi=>(hp i hi).2.2)
 clear ht hki hko hri hro hp
 go_enter Tryz.func118,Tryz.ntmps118
 go_wp2_with (first
  | ((with_reducible refine ae (some 2) (.box 184 (.tmp 0)) ?_);refine az (begV gi go) rfl hm ?_;clear hm;intro w1 g2 hm)
  | ((with_reducible refine ae (some 4) (.alloc 42) ?_);refine ag _ bz hm ?_;clear hm;intro w2 g4 hm)
  | ((with_reducible refine ae (some 11) (.load 182 (.tmp 10)) ?_);refine bm 1 0 (.pointer (some ⟨gi,0,none⟩)) hm rfl rfl ag_hp (rfl) ?_)
  | (go_at_call 160;refine (copy_any gi (wsOf ki) (restOf ki) _ (bC _) (bQ _) _ (HRI.out.below' hm.below)).mono ?_;rintro e w3 ⟨gc,rfl,hge,hr,hb⟩;have HGC:Hid _:=Nat.ne_of_lt (Nat.lt_of_lt_of_le (Tab.lt (Tab.mem HT.out hm (by simp))) hge);replace hm:=hm.callNew hb hr hge;clear hb hr hge))

 have hgw:w.heap.size≤gc:=by simpa using hm.fresh _ (List.mem_cons_self ..)
 have HGW:Hid _:=hgw
 clear hgw
 go_loopw [15] (fun vi wr=>∃k:Nat,k≤N∧vi=.int .i64 k∧Mem w [] wr [(gc,hrow (wsOf (ki++catN Pc k)) (restOf (ki++catN Pc k)) ((ki++catN Pc k).length:Int),255),(g4,u8s (List.replicate 32 0),42),(g2,begV gi go,184)]) (fun vi _=>N - (intOf vi).toNat)
 case atStart=>exact ⟨0,by omega,rfl,by rw [catN,List.append_nil];exact hm⟩
 case round =>
  clear hm
  obtain ⟨k,hk,rfl,hm⟩:=hrel
  by_cases hlt:k<N
  ·obtain ⟨hck,hsk,hbk⟩:=HP.out k hlt
   obtain ⟨pk,ck,hpk,_⟩:=hsk.len
   rw [hpk] at hck hsk
   have hki2:(k:Int)<(N:Int):=by omega
   have HB0:Hid (b<w.heap.size):=block_lt_of_cell hck
   have HCK:Hid _:=hck
   have HSK:Hid (SlOld w (.slice pk (Pc k).length ck) (Pc k)):=hsk
   have HBK:Hid _:=hbk
   have HBM:Hid (Bytes (ki++catN Pc k)):=Bytes.append HKI.out (HCB.out k (by omega))
   have hll:(ki++catN Pc k).length+(Pc k).length≤1099511627776:=by
    have:=catN_le Pc (show k+1≤N by omega)
    rw [catN,List.length_append] at this
    rw [List.length_append]
    omega
   have HLL:Hid _:=hll
   clear hck hsk hbk hll hpk
   go_wp2_with (first
    | ((with_reducible refine ae (some 18) (.load 56 (.tmp 17)) ?_);refine bx (.slice pk (Pc k).length ck) ((hm.old (p:=⟨b,o+k,none⟩) HB0.out (by simp)).trans HCK.out) rfl ag_bs ?_)
    | (go_at_call 161;refine (gy gc (ki++catN Pc k) (Pc k) _ HBM.out HBK.out HLL.out _ (Tab.mem HT.out hm (by simp)) HGC.out (hm.get 0 rfl) (SlOld.sl HSK.out hm.below HGW.out)).mono ?_;rintro e w5 ⟨rfl,hr,hu⟩;replace hm:=hm.upd 0 rfl hu hr;clear hr hu))

   rw [List.append_assoc] at hm
   replace hm:Mem w [] w5 [(gc,hrow (wsOf (ki++catN Pc (k+1))) (restOf (ki++catN Pc (k+1))) ((ki++catN Pc (k+1)).length:Int),255),(g4,u8s (List.replicate 32 0),42),(g2,begV gi go,184)]:=hm
   go_roundw
   case rel=>exact ⟨k+1,by omega,by go_num,hm⟩
   case measure=>simp [intOf];omega
  ·have hkN:k=N:=by omega
   subst hkN
   have hni:¬(k:Int)<(k:Int):=by omega
   obtain ⟨s,hs⟩:∃s,s=shaOf (ki++catN Pc k):=⟨_,rfl⟩
   have HS:Hid _:=hs
   have HSL:Hid (s.length=32):=by show _=_;rw [hs,be]
   have HSB:Hid (Bytes s):=by rw [hs];exact eL _
   have HBM:Hid (Bytes (ki++catN Pc k)):=Bytes.append HKI.out (HCB.out k (by omega))
   have HBO:Hid (Bytes (ko++s)):=Bytes.append HKO.out HSB.out
   clear hs
   have HOL:Hid (ko.length+s.length≤1099511627776):=by show _≤_;have:=HSL.out;omega
   go_wp2_with fail
   refine (fP gc (ki++catN Pc k) HBM.out (by rw [List.length_append];omega) _ (Tab.mem HT.out hm (by simp)) (hm.get 0 rfl)).mono ?_
   rintro e w6 ⟨rfl,hb⟩
   replace hm:=hm.call hb
   clear hb
   rw [show shaOf (ki++catN Pc k)=s from HS.out.symm]
   go_wp2_with (first
    | ((with_reducible refine ae (some 8) (.alloc 42) ?_);refine ag _ bz hm ?_;clear hm;intro w7 g8 hm)
    | ((with_reducible refine ae none (.store 42 (.tmp 8) (.tmp 24)) ?_);refine ah 0 (u8s s) hm rfl rfl rfl 32 bB (by simp [aa]) (by rw [aa];exact HSL.out) (ai _) ?_;clear hm;intro w8 hm)
    | ((with_reducible refine ae (some 26) (.load 182 (.tmp 25)) ?_);refine bm 3 1 (.pointer (some ⟨go,0,none⟩)) hm rfl rfl ag_hp (rfl) ?_)
    | (go_at_call 160;refine (copy_any go (wsOf ko) (restOf ko) _ (bC _) (bQ _) _ (HRO.out.below' hm.below)).mono ?_;rintro e w9 ⟨gd,rfl,hge,hr,hb⟩;have HGD:Hid _:=Nat.ne_of_lt (Nat.lt_of_lt_of_le (Tab.lt (Tab.mem HT.out hm (by simp))) hge);replace hm:=hm.callNew hb hr hge;clear hb hr hge)
    | (go_at_call 161;refine (gy gd ko s _ HKO.out HSB.out HOL.out _ (Tab.mem HT.out hm (by simp)) HGD.out (hm.get 0 rfl) (sl_all (hm.get 1 rfl) (fun h=>hm.ne 0 rfl h.symm) HSL.out (Nat.le_refl _))).mono ?_;rintro e w10 ⟨rfl,hr,hu⟩;replace hm:=hm.upd 0 rfl hu hr;clear hr hu)
    | (go_at_call 162;refine (fP gd (ko++s) HBO.out (by rw [List.length_append];exact HOL.out) _ (Tab.mem HT.out hm (by simp)) (hm.get 0 rfl)).mono ?_;rintro e w11 ⟨rfl,hb⟩;replace hm:=hm.call hb;clear hb)
    | ((with_reducible refine ae none (.store 42 (.tmp 4) (.tmp 32)) ?_);refine ah 3 (u8s (shaOf (ko++s))) hm rfl rfl rfl 32 bB (by simp [aa]) (by rw [aa,be]) (ai _) ?_;clear hm;intro w12 hm))
   exact aH 3 hm rfl Tryz.results118 rfl _ dV rfl 32 bB (by rw [aa,be]) rfl ⟨by rw [HS.out],hm.below⟩
theorem jT (ks ms:List Int) (vk vm:Value) (hbk:Bytes ks) (hbm:Bytes ms) (hkl:ks.length≤500000) (hml:ms.length≤500000) (w:World) (ht:Tab w) (hvk:SlOld w vk ks) (hvm:SlOld w vm ms) :
  Calls Tryz.prog 146 #[vk,vm] w fun e w'=>e=.returned (.agg (u8s (macOf ks ms)).toArray)∧Below w.heap.size w w':=by
 obtain ⟨pk,ck,rfl,_⟩:=hvk.len
 obtain ⟨pm,cm,rfl,_⟩:=hvm.len
 have hm:=Mem.start w
 have HT:Hid _:=ht
 have HBK:Hid _:=hbk
 have HBM:Hid _:=hbm
 have HVK:Hid (SlOld w (.slice pk ks.length ck) ks):=hvk
 have HVM:Hid (SlOld w (.slice pm ms.length cm) ms):=hvm
 have HFB:Hid _:=d5 hbk
 have HML:Hid (macOf ks ms=shaOf (padOut ks++shaOf (padIn ks++catN (fun _=>ms) 1))):=rfl
 clear ht hbk hbm hvk hvm
 go_enter Tryz.func146,Tryz.ntmps146
 go_wp2_with (first
  | ((with_reducible refine ae (some 4) (.alloc 42) ?_);refine ag _ bz hm ?_;clear hm;intro w1 g4 hm)
  | (go_at_call 159;refine (kd ks _ HBK.out (by omega) _ (Tab.mem HT.out hm (by simp)) (SlOld.mem HVK.out hm)).mono ?_;rintro e w2 ⟨rfl,hb⟩;replace hm:=hm.call hb;clear hb)
  | (go_at_call 158;refine (begin_any (fillOf ks) (bn _) HFB.out _ (Tab.mem HT.out hm (by simp))).mono ?_;rintro e w3 ⟨gi,go,rfl,hgi,hgo,_,hri,hro,hb⟩;have HRI:Hid (Row w3 gi (hrow (wsOf (padIn ks)) (restOf (padIn ks)) ((padIn ks).length:Int)) 255):=hri;have HRO:Hid (Row w3 go (hrow (wsOf (padOut ks)) (restOf (padOut ks)) ((padOut ks).length:Int)) 255):=hro;replace hm:=hm.call hb;clear hb hri hro hgi hgo)
  | ((with_reducible refine ae (some 9) (.buildSlice 219 1 #[(0,.tmp 8)]) ?_);refine bM rfl (.slice none 0 0) (.slice pm ms.length cm) un_bss info_bs rfl rfl rfl hm ?_;clear hm;intro w4 g9 hb4 hm)
  | (go_at_call 118;refine (code_any gi go (padIn ks) (padOut ks) (fU HBK.out) (fC HBK.out) (by rw [bD];omega) g9 0 1 1 (fun _=>.slice pm ms.length cm) (fun _=>ms) (by rw [bP];simp [catN];omega) (by omega) _ (Tab.mem HT.out hm (by simp)) (HRI.out.below' hb4) (HRO.out.below' hb4) (fun i hi=>⟨by rw [Nat.zero_add,show i=0 by omega];exact hm.cell 0 rfl 0,SlOld.mem HVM.out hm,HBM.out⟩)).mono ?_;rintro e w5 ⟨rfl,hb⟩;rw [←HML.out];replace hm:=hm.call hb;clear hb)
  | ((with_reducible refine ae none (.store 42 (.tmp 4) (.tmp 10)) ?_);refine ah 1 (u8s (macOf ks ms)) hm rfl rfl rfl 32 bB (by simp [aa]) (by rw [aa,bZ]) (ai _) ?_;clear hm;intro w6 hm))
 exact aH 1 hm rfl Tryz.results146 rfl _ dV rfl 32 bB (by rw [aa,bZ]) rfl ⟨rfl,hm.below⟩
open Go Go.RowKit
open Go.Maps
theorem key_laid:laidOutB Tryz.prog=true:=by kernel_rfl
theorem key_row:(43:TypeId)<Tryz.prog.types.size:=of_decide_eq_true (by kernel_rfl)
theorem key_wide:(match Tryz.prog.underlying 43 with|some (.array _ _)|some (.struct _)=>true|_=>false)=true:=by kernel_rfl
theorem iP:Keyed Tryz.prog 43:=Keyed.of_law (deep_law_laid key_laid (m:=2) (by omega) key_row (by kernel_rfl) key_wide)
theorem key_type:Tryz.prog.keyType 43=true:=by kernel_rfl
theorem key_cells:Tryz.prog.cellsOf 43=32:=by kernel_rfl
theorem byte_cells:Tryz.prog.cellsOf 5=1:=by kernel_rfl
theorem kc:∃n,Tryz.prog.types.size=n+1:=⟨Tryz.prog.types.size - 1,by have h:(43:Nat)<Tryz.prog.types.size:=key_row;omega⟩
theorem mapM_all {α β:Type} (f:α→Option β) (g:α→β):∀l:List α,(∀x∈l,f x=some (g x))→l.mapM f=some (l.map g)
 | [],_=>rfl
 | x::r,h=>by
  rw [List.mapM_cons,h x (List.mem_cons_self ..),mapM_all f g r (fun y hy=>h y (List.mem_cons_of_mem _ hy))]
  rfl
theorem wf_u8 (x:Int) (h0:0≤x) (h1:x<256):(Lit.int .u8 x).wf=true:=by
 simp [Lit.wf,IntKind.min,IntKind.max,IntKind.signed,IntKind.bits]
 omega
theorem key_of (zs:List Int) (hl:zs.length=32) (hb:Bytes zs):∃kl,keyOf Tryz.prog 43 (.agg (u8s zs).toArray)=some kl:=by
 obtain ⟨n,hn⟩:=kc
 have hf:(Value.agg (u8s zs).toArray).formed Tryz.prog 43=true:=by
  simp [Value.formed,key_cells,aa,hl]
 have hk:Tryz.prog.keyLits (Tryz.prog.types.size+1) 43 (u8s zs)=some ((List.range 32).map fun i=>[Lit.int .u8 (zs.getD i 0)]).flatten:=by
  unfold Program.keyLits
  simp only [aw]
  rw [if_pos (by rw [aa,hl,key_cells]),mapM_all (g:=fun i=>[Lit.int .u8 (zs.getD i 0)])]
  ·rfl
  ·intro i hi
   have hi':i<zs.length:=by rw [hl];exact List.mem_range.1 hi
   have hc:(List.drop (i * Tryz.prog.cellsOf 5) (u8s zs)).take (Tryz.prog.cellsOf 5)=[.int .u8 (zs.getD i 0)]:=by
    rw [byte_cells,Nat.mul_one,List.take_one,List.head?_drop,cK zs i hi']
    rfl
   have:=hb.get i
   rw [hc,hn]
   unfold Program.keyLits
   have hg:=wf_u8 _ this.1 this.2
   simp only [b7]
   exact if_pos ⟨trivial,hg⟩
 unfold keyOf
 rw [aw]
 simp only
 rw [if_pos (by rw [key_type,hf];rfl)]
 exact ⟨_,by rw [show (Value.agg (u8s zs).toArray).cells.toList=u8s zs from rfl,hk];rfl⟩
theorem gR:Tryz.prog.underlying 181=some (.map 43 184):=Tryz.underlying181
def noBeg:List Value:=[.pointer none,.pointer none]
def MapHas (w:World) (m:Nat) (key s:Value):Prop :=
 ∃(R:Value→Option (DataW Unit×List MemPlace)) (kl:Lit),keyOf Tryz.prog 43 key=some kl∧R s=some (.lit (.bool true),[])∧(∀v ps,R v=some (.lit (.bool true),ps)→v=s)∧R (.agg noBeg.toArray)=some (.lit (.bool false),[])∧w.ownsMap Tryz.prog 43 R m 1 ((DataW.map []).put kl (.lit (.bool true)))
theorem MapHas.isMap {w:World} {m:Nat} {key s:Value} (h:MapHas w m key s):∃es c,w.heap[m]?=some (.map es c):=by
 obtain ⟨_,_,_,_,_,_,es,c,hb,_⟩:=h
 exact ⟨es,c,hb⟩
theorem MapHas.kept {w w':World} {m:Nat} {key s:Value} (h:MapHas w m key s) (hg:w'.heap[m]?=w.heap[m]?):MapHas w' m key s:=by
 obtain ⟨R,kl,h1,h2,h3,h4,es,c,hb,h5⟩:=h
 exact ⟨R,kl,h1,h2,h3,h4,es,c,hg.trans hb,h5⟩
theorem MapHas.hidKept {w w':World} {m g:Nat} {key s:Value} {l:List Value} {t:TypeId} (h:MapHas w m key s) (hu:Upd g w w') (hr:Row w g l t):Hid (MapHas w' m key s):=by
 obtain ⟨es,c,hmap⟩:=h.isMap
 exact h.kept (hu.block m (Array.getElem?_eq_some_iff.1 hmap).1 (fun he=>by
  rw [he,hr] at hmap
  cases hmap))
def Started (w:World) (m:Nat) (zs:List Int):Prop :=
 w.heap[m]?=some (.map #[] 0)∨∃gi go,MapHas w m (.agg (u8s zs).toArray) (.agg (begV gi go).toArray)∧Row w gi (hrow (wsOf (padIn zs)) (restOf (padIn zs)) ((padIn zs).length:Int)) 255∧Row w go (hrow (wsOf (padOut zs)) (restOf (padOut zs)) ((padOut zs).length:Int)) 255
theorem Started.isMap {w:World} {m:Nat} {zs:List Int} (h:Started w m zs):∃es c,w.heap[m]?=some (.map es c):=by
 rcases h with h|⟨_,_,h,_⟩
 ·exact ⟨_,_,h⟩
 ·exact h.isMap
theorem b6 {w:World} {g m:Nat} {l:List Value} {t:TypeId} {es:Array MapEntry} {c:Nat} (hr:Row w g l t) (hm:w.heap[m]?=some (.map es c)):g≠m:=by
 rintro rfl
 rw [hr] at hm
 cases hm
theorem Mem.updO {w0 w w':World} {S:List Nat} {rows:List (Nat×List Value×TypeId)} {m:Nat} {es:Array MapEntry} {c:Nat} (hm:Mem w0 S w rows) (hmap:w.heap[m]?=some (.map es c)) (hS:m∈S∨w0.heap.size≤m) (hu:Upd m w w'):Mem w0 S w' rows:=by
 refine ⟨hu.os.trans hm.os,hu.tape.trans hm.tape,hu.output.trans hm.output,Nat.le_trans hm.size hu.size,fun k hk hn=>?_,fun r hr=>hu.row (hm.row r hr) (b6 (hm.row r hr) hmap),hm.nodup,hm.fresh⟩
 refine (hu.block k (Nat.lt_of_lt_of_le hk hm.size) ?_).trans (hm.block k hk hn)
 rintro rfl
 rcases hS with h|h
 ·exact hn h
 ·omega
theorem Mem.trans {w0 w w':World} {S:List Nat} {rows rows':List (Nat×List Value×TypeId)} (hm:Mem w0 S w rows) (h2:Mem w (rows.map Prod.fst) w' rows'):Mem w0 S w' rows':=by
 refine ⟨h2.os.trans hm.os,h2.tape.trans hm.tape,h2.output.trans hm.output,Nat.le_trans hm.size h2.size,fun k hk hn=>?_,h2.row,h2.nodup,fun r hr=>?_⟩
 ·refine (h2.block k (Nat.lt_of_lt_of_le hk hm.size) (fun hc=>?_)).trans (hm.block k hk hn)
  obtain ⟨r,hr,rfl⟩:=List.mem_map.1 hc
  rcases hm.fresh r hr with h|h
  ·exact hn h
  ·omega
 ·rcases h2.fresh r hr with h|h
  ·obtain ⟨q,hq,he⟩:=List.mem_map.1 h
   rw [←he]
   exact hm.fresh q hq
  ·exact Or.inr (Nat.le_trans hm.size h)
theorem Seg.notMap {w:World} {b off m:Nat} {cs:List Int} {es:Array MapEntry} {c:Nat} (h:Seg w b off cs) (h0:0<cs.length) (hm:w.heap[m]?=some (.map es c)):b≠m:=by
 rintro rfl
 have:=h 0 h0
 simp [World.cell?,hm] at this
theorem SlOld.updMap {w w':World} {v:Value} {cs:List Int} {m:Nat} {es:Array MapEntry} {c:Nat} (h:SlOld w v cs) (hm:w.heap[m]?=some (.map es c)) (hu:Upd m w w'):SlOld w' v cs:=by
 obtain ⟨p,cap,hv,hc,hs⟩:=h
 refine ⟨p,cap,hv,hc,fun h0=>?_⟩
 obtain ⟨b,off,hp,hseg⟩:=hs h0
 refine ⟨b,off,hp,fun j hj=>?_⟩
 rw [hu.cell (p:=⟨b,off+j,none⟩) (hseg.lt h0) (hseg.notMap h0 hm)]
 exact hseg j hj
theorem upd_of_mem {w w':World} {m:Nat} {rows:List (Nat×List Value×TypeId)} (hm:Mem w [m] w' rows):Upd m w w' :=
 ⟨hm.os,hm.tape,hm.output,hm.size,fun k hk hn=>hm.block k hk (by simpa using hn)⟩
theorem Mem.mapUpd {w0 w w':World} {rows:List (Nat×List Value×TypeId)} {m:Nat} {es:Array MapEntry} {c:Nat} (hm:Mem w0 [] w rows) (hmap:w.heap[m]?=some (.map es c)) (hg:w.grownBy w' (some m)):Mem w0 [m] w' rows:=by
 refine ⟨hg.os.trans hm.os,hg.tape.trans hm.tape,hg.output.trans hm.output,Nat.le_trans hm.size hg.size,fun k hk hn=>?_,fun r hr=>?_,hm.nodup,fun r hr=>Or.inr ?_⟩
 ·exact (hg.block k (Nat.lt_of_lt_of_le hk hm.size) (by simpa using hn)).trans (hm.block k hk (by simp))
 ·have hrow:=hm.row r hr
  unfold Row
  rw [hg.block r.1 hrow.lt (fun he=>b6 hrow hmap (by simpa using he))]
  exact hrow
 ·have:=hm.fresh r hr
  simpa using this
theorem begV_ne (gi go:Nat):Value.agg (begV gi go).toArray≠.agg noBeg.toArray:=by
 simp [begV,noBeg]
theorem io (gi go:Nat):∀v∈begV gi go,v.oneCell'=true:=by
 intro v hv
 simp [begV] at hv
 rcases hv with rfl|rfl<;>rfl
theorem noBeg_one:∀v∈noBeg,v.oneCell'=true:=by
 intro v hv
 simp [noBeg] at hv
 subst hv
 rfl
theorem pin_zero:∃R0:Value→Option (DataW Unit×List MemPlace),R0 (.agg noBeg.toArray)=some (.nil,[])∧∀v p,R0 v=some p→v=.agg noBeg.toArray:=by
 classical
 refine ⟨fun v=>if v=.agg noBeg.toArray then some (.nil,[]) else none,if_pos rfl,fun v p h=>?_⟩
 by_cases hv:v=.agg noBeg.toArray
 ·exact hv
 ·simp [hv] at h
theorem pin_of (s:Value) (hs:s≠.agg noBeg.toArray):∃R:Value→Option (DataW Unit×List MemPlace),R s=some (.lit (.bool true),[])∧(∀v ps,R v=some (.lit (.bool true),ps)→v=s)∧R (.agg noBeg.toArray)=some (.lit (.bool false),[]):=by
 classical
 refine ⟨fun v=>if v=s then some (.lit (.bool true),[]) else some (.lit (.bool false),[]),if_pos rfl,fun v ps h=>?_,if_neg (fun h=>hs h.symm)⟩
 by_cases hv:v=s
 ·exact hv
 ·simp [hv] at h
theorem own_none {W:World} {m:Nat} (h:W.heap[m]?=some (.map #[] 0)) (R:Value→Option (DataW Unit×List MemPlace)):W.ownsMap Tryz.prog 43 R m 0 (.map []) :=
 ⟨#[],0,h,⟨by simp,MapKept.stamped_empty 0,by simp⟩,Nat.le_refl _,rfl⟩
theorem under_first (zs:List Int) (m:Nat) (hl:zs.length=32) (hb:Bytes zs) (w:World) (ht:Tab w) (hm0:w.heap[m]?=some (.map #[] 0)) :
  Calls Tryz.prog 117 #[.map (some m),.agg (u8s zs).toArray] w fun e w'=>∃gi go,e=.returned (.agg (begV gi go).toArray)∧MapHas w' m (.agg (u8s zs).toArray) (.agg (begV gi go).toArray)∧Row w' gi (hrow (wsOf (padIn zs)) (restOf (padIn zs)) ((padIn zs).length:Int)) 255∧Row w' go (hrow (wsOf (padOut zs)) (restOf (padOut zs)) ((padOut zs).length:Int)) 255∧Upd m w w':=by
 obtain ⟨kl,hkl⟩:=key_of zs hl hb
 have hm:=Mem.start w
 obtain ⟨R0,hR0,hR0i⟩:=pin_zero
 have HMT:Hid (m<w.heap.size):=(Array.getElem?_eq_some_iff.1 hm0).1
 have HT:Hid _:=ht
 have HL:Hid _:=hl
 have HKL:Hid _:=hkl
 have HM0:Hid _:=hm0
 have HR0:Hid _:=hR0
 have HR0I:Hid _:=hR0i
 have HB:Hid _:=hb
 have HFB:Hid _:=d5 hb
 have HU:Hid ((u8s zs).length=32):=by show _=_;rw [aa];exact hl
 clear ht hl hkl hm0 hR0 hR0i hb
 go_enter Tryz.func117,Tryz.ntmps117
 go_wp2_with (first
  | ((with_reducible refine ae (some 3) (.box 43 (.tmp 1)) ?_);refine az (u8s zs) rfl hm ?_;clear hm;intro w1 g3 hm)
  | ((with_reducible refine ae (some 4) (.alloc 184) ?_);refine ag _ dR hm ?_;clear hm;intro w2 g4 hm)
  | ((with_reducible refine ae (some 10) (.load 43 (.tmp 3)) ?_);refine av 1 hm rfl rfl _ aw rfl 32 aq (HU.out) ?_)
  | ((with_reducible refine ae (some 11) (.lookup 181 (.tmp 9) (.tmp 10) true) ?_);refine wpList_lookup_own_ok _ rfl _ _ 181 rfl 43 184 iP gR R0 (dR _) .nil [] HR0.out m 0 (.map []) rfl (own_none ((hm.block m HMT.out (by simp)).trans HM0.out) R0) _ kl rfl HKL.out ?_;intro v ps hv;obtain rfl:=HR0I.out v _ hv;clear hv;rw [show Maps.has (DataW.map ([]:List (Lit×DataW Unit))) kl=false from rfl])
  | ((with_reducible refine ae (some 5) (.alloc 184) ?_);refine ag _ dR hm ?_;clear hm;intro w3 g5 hm)
  | ((with_reducible refine ae none (.store 184 (.tmp 5) (.tmp 12)) ?_);refine ah 0 noBeg hm rfl rfl rfl 2 dW (rfl) (rfl) (noBeg_one) ?_;clear hm;intro w4 hm)
  | (go_at_call 159;refine (kd zs _ HB.out (by rw [HL.out];omega) _ (Tab.mem HT.out hm (by simp)) (a8 (hm.get 2 rfl) HL.out (Nat.le_refl _))).mono ?_;rintro e w5 ⟨rfl,hb⟩;replace hm:=hm.call hb;clear hb)
  | (go_at_call 158;refine (begin_any (fillOf zs) (bn _) HFB.out _ (Tab.mem HT.out hm (by simp))).mono ?_;rintro e w6 ⟨gi,go,rfl,hgi,hgo,hne,hri,hro,hb⟩;replace hm:=hm.callNew2 hb hri hro hgi hgo hne;clear hb hri hro hgi hgo hne)
  | ((with_reducible refine ae (some 7) (.alloc 184) ?_);refine ag _ dR hm ?_;clear hm;intro w7 g7 hm)
  | ((with_reducible refine ae none (.store 184 (.tmp 7) (.tmp 18)) ?_);refine ah 0 (begV gi go) hm rfl rfl rfl 2 dW (rfl) (rfl) (io _ _) ?_;clear hm;intro w8 hm)
  | ((with_reducible refine ae (some 20) (.load 43 (.tmp 3)) ?_);refine av 5 hm rfl rfl _ aw rfl 32 aq (HU.out) ?_)
  | ((with_reducible refine ae (some 21) (.load 184 (.tmp 7)) ?_);refine av 0 hm rfl rfl _ jt rfl 2 dW (rfl) ?_)
  | ((with_reducible refine ae none (.mapUpdate 181 (.tmp 19) (.tmp 20) (.tmp 21)) ?_);obtain ⟨R1,hR1,hR1i,hR1z⟩:=pin_of (.agg (begV gi go).toArray) (begV_ne gi go);refine wpList_mapUpdate_own _ rfl _ _ _ 181 rfl 43 184 iP gR R1 m 0 (.map []) rfl (own_none ((hm.block m HMT.out (by simp)).trans HM0.out) R1) (by unfold maxLen;omega) _ _ kl rfl rfl HKL.out (.lit (.bool true)) [] hR1 ?_;intro w9 hown1 hg1;have HAS:Hid (MapHas w9 m (.agg (u8s zs).toArray) (.agg (begV gi go).toArray)):=⟨R1,kl,HKL.out,hR1,hR1i,hR1z,hown1⟩;clear hown1 hR1 hR1i hR1z;have hm9:=hm.mapUpd ((hm.block m HMT.out (by simp)).trans HM0.out) hg1;clear hm hg1;have hm:=hm9;clear hm9)
  | ((with_reducible refine ae (some 22) (.load 184 (.tmp 7)) ?_);refine av 0 hm rfl rfl _ jt rfl 2 dW (rfl) ?_)
  | ((with_reducible refine ae none (.store 184 (.tmp 4) (.tmp 22)) ?_);go_must (refine iz 4 (begV gi go) hm rfl rfl rfl 2 dW rfl rfl (io _ _) ?_);intro w10 hu hm10;go_must (have HAS2:=MapHas.hidKept HAS.out hu (hm.get 4 rfl));clear hm hu HAS;have hm:=hm10;clear hm10))

 exact aH 4 hm rfl Tryz.results117 rfl _ jt rfl 2 dW rfl rfl ⟨gi,go,rfl,HAS2.out,hm.get 1 rfl,hm.get 2 rfl,upd_of_mem hm⟩
theorem under_again (zs:List Int) (m gi go:Nat) (hl:zs.length=32) (w:World) (hh:MapHas w m (.agg (u8s zs).toArray) (.agg (begV gi go).toArray)) :
  Calls Tryz.prog 117 #[.map (some m),.agg (u8s zs).toArray] w fun e w'=>e=.returned (.agg (begV gi go).toArray)∧Below w.heap.size w w':=by
 obtain ⟨R,kl,hkl,hR,hRi,hRz,es,c,hblock,hrest⟩:=hh
 have hm:=Mem.start w
 have HMT:Hid (m<w.heap.size):=(Array.getElem?_eq_some_iff.1 hblock).1
 have HKL:Hid _:=hkl
 have HR:Hid _:=hR
 have HRI:Hid _:=hRi
 have HRZ:Hid _:=hRz
 have HBL:Hid _:=hblock
 have HRE:Hid _:=hrest
 have HA:Hid (((DataW.map ([]:List (Lit×DataW Unit))).put kl (.lit (.bool true))).atKey kl (.lit (.bool false))=.lit (.bool true)):=atKey_put_same isMap_empty (iP.key hkl) _ _
 have HH:Hid (Maps.has ((DataW.map ([]:List (Lit×DataW Unit))).put kl (.lit (.bool true))) kl=true):=has_put_same isMap_empty (iP.key hkl) _
 have HU:Hid ((u8s zs).length=32):=by show _=_;rw [aa];exact hl
 clear hl hkl hR hRi hRz hblock hrest
 go_enter Tryz.func117,Tryz.ntmps117
 go_wp2_with (first
  | ((with_reducible refine ae (some 3) (.box 43 (.tmp 1)) ?_);refine az (u8s zs) rfl hm ?_;clear hm;intro w1 g3 hm)
  | ((with_reducible refine ae (some 4) (.alloc 184) ?_);refine ag _ dR hm ?_;clear hm;intro w2 g4 hm)
  | ((with_reducible refine ae (some 10) (.load 43 (.tmp 3)) ?_);refine av 1 hm rfl rfl _ aw rfl 32 aq (HU.out) ?_)
  | ((with_reducible refine ae (some 11) (.lookup 181 (.tmp 9) (.tmp 10) true) ?_);refine wpList_lookup_own_ok _ rfl _ _ 181 rfl 43 184 iP gR R (dR _) (.lit (.bool false)) [] HRZ.out m 1 ((DataW.map ([]:List (Lit×DataW Unit))).put kl (.lit (.bool true))) rfl ⟨es,c,(hm.block m HMT.out (by simp)).trans HBL.out,HRE.out⟩ _ kl rfl HKL.out ?_;intro v ps hv;rw [HA.out] at hv;obtain rfl:=HRI.out v _ hv;clear hv;rw [HH.out])
  | ((with_reducible refine ae (some 5) (.alloc 184) ?_);refine ag _ dR hm ?_;clear hm;intro w3 g5 hm)
  | ((with_reducible refine ae none (.store 184 (.tmp 5) (.tmp 12)) ?_);refine ah 0 (begV gi go) hm rfl rfl rfl 2 dW (rfl) (rfl) (io _ _) ?_;clear hm;intro w4 hm)
  | ((with_reducible refine ae (some 15) (.load 184 (.tmp 5)) ?_);refine av 0 hm rfl rfl _ jt rfl 2 dW (rfl) ?_)
  | ((with_reducible refine ae none (.store 184 (.tmp 4) (.tmp 15)) ?_);refine ah 1 (begV gi go) hm rfl rfl rfl 2 dW (rfl) (rfl) (io _ _) ?_;clear hm;intro w5 hm))

 exact aH 1 hm rfl Tryz.results117 rfl _ jt rfl 2 dW rfl rfl ⟨rfl,hm.below⟩
theorem under_any (zs:List Int) (m:Nat) (hl:zs.length=32) (hb:Bytes zs) (w:World) (ht:Tab w) (hs:Started w m zs) :
  Calls Tryz.prog 117 #[.map (some m),.agg (u8s zs).toArray] w fun e w'=>∃gi go,e=.returned (.agg (begV gi go).toArray)∧MapHas w' m (.agg (u8s zs).toArray) (.agg (begV gi go).toArray)∧Row w' gi (hrow (wsOf (padIn zs)) (restOf (padIn zs)) ((padIn zs).length:Int)) 255∧Row w' go (hrow (wsOf (padOut zs)) (restOf (padOut zs)) ((padOut zs).length:Int)) 255∧Upd m w w':=by
 rcases hs with hs|⟨gi,go,hs,hri,hro⟩
 ·exact under_first zs m hl hb w ht hs
 ·refine (under_again zs m gi go hl w hs).mono ?_
  rintro e w' ⟨rfl,hb⟩
  obtain ⟨es,c,hmap⟩:=hs.isMap
  exact ⟨gi,go,rfl,hs.kept (hb.block m (Array.getElem?_eq_some_iff.1 hmap).1),hri.below' hb,hro.below' hb,Upd.of_below hb⟩
open Go Go.RowKit
theorem Started.mem {w w':World} {m gi go:Nat} {zs:List Int} {S:List Nat} {rows:List (Nat×List Value×TypeId)} (h:MapHas w m (.agg (u8s zs).toArray) (.agg (begV gi go).toArray)) (hri:Row w gi (hrow (wsOf (padIn zs)) (restOf (padIn zs)) ((padIn zs).length:Int)) 255) (hro:Row w go (hrow (wsOf (padOut zs)) (restOf (padOut zs)) ((padOut zs).length:Int)) 255) (hm:Mem w S w' rows) (hS:∀g∈S,∃l t,Row w g l t∧t≠255):Started w' m zs:=by
 have hnot:∀k l,Row w k l 255→k ∉ S:=by
  intro k l hk hc
  obtain ⟨l',t,hr,ht⟩:=hS k hc
  unfold Row at hk hr
  rw [hk] at hr
  simp only [Option.some.injEq,Obj.cells.injEq] at hr
  exact ht hr.2.1.symm
 obtain ⟨es,c,hmap⟩:=h.isMap
 have hkeep:∀k l,Row w k l 255→Row w' k l 255:=by
  intro k l hk
  unfold Row
  rw [hm.block k hk.lt (hnot k l hk)]
  exact hk
 refine Or.inr ⟨gi,go,h.kept (hm.block m (Array.getElem?_eq_some_iff.1 hmap).1 (fun hc=>?_)),hkeep _ _ hri,hkeep _ _ hro⟩
 obtain ⟨l',t,hr,_⟩:=hS m hc
 unfold Row at hr
 rw [hmap] at hr
 cases hr
section
variable {P:Program} {ops:Array Oper} {rest:List Oper} {a:Act} {w w0:World} {dst:Option Tmp} {typ:TypeId} {pos:String} {aft:Array Edge} {S:List Nat} {rows:List (Nat×List Value×TypeId)}
theorem wpl_mkmap {Q:Exit→Act→World→Prop} {ty:TypeId} (hm:Mem w0 S w rows) (h:∀w' m,w'.heap[m]?=some (.map #[] 0)→w0.heap.size≤m→Mem w0 S w' rows→wpList P ops Q rest (a.put dst (.map (some m))) w') :
  wpList P ops Q ({dst:=dst,op:=.makeMap ty none,type:=typ,pos:=pos,after:=aft,guard:=none}::rest) a w:=by
 refine wpList_plain rfl fun K hK=>?_
 have hh:=hK _ _ (h (w.alloc (.map #[] 0)) w.heap.size (heap_alloc_new w _) hm.size (hm.allocO _))
 unfold Oper.wp execOp
 simp only [Option.map_none,run_makeMap,Sem.run_bind,Sem.run_pure,Result.andThen_ok]
 exact hh
theorem run_slo (w:World) {ty:TypeId} {elem:TypeId} (hu:P.underlying ty=some (.slice elem)) (hs:(P.info? elem).map (·.size)=some 1) {g o len cap:Nat} (l:Nat) (hl:l≤len) (hlc:l<cap) :
  (Instr.sliceAt ty (.slice (some ⟨g,o,none⟩) len cap) (some (.int .i64 (l:Int))) none none).run P w=.ok (.slice (some ⟨g,o+l,none⟩) (len - l) (cap - l)) w:=by
 cases hq:P.info? elem with
 | none=>simp [hq] at hs
 | some q =>
  have hs1:q.size=1:=by simpa [hq] using hs
  have hsz:(sizeOf elem).run P w=.ok 1 w:=by simp [sizeOf,typeInfo,hq,hs1]
  have bnd:(Instr.sliceBound (.int .i64 (l:Int)) len .sliceB).run P w=.ok l w:=by
   rw [run_sliceBound (P:=P) w .i64 (l:Int) len .sliceB (by omega) (by omega)]
   simp
  have hb:(Instr.sliceBounds true len cap (some (.int .i64 (l:Int))) none none).run P w=.ok (l,len,cap) w:=by
   simp [Instr.sliceBounds,bnd]
  have hne:¬cap=l:=by omega
  simp [Instr.sliceAt,Instr.slice,run_underlying hu,hb,hsz,hne,bK]
theorem wps_slo {Q:Act→Prop} {ty:TypeId} {x lo:Operand} {elem:TypeId} (hu:P.underlying ty=some (.slice elem)) (hs:(P.info? elem).map (·.size)=some 1) {g o len cap:Nat} (l:Nat) {il:Int} (hl:l≤len) (hlc:l<cap) (hx:a.eval x=.slice (some ⟨g,o,none⟩) len cap)
  (hlo:a.eval lo=.int .i64 il) (hil:il=(l:Int)) (h:wpStill P ops w Q rest (a.put dst (.slice (some ⟨g,o+l,none⟩) (len - l) (cap - l)))) :
  wpStill P ops w Q ({dst:=dst,op:=.slice ty x (some lo) none none,type:=typ,pos:=pos,after:=aft,guard:=none}::rest) a:=by
 subst hil
 refine gw rfl _ ?_ h
 unfold execOp
 simp only [hx,hlo,Option.map_some,Option.map_none,run_slo (P:=P) w hu hs l hl hlc,Sem.run_bind,Sem.run_pure,Result.andThen_ok]
end
def three (a b c:List Int):Nat→List Int
 | 0=>a
 | 1=>b
 | _=>c
def threeV (a b c:Value):Nat→Value
 | 0=>a
 | 1=>b
 | _=>c
theorem parts_ok {w:World} {g:Nat} {a b c:Value} {xa xb xc:List Int} {t:TypeId} (hr:Row w g [a,b,c] t) (ha:SlOld w a xa) (hb:SlOld w b xb) (hc:SlOld w c xc) (ba:Bytes xa) (bb:Bytes xb) (bc:Bytes xc) :
  ∀i,i<3→w.cell? ⟨g,0+i,none⟩=some (threeV a b c i)∧SlOld w (threeV a b c i) (three xa xb xc i)∧Bytes (three xa xb xc i):=by
 intro i hi
 have h:i=0∨i=1∨i=2:=by omega
 rcases h with rfl|rfl|rfl
 ·exact ⟨hr.cell 0,ha,ba⟩
 ·exact ⟨hr.cell 1,hb,bb⟩
 ·exact ⟨hr.cell 2,hc,bc⟩
theorem Mem.two {w0 w:World} {S:List Nat} {a b:Nat×List Value×TypeId} {rows:List (Nat×List Value×TypeId)} (hm:Mem w0 S w (a::b::rows)):Mem w0 S w [a,b]:=hm.sub (((List.nil_sublist rows).cons_cons b).cons_cons a)
theorem Mem.adoptAll {w0 w w':World} {S:List Nat} {R rows:List (Nat×List Value×TypeId)} (h4:Mem w0 S w R) (hm:Mem w [] w' rows):Mem w (R.map Prod.fst) w' (R++rows):=by
 refine ⟨hm.os,hm.tape,hm.output,hm.size,fun k hk _=>hm.block k hk (by simp),fun r hr=>?_,?_,fun r hr=>?_⟩
 ·rcases List.mem_append.1 hr with h|h
  ·exact (h4.row r h).below' hm.below
  ·exact hm.row r h
 ·rw [List.map_append,List.nodup_append]
  refine ⟨h4.nodup,hm.nodup,fun a ha b hb he=>?_⟩
  obtain ⟨q,hq,rfl⟩:=List.mem_map.1 ha
  obtain ⟨q',hq',rfl⟩:=List.mem_map.1 hb
  have h1:=(h4.row q hq).lt
  rcases hm.fresh q' hq' with h2|h2
  ·cases h2
  ·omega
 ·rcases List.mem_append.1 hr with h|h
  ·exact Or.inl (List.mem_map_of_mem h)
  ·rcases hm.fresh r h with h2|h2
   ·cases h2
   ·exact Or.inr h2
theorem expand_any (ks info:List Int) (v:Value) (N:Nat) (hkl:ks.length=32) (hkb:Bytes ks) (hib:Bytes info) (hil:info.length≤100000) (hN:N≤8160) (w:World) (ht:Tab w) (hv:SlOld w v info) :
  Calls Tryz.prog 90 #[.agg (u8s ks).toArray,v,.int .i64 (N:Int)] w fun e w'=>∃g,e=.returned (.slice (some ⟨g,0,none⟩) N N)∧w.heap.size≤g∧Row w' g (u8s (expandOf ks info N)) 5∧Below w.heap.size w w':=by
 obtain ⟨pi,ci,rfl,hci⟩:=hv.len
 have hm:=Mem.start w
 have hn0:¬(0 > (N:Int)):=by omega
 have hn1:¬((8160:Int)<(N:Int)):=by omega
 have HT:Hid _:=ht
 have HKL:Hid _:=hkl
 have HKB:Hid _:=hkb
 have HIB:Hid _:=hib
 have HV:Hid (SlOld w (.slice pi info.length ci) info):=hv
 have HU:Hid ((u8s ks).length=32):=by show _=_;rw [aa];exact hkl
 clear ht hkl hkb hib hv
 go_enter Tryz.func90,Tryz.ntmps90
 go_wp2_with (first
  | ((with_reducible refine ae (some 3) (.box 43 (.tmp 0)) ?_);refine az (u8s ks) rfl hm ?_;clear hm;intro w1 g3 hm)
  | ((with_reducible refine ae (some 16) (.makeSlice 56 (.tmp 15) (.tmp 15)) ?_);go_must (refine ff _ aF _ bF rfl N rfl rfl rfl rfl (by omega) hm ?_);clear hm;intro w2 g7 hm)
  | ((with_reducible refine ae (some 17) (.makeMap 181 none) ?_);refine wpl_mkmap hm ?_;clear hm;intro w3 m hm0 hmge hm;have HM0:Hid (Started w3 m ks):=Or.inl hm0;have HMG:Hid _:=hmge;clear hm0 hmge))

 replace hm:Mem w [] w3 [(g7,u8s (outAt ks info N 0),5),(g3,u8s ks,43)]:=by
  rw [outAt_zero]
  have e:u8s (List.replicate N 0)=List.replicate N (.int .u8 0):=by simp [u8s]
  rw [e]
  exact hm
 have hge7:w.heap.size≤g7:=by
  have h:=hm.fresh _ (List.mem_cons_self ..)
  simpa using h
 have HGE:Hid _:=hge7
 clear hge7
 go_loopw [9,10] (fun vl vd wr=>∃i:Nat,32 * i<N+32∧vd=.int .i64 ((32 * i:Nat):Int)∧SlOld wr vl (pieceOf ks info i)∧Hid (Started wr m ks)∧Mem w [] wr [(g7,u8s (outAt ks info N i),5),(g3,u8s ks,43)]) (fun _ vd _=>N+32 - (intOf vd).toNat)
 case atStart=>exact ⟨0,by omega,rfl,⟨none,0,rfl,Nat.le_refl _,fun h=>absurd h (by simp [pieceOf])⟩,HM0.out,hm⟩
 case round =>
  clear hm HM0
  obtain ⟨i,hi,rfl,hlast,HST,hm⟩:=hrel
  by_cases hlt:32 * i<N
  ·obtain ⟨pl,cl,rfl,hcl⟩:=hlast.len
   have hti:((32 * i:Nat):Int)<(N:Int):=by omega
   have HLA:Hid (SlOld wr (.slice pl (pieceOf ks info i).length cl) (pieceOf ks info i)):=hlast
   have HPB:Hid _:=gN ks info i
   have HPL:Hid _:=lh ks info i
   have HP2:Hid (pieceOf ks info (i+1)=shaOf (padOut ks++shaOf (padIn ks++catN (three (pieceOf ks info i) info [(i:Int)+1]) 3))):=by
    show _=_
    rw [pieceOf,macOf]
    simp [catN,three]
   have HPN:Hid ((pieceOf ks info (i+1)).length=32):=cP ks info i
   have HOU:Hid (splice (u8s (outAt ks info N i)) (32 * i) (u8s ((pieceOf ks info (i+1)).take (Nat.min 32 (N - 32 * i))))=u8s (outAt ks info N (i+1))):=by
    show _=_
    have e:(pieceOf ks info (i+1)).take (Nat.min 32 (N - 32 * i))=(pieceOf ks info (i+1)).take (N - 32 * i):=by
     by_cases h:32≤N - 32 * i
     ·rw [show Nat.min 32 (N - 32 * i)=32 from Nat.min_eq_left h,List.take_of_length_le (by rw [HPN.out];omega),List.take_of_length_le (by rw [HPN.out];exact h)]
     ·rw [show Nat.min 32 (N - 32 * i)=N - 32 * i from Nat.min_eq_right (by omega)]
    rw [e,←outAt_step ks info N i hlt]
    simp [splice,u8s]
   have HOL:Hid ((u8s (outAt ks info N i)).length=N):=by show _=_;rw [aa,outAt_length]
   have hbn:((i+1:Nat):Int)<256:=by omega
   have HBN:Hid (Bytes [(i:Int)+1]):=by
    intro x hx
    simp only [List.mem_cons,List.not_mem_nil,or_false] at hx
    omega
   have hdv:((32 * i:Nat):Int).tdiv 32=(i:Int):=by rw [Int.tdiv_eq_ediv_of_nonneg (by omega)];omega
   have HDV:Hid (((i:Int)+1) % 256=((i+1:Nat):Int)):=by show _=_;omega
   have HW:Hid (32 * (i:Int)=((32 * i:Nat):Int)):=by show _=_;omega
   clear hlast
   go_wp2_with (first
    | ((with_reducible refine ae (some 29) (.load 43 (.tmp 3)) ?_);refine av 1 hm rfl rfl _ aw rfl 32 aq (HU.out) ?_)
    | (go_at_call 117;refine (under_any ks m HKL.out HKB.out _ (Tab.mem HT.out hm (by simp)) HST.out).mono ?_;rintro e w4 ⟨gi,go,rfl,hhas,hri,hro,hu⟩;obtain ⟨es,c,hmap⟩:=Started.isMap HST.out;have HHAS:Hid (MapHas w4 m (.agg (u8s ks).toArray) (.agg (begV gi go).toArray)):=hhas;have HRI:Hid (Row w4 gi (hrow (wsOf (padIn ks)) (restOf (padIn ks)) ((padIn ks).length:Int)) 255):=hri;have HRO:Hid (Row w4 go (hrow (wsOf (padOut ks)) (restOf (padOut ks)) ((padOut ks).length:Int)) 255):=hro;have HLB:Hid (SlOld w4 (.slice pl (pieceOf ks info i).length cl) (pieceOf ks info i)):=SlOld.updMap HLA.out hmap hu;have HV4:Hid (SlOld w4 (.slice pi info.length ci) info):=SlOld.updMap (SlOld.mem HV.out hm) hmap hu;have hm4:=hm.updO hmap (Or.inr HMG.out) hu;clear hm hu hmap hhas hri hro;have HM4:Hid (Mem w [] w4 [(g7,u8s (outAt ks info N i),5),(g3,u8s ks,43)]):=hm4;clear hm4;have hm:=Mem.start w4;have HT4:Hid (Tab w4):=Tab.mem HT.out HM4.out (by simp))
    | ((with_reducible refine ae (some 34) (.buildSlice 56 1 #[(0,.tmp 33)]) ?_);go_must (refine bM rfl (.int .u8 0) (.int .u8 ((i:Int)+1)) aF bV rfl rfl rfl hm ?_);clear hm;intro w5 g5 hb5 hm;clear hb5;replace hm:Mem w4 [] w5 [(g5,u8s [(i:Int)+1],5)]:=hm)
    | ((with_reducible refine ae (some 35) (.buildSlice 219 3 #[(0,.tmp 31),(1,.tmp 32),(2,.tmp 34)]) ?_);go_must (refine wpl_bsl3 (.slice none 0 0) (.slice pl (pieceOf ks info i).length cl) (.slice pi info.length ci) (.slice (some ⟨g5,0,none⟩) 1 1) un_bss info_bs rfl rfl rfl rfl rfl rfl rfl hm ?_);clear hm;intro w6 g6 hb6 hm;clear hb6)
    | (go_at_call 118;refine (code_any gi go (padIn ks) (padOut ks) (fU HKB.out) (fC HKB.out) (by rw [bD];omega) g6 0 3 3 (threeV (.slice pl (pieceOf ks info i).length cl) (.slice pi info.length ci) (.slice (some ⟨g5,0,none⟩) 1 1)) (three (pieceOf ks info i) info [(i:Int)+1]) (by have:=HPL.out;rw [bP];simp [catN,three];omega) (by omega) _ (Tab.mem HT4.out hm (by simp)) (HRI.out.below' hm.below) (HRO.out.below' hm.below) (parts_ok (hm.get 0 rfl) (SlOld.mem HLB.out hm) (SlOld.mem HV4.out hm) (a8 (hm.get 1 rfl) rfl (Nat.le_refl _)) HPB.out HIB.out HBN.out)).mono ?_;rintro e w7 ⟨rfl,hb⟩;rw [←HP2.out];replace hm:=hm.call hb;clear hb)
    | ((with_reducible refine ae (some 12) (.alloc 42) ?_);refine ag _ bz hm ?_;clear hm;intro w8 g12 hm)
    | ((with_reducible refine ae none (.store 42 (.tmp 12) (.tmp 36)) ?_);refine ah 0 (u8s (pieceOf ks info (i+1))) hm rfl rfl rfl 32 bB (by simp [aa]) (by rw [aa];exact HPN.out) (ai _) ?_;clear hm;intro w9 hm))

   have HNS:Hid (∀g∈[g7,g3],∃l t,Row w4 g l t∧t≠255):=by
    intro g hg
    have h:g=g7∨g=g3:=by simpa using hg
    rcases h with rfl|rfl
    ·exact ⟨_,_,HM4.out.get 0 rfl,by decide⟩
    ·exact ⟨_,_,HM4.out.get 1 rfl,by decide⟩
   have hmA:=HM4.out.adoptAll hm
   clear hm
   replace hmA:Mem w4 [g7,g3] w9 [(g7,u8s (outAt ks info N i),5),(g3,u8s ks,43),(g12,u8s (pieceOf ks info (i+1)),42),(g6,[.slice pl (pieceOf ks info i).length cl,.slice pi info.length ci,.slice (some ⟨g5,0,none⟩) 1 1],56),(g5,u8s [(i:Int)+1],5)]:=hmA
   refine cU 4 (by kernel_rfl) (by kernel_rfl) hmA ?_
   clear hmA
   intro w10 hm
   simp only [List.take_succ_cons,List.take_zero,List.drop_succ_cons,List.drop_zero]
   still_step
   still_step
   refine wps_slo aF aQ (32 * i) (by omega) (by omega) rfl rfl (by omega) ?_
   still_step
   refine wpStill_nil ?_
   go_wp2_with (first
    | ((with_reducible refine ae (some 41) (.call {callee:=.builtin .copy,args:=#[.tmp 39,.tmp 40],argTypes:=#[56,56]}) ?_);go_must (refine dy 0 (pieceOf ks info (i+1)) (Nat.min 32 (N - 32 * i)) (u8s (outAt ks info N (i+1))) hm rfl rfl rfl _ aF aQ (a8 (hm.get 2 rfl) HPN.out (Nat.le_refl _)) rfl (by rw [HOL.out];have:Nat.min 32 (N - 32 * i)≤N - 32 * i:=Nat.min_le_right _ _;omega) HOU.out ?_);clear hm;intro w11 hm))

   have HM5:Hid (Mem w [] w11 [(g7,u8s (outAt ks info N (i+1)),5),(g3,u8s ks,43)]):=HM4.out.trans (Mem.two hm)
   have HST5:Hid (Started w11 m ks):=Started.mem HHAS.out HRI.out HRO.out hm HNS.out
   have HLA5:Hid (SlOld w11 (.slice (some ⟨g12,0,none⟩) 32 32) (pieceOf ks info (i+1))):=a8 (hm.get 2 rfl) HPN.out (Nat.le_refl _)
   clear hm
   go_roundw
   case rel=>exact ⟨i+1,by omega,by go_num,HLA5.out,HST5.out,HM5.out⟩
   case measure=>simp [intOf];omega
  ·have hti:¬((32 * i:Nat):Int)<(N:Int):=by omega
   rw [outAt_full ks info N i (by omega)] at hm
   clear hlast HST
   go_wp2_with fail
   go_ret
   exact ⟨g7,rfl,HGE.out,hm.get 0 rfl,hm.below⟩
end Go.Proofs.YtlpnafdkhoimhaaGreatDoor
namespace Go.Proofs.YtlpnafdkhoimhaaGreatDoor
open Go Go.RowKit
theorem gu:Tryz.prog.underlying 9=some .string:=Tryz.underlying9
theorem wpl_slo {P:Program} {ops:Array Oper} {rest:List Oper} {a:Act} {w:World} {dst:Option Tmp} {typ:TypeId} {pos:String} {aft:Array Edge} {Q:Exit→Act→World→Prop} {ty:TypeId} {x lo:Operand} {elem:TypeId} (hu:P.underlying ty=some (.slice elem)) (hs:(P.info? elem).map (·.size)=some 1) {g o len cap:Nat} (l o' m c:Nat) (ho:o+l=o') (hm:len - l=m) (hc:cap - l=c) {il:Int} (hl:l≤len) (hlc:l<cap) (hx:a.eval x=.slice (some ⟨g,o,none⟩) len cap)
  (hlo:a.eval lo=.int .i64 il) (hil:il=(l:Int)) (h:wpList P ops Q rest (a.put dst (.slice (some ⟨g,o',none⟩) m c)) w) :
  wpList P ops Q ({dst:=dst,op:=.slice ty x (some lo) none none,type:=typ,pos:=pos,after:=aft,guard:=none}::rest) a w:=by
 subst hil ho hm hc
 refine wpList_plain rfl fun K hK=>?_
 have hh:=hK _ _ h
 unfold Oper.wp execOp
 simp only [hx,hlo,Option.map_some,Option.map_none,run_slo (P:=P) w hu hs l hl hlc,Sem.run_bind,Sem.run_pure,Result.andThen_ok]
 exact hh
theorem held_four (w:World) :
  Calls Tryz.prog 119 #[.int .i64 4] w fun e w'=>e=.returned (.int .i64 4)∧w'=w:=by
 go_enter Tryz.func119,Tryz.ntmps119
 go_wp2
 go_ret
 exact ⟨rfl,rfl⟩
theorem longer_four (zs:List Int) (v:Value) (hzl:zs.length≤60000) (w:World) (hv:SlOld w v zs) :
  Calls Tryz.prog 120 #[v,.int .i64 4] w fun e w'=>∃g,e=.returned (.slice (some ⟨g,0,none⟩) (zs.length+4) (zs.length+4))∧w.heap.size≤g∧Row w' g (u8s (zs++[0,0,0,0])) 5∧Below w.heap.size w w':=by
 obtain ⟨p,cap,rfl,hcap⟩:=hv.len
 have hm:=Mem.start w
 have HV:Hid (SlOld w (.slice p zs.length cap) zs):=hv
 have HNE:Hid (splice (List.replicate (zs.length+4) (.int .u8 0)) 0 (u8s (zs.take zs.length))=u8s (zs++[0,0,0,0])):=by
  show _=_
  have e:List.replicate (zs.length+4) (Value.int .u8 0)=u8s (List.replicate (zs.length+4) 0):=by simp [u8s]
  rw [List.take_of_length_le (Nat.le_refl _),e,cF zs (zs.length+4),show zs.length+4 - zs.length=4 by omega]
  rfl
 have HMI:Hid (zs.length=Nat.min zs.length (zs.length+4)):=(Nat.min_eq_left (by omega)).symm
 clear hv
 go_enter Tryz.func120,Tryz.ntmps120
 go_wp2_with (first
  | ((with_reducible refine ae (some 10) (.makeSlice 56 (.tmp 9) (.tmp 9)) ?_);go_must (refine ff _ aF _ bF rfl (zs.length+4) rfl (by first|rfl|omega|go_num) rfl (by first|rfl|omega|go_num) (by omega) hm ?_);clear hm;intro w1 g hm)
  | ((with_reducible refine ae (some 13) (.call {callee:=.builtin .copy,args:=#[.tmp 11,.tmp 12],argTypes:=#[56,56]}) ?_);go_must (refine dy 0 zs zs.length (u8s (zs++[0,0,0,0])) hm rfl rfl rfl _ aF aQ (SlOld.mem HV.out hm) HMI.out (by simp) HNE.out ?_);clear hm;intro w2 hm))
 go_ret
 have hf:=hm.fresh _ (List.mem_cons_self ..)
 exact ⟨g,rfl,by simpa using hf,hm.get 0 rfl,hm.below⟩
theorem set_four (zs:List Int) (a b c d:Int):((((u8s (zs++[0,0,0,0])).set (zs.length+3) (.int .u8 d)).set (zs.length+2) (.int .u8 c)).set (zs.length+1) (.int .u8 b)).set (zs.length+0) (.int .u8 a)=u8s (zs++[a,b,c,d]):=by
 rw [bW,bW,bW,bW]
 simp [u8s,List.set_append_right]
theorem kX (g:Nat) (zs:List Int) (n:Int) (w:World) (hr:Row w g (u8s (zs++[0,0,0,0])) 5) :
  Calls Tryz.prog 121 #[.slice (some ⟨g,zs.length,none⟩) 4 4,.int .u64 n] w fun e w'=>e=.returned (.tuple #[])∧Row w' g (u8s (zs++be4 n)) 5∧Upd g w w':=by
 have hm:=Mem.enter hr
 have HLN:Hid (((u8s (zs++[0,0,0,0])).length=zs.length+4)):=by show _=_;simp [aa]
 clear hr
 go_enter Tryz.func121,Tryz.ntmps121
 go_wp2_with fail
 refine wp_loop_rounds 5 ?_
 iterate 5 (rw [rounds_succ];go_wp2_with (first
  | (((with_reducible refine ae none (.store 5 (.tmp 16) (.tmp 15)) ?_);refine bj 0 _ _ hm rfl (rfl) rfl aQ (by first|(rw [HLN.out];omega)|(simp only [List.length_set];rw [HLN.out];omega)) rfl rfl ?_;clear hm;intro w9 hm))))
 go_end0
 have hrow:=hm.get 0 rfl
 exact ⟨rfl,by have e:=set_four zs (n / 256 / 256 / 256 % 256) (n / 256 / 256 % 256) (n / 256 % 256) (n % 256);rw [show be4 n=[n / 256 / 256 / 256 % 256,n / 256 / 256 % 256,n / 256 % 256,n % 256] from rfl,←e];exact hrow,hm.toUpd⟩
theorem put_four (zs:List Int) (v:Value) (n:Int) (hzl:zs.length≤60000) (w:World) (hv:SlOld w v zs) :
  Calls Tryz.prog 91 #[v,.int .u64 n,.int .i64 4] w fun e w'=>∃g,e=.returned (.slice (some ⟨g,0,none⟩) (zs.length+4) (zs.length+4))∧w.heap.size≤g∧Row w' g (u8s (zs++be4 n)) 5∧Below w.heap.size w w':=by
 obtain ⟨p,cap,rfl,hcap⟩:=hv.len
 have hm:=Mem.start w
 have HV:Hid (SlOld w (.slice p zs.length cap) zs):=hv
 clear hv
 go_enter Tryz.func91,Tryz.ntmps91
 go_wp2_with (first
  | (go_at_call 119;refine (held_four _).mono ?_;rintro e w1 ⟨rfl,rfl⟩)
  | (go_at_call 120;refine (longer_four zs _ hzl _ HV.out).mono ?_;rintro e w2 ⟨g,rfl,hge,hr,hb⟩;have HGE:Hid _:=hge;have HR:Hid (Row w2 g (u8s (zs++[0,0,0,0])) 5):=hr;have HBL:Hid _:=hb;clear hge hr hb)
  | ((with_reducible refine ae (some 17) (.slice 56 (.tmp 14) (some (.tmp 16)) none none) ?_);go_must (refine wpl_slo aF aQ zs.length zs.length 4 4 (by omega) (by omega) (by omega) (by omega) (by omega) rfl rfl rfl ?_))
  | (go_at_call 121;refine (kX g zs n _ HR.out).mono ?_;rintro e w3 ⟨rfl,hr2,hu⟩;have HR2:Hid (Row w3 g (u8s (zs++be4 n)) 5):=hr2;have HU2:Hid (Upd g w2 w3):=hu;clear hr2 hu))
 go_ret
 exact ⟨g,rfl,HGE.out,HR2.out,gp HBL.out HU2.out HGE.out HBL.out.size⟩
def strB (s:ByteArray):List Int:=s.data.toList.map fun b=>(b.toNat:Int)
theorem bJ (s:ByteArray):(strB s).length=s.size:=by
 simp only [strB,List.length_map,Array.length_toList]
 rfl
theorem lp (s:ByteArray):Bytes (strB s):=by
 intro x hx
 obtain ⟨b,_,rfl⟩:=List.mem_map.1 hx
 have:=b.toNat_lt
 omega
theorem str_old (w:World) (e:TypeId) (s:ByteArray):SlOld (Lib.bytesWorld w e s) (.slice (some ⟨w.heap.size,0,none⟩) s.size (grownCap w s.size 0 e)) (strB s):=by
 refine ⟨_,_,by rw [bJ],by rw [bJ];exact grownCap_ge _ _ _ _,fun _=>⟨w.heap.size,0,rfl,fun j hj=>?_⟩⟩
 rw [bJ] at hj
 have hj2:j<s.data.size:=hj
 rw [Nat.zero_add,Lib.bytesWorld_cell w e s j hj]
 simp [strB,Array.getElem?_eq_getElem hj2]
theorem i8 (w:World) (e:TypeId) (s:ByteArray):Below w.heap.size w (Lib.bytesWorld w e s) :=
 ⟨rfl,rfl,rfl,by rw [Lib.bytesWorld_size];omega,fun k hk=>Lib.bytesWorld_at_old w e s k hk⟩
theorem gA (n:Int) (h0:0≤n) (h1:n<4294967296):IntKind.u64.wrap n=n:=by
 simp [IntKind.wrap,IntKind.bits,IntKind.signed]
 omega
theorem wpl_strb {P:Program} {ops:Array Oper} {rest:List Oper} {a:Act} {w w0:World} {dst:Option Tmp} {typ:TypeId} {pos:String} {aft:Array Edge} {S:List Nat} {rows:List (Nat×List Value×TypeId)} {Q:Exit→Act→World→Prop} {st bt e:TypeId} {x:Operand} (hs:P.underlying st=some .string) (hd:P.underlying bt=some (.slice e)) (he:P.underlying e=some (.int .u8)) (s:ByteArray) (hx:a.eval x=.string s) (hm:Mem w0 S w rows)
  (h:∀w' g c,Below w.heap.size w w'→Mem w0 S w' rows→SlOld w' (.slice (some ⟨g,0,none⟩) s.size c) (strB s)→wpList P ops Q rest (a.put dst (.slice (some ⟨g,0,none⟩) s.size c)) w') :
  wpList P ops Q ({dst:=dst,op:=.convert st bt x,type:=typ,pos:=pos,after:=aft,guard:=none}::rest) a w:=by
 refine wpList_plain rfl fun K hK=>?_
 have hh:=hK _ _ (h _ _ _ (i8 w e s) (hm.call (i8 w e s)) (str_old w e s))
 unfold Oper.wp execOp
 simp only [hx,Lib.run_convert_string_bytes (P:=P) w st bt e s hs hd he,Sem.run_bind,Sem.run_pure,Result.andThen_ok]
 exact hh
theorem gP (ks:List Int) (s:ByteArray) (n:Int) (hkl:ks.length=32) (hkb:Bytes ks) (hsl:s.size≤50000) (hn:0≤n∧n<4294967296) (w:World) (ht:Tab w) :
  Calls Tryz.prog 54 #[.agg (u8s ks).toArray,.string s,.int .u32 n] w fun e w'=>e=.returned (.agg (u8s (deriveOf ks (strB s) n)).toArray)∧Below w.heap.size w w':=by
 obtain ⟨hn0,hn1⟩:=hn
 have hm:=Mem.start w
 have HT:Hid _:=ht
 have HKL:Hid _:=hkl
 have HKB:Hid _:=hkb
 have HSL:Hid ((strB s).length≤50000):=by show _≤_;rw [bJ];exact hsl
 have HIB:Hid (Bytes (strB s++be4 n)):=(lp s).append (jp n)
 have HU:Hid ((u8s ks).length=32):=by show _=_;rw [aa];exact hkl
 have HDL:Hid ((u8s (deriveOf ks (strB s) n)).length=32):=by show _=_;rw [aa,bk]
 have HSZ:Hid (s.size+4=(strB s++be4 n).length):=by show _=_;rw [List.length_append,bJ,db]
 have HNE:Hid (splice (u8s (List.replicate 32 0)) 0 (u8s ((deriveOf ks (strB s) n).take 32))=u8s (deriveOf ks (strB s) n)):=by
  show _=_
  rw [List.take_of_length_le (by rw [bk];exact Nat.le_refl _)]
  exact fv _ _ (by rw [aa,aa,bk];simp)
 clear ht hkl hkb hsl
 go_enter Tryz.func54,Tryz.ntmps54
 go_wp2_with (first
  | ((with_reducible refine ae (some 3) (.box 43 (.tmp 0)) ?_);refine az (u8s ks) rfl hm ?_;clear hm;intro w1 g3 hm)
  | ((with_reducible refine ae (some 6) (.alloc 43) ?_);refine ag _ aD hm ?_;clear hm;intro w2 g6 hm)
  | ((with_reducible refine ae (some 7) (.alloc 43) ?_);refine ag _ aD hm ?_;clear hm;intro w3 g7 hm))

 refine aA ?_
 refine aZ (T:=fun W=>Mem w [] W [(g3,u8s ks,43)]) (by kernel_rfl) hm ?_
 clear hm
 intro w4 hm
 refine aT 0 (v:=.slice (some ⟨g7,0,none⟩) 32 32) rfl (by kernel_rfl) rfl (fun W _=>by go_simp) hm.tail.tail ?_
 go_simp
 refine aT 1 (v:=.agg (u8s ks).toArray) rfl (by kernel_rfl) rfl (fun W hW=>bT 0 _ (Mem.get hW 0 rfl) rfl _ aw rfl 32 aq (by rw [HU.out];omega) (by rw [List.drop_zero,List.take_of_length_le (Nat.le_of_eq HU.out)])) hm.tail.tail ?_
 go_simp
 refine aT 2 (v:=.string s) rfl (by kernel_rfl) rfl (fun W _=>by go_simp) hm.tail.tail ?_
 go_simp
 refine aT 4 (v:=.int .u32 n) rfl (by kernel_rfl) rfl (fun W _=>by go_simp) hm.tail.tail ?_
 go_simp
 refine aT 5 (v:=.int .u64 n) rfl (by kernel_rfl) rfl (fun W _=>by go_simp;exact gA n hn0 hn1) hm.tail.tail ?_
 go_simp
 refine aP 3 (by kernel_rfl) rfl rfl ?_
 intro K hK
 refine wpl_strb gu aF b7 s rfl hm ?_
 clear hm
 intro w5 g11 c11 hb5 hm hold
 have HOL:Hid (SlOld w5 (.slice (some ⟨g11,0,none⟩) s.size c11) (strB s)):=hold
 clear hb5 hold
 refine wpList_nil ?_
 refine hK _ _ hm.tail.tail ?_
 clear hK K
 refine aP 6 (by kernel_rfl) rfl rfl ?_
 intro K hK
 go_wp2_with (go_at_call 91;refine (put_four (strB s) _ n (Nat.le_trans HSL.out (by omega)) _ HOL.out).mono ?_;rintro e w6 ⟨g14,rfl,hge,hr,hb⟩;replace hm:=hm.callNew hb hr hge;clear hb hr hge)
 refine hK _ _ hm.tail.tail.tail ?_
 clear hK K
 refine aP 7 (by kernel_rfl) rfl rfl ?_
 intro K hK
 go_wp2_with (go_at_call 90;refine (expand_any ks (strB s++be4 n) _ 32 HKL.out HKB.out HIB.out (by rw [←HSZ.out];have:=HSL.out;rw [bJ] at this;omega) (by omega) _ (Tab.mem HT.out hm (by simp)) (a8 (hm.get 0 rfl) (by rw [List.length_append,db]) (Nat.le_refl _))).mono ?_;rintro e w7 ⟨g15,rfl,hge,hr,hb⟩;rw [jL] at hr;replace hm:=hm.callNew hb hr hge;clear hb hr hge)
 refine hK _ _ hm.tail.tail.tail.tail ?_
 clear hK K
 refine aP 8 (by kernel_rfl) rfl rfl ?_
 intro K hK
 refine dy 2 (deriveOf ks (strB s) n) 32 (u8s (deriveOf ks (strB s) n)) hm rfl rfl rfl _ aF aQ (a8 (hm.get 0 rfl) (bk _ _ _) (Nat.le_refl _)) rfl (by simp [aa]) HNE.out ?_
 clear hm
 intro w8 hm
 refine wpList_nil ?_
 refine hK _ _ hm.tail.tail.tail.tail ?_
 clear hK K
 refine wpAnyH_done (by kernel_rfl) ?_ _
 simp only [endsIn]
 go_wp2_with (first
  | ((with_reducible refine ae (some 17) (.load 43 (.tmp 7)) ?_);refine av 2 hm rfl rfl _ aw rfl 32 aq (HDL.out) ?_)
  | ((with_reducible refine ae none (.store 43 (.tmp 6) (.tmp 17)) ?_);refine ah 3 (u8s (deriveOf ks (strB s) n)) hm rfl rfl rfl 32 aq (by simp [aa]) (HDL.out) (ai _) ?_;clear hm;intro w9 hm))

 exact aH 3 hm rfl Tryz.results54 rfl _ aw rfl 32 aq HDL.out rfl ⟨rfl,hm.below⟩
end Go.Proofs.YtlpnafdkhoimhaaGreatDoor
