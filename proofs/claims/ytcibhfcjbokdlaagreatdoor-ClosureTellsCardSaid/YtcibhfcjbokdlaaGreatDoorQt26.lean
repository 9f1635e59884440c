import Derived.Test.YtcibhfcjbokdlaaGreatDoorQt22
import Derived.Deep.LoopGhost
import Derived.Test.YtcibhfcjbokdlaaGreatDoorQt25
set_option maxRecDepth 100000
set_option maxHeartbeats 4000000
namespace Go.Proofs.YtcibhfcjbokdlaaGreatDoor
open Go Go.RowKit Classical
theorem sames_yes {F G:Nat→Prop} (A:List Tm) (va vb:Value) (w:World) (hlen:A.length≤100000) (hc:∀x∈A,cnt x≤100000) (ha:SlT F w va A) (hb:SlT G w vb A) :
  Calls Tryz.prog 13 #[va,vb] w fun e w'=>e=.returned (.bool true)∧Below w.heap.size w w':=by
 obtain ⟨pa,ca,rfl,_⟩:=ha.len
 obtain ⟨pb,cb,rfl,_⟩:=hb.len
 obtain ⟨n,hn⟩:∃n,n=A.length:=⟨_,rfl⟩
 rw [←hn] at ha hb hlen ⊢
 have HA:Hid (SlT F w (.slice pa n ca) A):=ha
 have HB:Hid (SlT G w (.slice pb n cb) A):=hb
 have HN:Hid (∀_:Unit,n=A.length):=fun _=>hn
 have HC:Hid (∀x∈A,cnt x≤100000):=hc
 clear ha hb hn hc
 have hm:=Mem.start w
 go_enter Tryz.func13,Tryz.ntmps13
 go_wp2_with fail
 go_loopw [5] (fun vi wr=>∃i:Nat,vi=.int .i64 (i:Int)∧i≤n∧Hid (Mem w [] wr [])) (fun vi _=>n - (intOf vi).toNat)
 case atStart=>exact ⟨0,rfl,Nat.zero_le _,hm⟩
 case round =>
  clear hm
  obtain ⟨i,rfl,hin,HMM⟩:=hrel
  have hm:=HMM.out
  by_cases hlt:i<n
  ·have hki:(i:Int)<(n:Int):=by omega
   obtain ⟨b1,o1,h1⟩:=HA.out.at (by omega)
   obtain ⟨b2,o2,h2⟩:=HB.out.at (by omega)
   subst h1 h2
   obtain ⟨x,hx⟩:=aX (HN.out ()) hlt
   obtain ⟨pq,mq,cq,aq0,aq1,aq2,eq,hsq⟩:=HA.out.cells hx
   have HCq:Hid (∀W,Below w.heap.size w W→W.cell? ⟨b1,o1+i * 3,none⟩=some (.int .i64 x.k)∧W.cell? ⟨b1,o1+i * 3+1,none⟩=some (.int .i64 x.n)∧W.cell? ⟨b1,o1+i * 3+2,none⟩=some (.slice pq mq cq)):=fun W hW=>⟨(hW.cell (p:=⟨b1,_,none⟩) (block_lt_of_cell aq0)).trans aq0,(hW.cell (p:=⟨b1,_,none⟩) (block_lt_of_cell aq1)).trans aq1,(hW.cell (p:=⟨b1,_,none⟩) (block_lt_of_cell aq2)).trans aq2⟩
   have HSq:Hid (SlT _ w (.slice pq mq cq) x.l):=hsq
   obtain ⟨pr,mr,cr,ar0,ar1,ar2,er,hsr⟩:=HB.out.cells hx
   have HCr:Hid (∀W,Below w.heap.size w W→W.cell? ⟨b2,o2+i * 3,none⟩=some (.int .i64 x.k)∧W.cell? ⟨b2,o2+i * 3+1,none⟩=some (.int .i64 x.n)∧W.cell? ⟨b2,o2+i * 3+2,none⟩=some (.slice pr mr cr)):=fun W hW=>⟨(hW.cell (p:=⟨b2,_,none⟩) (block_lt_of_cell ar0)).trans ar0,(hW.cell (p:=⟨b2,_,none⟩) (block_lt_of_cell ar1)).trans ar1,(hW.cell (p:=⟨b2,_,none⟩) (block_lt_of_cell ar2)).trans ar2⟩
   have HSr:Hid (SlT _ w (.slice pr mr cr) x.l):=hsr
   have HMX:Hid (x∈A):=List.mem_of_getElem? hx
   have HCL:Hid (∀W,Below w.heap.size w W→Calls Tryz.prog 32 #[.agg (tcs x (.slice pq mq cq)).toArray,.agg (tcs x (.slice pr mr cr)).toArray] W fun e w'=>e=.returned (.bool true)∧Below W.heap.size W w'):=fun W hW=>fj x (HC.out x HMX.out) x _ _ true W (HSq.out.below hW) (HSr.out.below hW) (by simp)
   have HLT:Hid (i<n):=hlt
   clear hx aq0 aq1 aq2 eq hsq ar0 ar1 ar2 er hsr HMM
   go_wp2_with fail
   refine aq ?_
   refine ao (T:=fun W=>Mem w [] W []) (by kernel_rfl) hm ?_
   intro wc hbw hmw
   replace hm:Mem w [] wc []:=hmw
   clear hbw hmw
   refine aT 0 (v:=.slice (some ⟨b1,o1,none⟩) n ca) rfl (by kernel_rfl) rfl (fun W _=>by go_simp) hm ?_
   go_simp
   refine aT 1 (v:=.int .i64 (i:Int)) rfl (by kernel_rfl) rfl (fun W _=>by go_simp) hm ?_
   go_simp
   refine aT 2 (v:=.pointer (some ⟨b1,o1+i * 3,none⟩)) rfl (by kernel_rfl) rfl (fun W _=>ak i rfl rfl rfl HLT.out) hm ?_
   go_simp
   refine aT 3 (v:=.agg (tcs x (.slice pq mq cq)).toArray) rfl (by kernel_rfl) rfl (fun W hW=>am rfl (HCq.out W hW.below).1 (HCq.out W hW.below).2.1 (HCq.out W hW.below).2.2) hm ?_
   go_simp
   refine aT 4 (v:=.slice (some ⟨b2,o2,none⟩) n cb) rfl (by kernel_rfl) rfl (fun W _=>by go_simp) hm ?_
   go_simp
   refine aT 5 (v:=.int .i64 (i:Int)) rfl (by kernel_rfl) rfl (fun W _=>by go_simp) hm ?_
   go_simp
   refine aT 6 (v:=.pointer (some ⟨b2,o2+i * 3,none⟩)) rfl (by kernel_rfl) rfl (fun W _=>ak i rfl rfl rfl HLT.out) hm ?_
   go_simp
   refine aT 7 (v:=.agg (tcs x (.slice pr mr cr)).toArray) rfl (by kernel_rfl) rfl (fun W hW=>am rfl (HCr.out W hW.below).1 (HCr.out W hW.below).2.1 (HCr.out W hW.below).2.2) hm ?_
   go_simp
   refine aO 8 (by kernel_rfl) rfl rfl ?_
   intro K hK
   go_wp2_with (go_at_call 32;refine (HCL.out _ hm.below).mono ?_;rintro e w8 ⟨he,hb⟩;subst he;replace hm:=hm.call hb;clear hb)
   refine hK _ _ hm ?_
   clear hK K
   go_simp
   refine aT 9 (v:=.bool false) rfl (by kernel_rfl) rfl (fun W _=>by go_simp) hm ?_
   go_simp
   refine wpAnyH_done (by kernel_rfl) ?_ _
   simp only [endsIn]
   go_wp2_with fail
   go_roundw
   case rel=>exact ⟨i+1,by go_num,by omega,hm⟩
   case measure=>simp [intOf];omega
  ·obtain rfl:i=n:=by omega
   have hki:¬(i:Int)<(i:Int):=by omega
   clear HMM
   go_wp2_with fail
   go_ret
   exact ⟨rfl,hm.below⟩
open Go Go.RowKit Classical
theorem tells_walk {F:Nat→Prop} {G:Nat→Prop} (bl:List Tm) (gt:Tm) (bv s:Value) (w:World) (hY:Rdy w) (hbs:SlT F w bv bl) (hlen:bl.length≤maxLen) (hgs:SlT G w s gt.l) :
  Calls Tryz.prog 3 #[bv,.agg (tcs gt s).toArray] w fun e w'=>e=.returned (.bool true)∧Below w.heap.size w w':=by
 obtain ⟨pv,cv,rfl,hcv⟩:=hbs.len
 obtain ⟨lv,hlv⟩:∃l,l=bl.length:=⟨_,rfl⟩
 rw [←hlv] at hbs hcv ⊢
 obtain ⟨pp,cap,rfl,_⟩:=hgs.len
 obtain ⟨mm,hmm⟩:∃m,m=gt.l.length:=⟨_,rfl⟩
 rw [←hmm] at hgs ⊢
 have HY0:Hid (Rdy w):=hY
 have HBS0:Hid (SlT (fun b=>b<w.heap.size) w (.slice pv lv cv) bl):=hbs.lt
 have HGS0:Hid (SlT (fun b=>b<w.heap.size) w (.slice pp mm cap) gt.l):=hgs.lt
 have HLV:Hid (∀_:Unit,lv=bl.length):=fun _=>hlv
 have HLM:Hid (lv≤maxLen):=by show _≤_;rw [hlv];exact hlen
 have hlv9:lv≤9223372036854775807:=by have:=HLM.out;unfold maxLen at this;omega
 have tkk:Nat:=0
 have tf1:Nat:=0
 clear hY hbs hgs hmm hcv hlen hlv
 have hm:=Mem.start w
 go_enter Tryz.func3,Tryz.ntmps3
 go_wp2_with (first
  | ((with_reducible refine af (some 3) (.box 24 (.tmp 1)) ?_);go_must (refine aw (tcs gt (.slice pp mm cap)) rfl hm ?_);clear hm;intro w1 g3 hm))
 have HB1:Hid (Below w.heap.size w w1):=hm.below
 have HR3:Hid (Row w1 g3 (tcs gt (.slice pp mm cap)) 24):=hm.get 0 rfl
 have HY:Hid (Rdy w1):=HY0.out.below HB1.out
 have HBS:Hid (SlT (fun b=>b<w1.heap.size) w1 (.slice pv lv cv) bl):=(HBS0.out.below HB1.out).weak fun b hb=>Nat.lt_of_lt_of_le hb HB1.out.size
 have HGS:Hid (SlT (fun b=>b<w1.heap.size) w1 (.slice pp mm cap) gt.l):=(HGS0.out.below HB1.out).weak fun b hb=>Nat.lt_of_lt_of_le hb HB1.out.size
 clear hm HY0 HBS0 HGS0
 have hm:=Mem.start w1
 by_cases hfew:Few bl
 ·by_cases hg20:cnt gt≤20
  ·have HF2:Hid (Few [gt]):=few_one.2 hg20
   have HFW:Hid (Few bl):=hfew
   have HF1:Hid (∀W,Below w1.heap.size w1 W→Calls Tryz.prog 10 #[.slice pv lv cv] W fun e w'=>e=.returned (.bool true)∧Below W.heap.size W w'):=fun W hW=>dW bl pv lv cv W true (⟨fun _=>HFW.out,fun _=>rfl⟩) (HLV.out ()) HLM.out (HBS.out.below hW)
   have HSM:Hid (cnt gt+(bl.map cnt).sum≤380):=few_le hfew hg20
   have HBL:Hid (bl.length≤1000):=Nat.le_trans hfew.1 (by omega)
   clear hfew hg20
   go_wp2_with (first
    | (clear tkk;go_at_call 9;go_must (refine (db _ (HY.out.below hm.below)).mono ?_);rintro e wk ⟨he,hb⟩;subst he;replace hm:=hm.call hb;clear hb)
    | (clear tf1;go_at_call 10;go_must (refine (HF1.out _ hm.below).mono ?_);rintro e wf ⟨he,hb⟩;subst he;replace hm:=hm.call hb;clear hb)
    | ((with_reducible refine aC (some 11) (.load 24 (.tmp 3)) (some (3,false)) ?_);go_must (refine aa (.agg (tcs gt (.slice pp mm cap)).toArray) rfl (aB 0 (tcs gt (.slice pp mm cap)) (HR3.out.below' hm.below) rfl _ Tryz.underlying24 rfl 3 aj (Nat.le_refl _) rfl) ?_))
    | ((with_reducible refine aC (some 12) (.buildSlice 22 1 #[(0,.tmp 11)]) (some (3,false)) ?_);go_must (refine bj gt (.slice pp mm cap) rfl rfl hm ?_);clear hm;intro w15 g15 hb hg hm;have H15:Hid (SlT (fun _=>True) w15 (.slice (some ⟨g15,0,none⟩) 1 1) [gt]):=bO (hm.get 0 rfl) ((HGS.out.below hm.below).weak (fun _ _=>trivial)) trivial;clear hb hg)
    | (go_at_call 10;go_must (refine (dW [gt] (some ⟨g15,0,none⟩) 1 1 _ true (⟨fun _=>HF2.out,fun _=>rfl⟩) rfl (by unfold maxLen;omega) H15.out).mono ?_);rintro e wf2 ⟨he,hb⟩;subst he;replace hm:=hm.call hb;clear hb))
   obtain ⟨wq,hwq⟩:∃v,v=wf2:=⟨_,rfl⟩
   rw [←hwq] at hm ⊢
   have HBE:Hid (Below w1.heap.size w1 wq):=hm.below
   have HRQ:Hid (Row wq g3 (tcs gt (.slice pp mm cap)) 24):=HR3.out.below' hm.below
   have HBQ:Hid (SlT (fun b=>b<w1.heap.size) wq (.slice pv lv cv) bl):=HBS.out.below hm.below
   have HGQ:Hid (SlT (fun b=>b<w1.heap.size) wq (.slice pp mm cap) gt.l):=HGS.out.below hm.below
   clear hm hwq HR3 HBS HGS HF1 H15
   have hm:=Mem.start wq
   obtain ⟨r,hr⟩:∃r,r=decide (Kn bl gt):=⟨_,rfl⟩
   have HKN:Hid (∀W,Below wq.heap.size wq W→Calls Tryz.prog 11 #[.slice pv lv cv,.agg (tcs gt (.slice pp mm cap)).toArray] W fun e w'=>e=.returned (.bool r)∧Below W.heap.size W w'):=fun W hW=>by
    rw [hr]
    exact cO bl gt (.slice pv lv cv) (.slice pp mm cap) W (HBQ.out.below hW) (HGQ.out.below hW) (fun _=>web_le HSM.out) HBL.out
   have HKR:Hid (∀W,Below wq.heap.size wq W→Calls Tryz.prog 12 #[.slice pv lv cv,.agg (tcs gt (.slice pp mm cap)).toArray] W fun e w'=>e=.returned (.bool r)∧Below W.heap.size W w'):=fun W hW=>by
    rw [hr]
    exact b5 bl gt (.slice pv lv cv) (.slice pp mm cap) W HFW.out (HBQ.out.below hW) (HGQ.out.below hW)
   clear hr
   go_wp2_with fail
   refine aq ?_
   refine ao (T:=fun W=>Mem wq [] W []) (by kernel_rfl) hm ?_
   intro wc hbw hmw
   replace hm:Mem wq [] wc []:=hmw
   clear hbw hmw
   refine aT 0 (v:=.slice pv lv cv) rfl (by kernel_rfl) rfl (fun W _=>by go_simp) hm ?_
   go_simp
   refine aT 1 (v:=.agg (tcs gt (.slice pp mm cap)).toArray) rfl (by kernel_rfl) rfl (fun W hW=>aB 0 (tcs gt (.slice pp mm cap)) (HRQ.out.below' hW.below) rfl _ Tryz.underlying24 rfl 3 aj (Nat.le_refl _) rfl) hm ?_
   go_simp
   refine aT 3 (v:=.slice pv lv cv) rfl (by kernel_rfl) rfl (fun W _=>by go_simp) hm ?_
   go_simp
   refine aT 4 (v:=.agg (tcs gt (.slice pp mm cap)).toArray) rfl (by kernel_rfl) rfl (fun W hW=>aB 0 (tcs gt (.slice pp mm cap)) (HRQ.out.below' hW.below) rfl _ Tryz.underlying24 rfl 3 aj (Nat.le_refl _) rfl) hm ?_
   go_simp
   refine aO 2 (by kernel_rfl) rfl rfl ?_
   intro K hK
   go_wp2_with (go_at_call 11;refine (HKN.out _ hm.below).mono ?_;rintro e wk ⟨he,hb⟩;subst he;replace hm:=hm.call hb;clear hb)
   refine hK _ _ hm ?_
   clear hK K
   go_simp
   refine aO 5 (by kernel_rfl) rfl rfl ?_
   intro K hK
   go_wp2_with (go_at_call 12;refine (HKR.out _ hm.below).mono ?_;rintro e wk ⟨he,hb⟩;subst he;replace hm:=hm.call hb;clear hb)
   refine hK _ _ hm ?_
   clear hK K
   go_simp
   refine aT 6 (v:=.bool true) rfl (by kernel_rfl) rfl (fun W _=>by go_simp) hm ?_
   go_simp
   refine aT 7 (v:=.bool true) rfl (by kernel_rfl) rfl (fun W _=>by go_simp) hm ?_
   go_simp
   refine aG 8 (v:=.slice pv lv cv) rfl (by kernel_rfl) rfl (fun W _=>by go_simp) hm ?_
   go_simp
   refine aG 10 (v:=.slice pv lv cv) rfl (by kernel_rfl) rfl (fun W _=>by go_simp) hm ?_
   go_simp
   refine aO 9 (by kernel_rfl) rfl rfl ?_
   intro K hK
   go_wp2_with (go_at_call 14;refine (all_any bl (.slice pv lv cv) _ (HBQ.out.below hm.below) (few_web HFW.out) HBL.out).mono ?_;rintro e w25 ⟨v25,he,L1,h1,hs1,hb⟩;subst he;have HL1:Hid (AllIs bl L1∧SlT (FN _ w25.heap.size) w25 v25 L1):=⟨h1,hs1⟩;replace hm:=hm.call hb;clear hb h1 hs1)
   refine hK _ _ hm ?_
   clear hK K
   go_simp
   refine aO 11 (by kernel_rfl) rfl rfl ?_
   intro K hK
   go_wp2_with (go_at_call 15;refine (allR_any bl (.slice pv lv cv) _ HFW.out (HBQ.out.below hm.below)).mono ?_;rintro e w27 ⟨v27,L2,he,h2,hs2,hb⟩;subst he;have HLE:Hid (L2=L1):=sorted_uniq (fun x=>(h2.1 x).trans (HL1.out.1.1 x).symm) h2.2 HL1.out.1.2;have HL2:Hid (SlT (FN _ w25.heap.size) w27 v25 L1∧SlT (fun b=>b<w27.heap.size) w27 v27 L1):=⟨HL1.out.2.below hb,(by rw [←HLE.out];exact hs2)⟩;replace hm:=hm.call hb;clear hb h2 hs2)
   refine hK _ _ hm ?_
   clear hK K
   go_simp
   refine aO 12 (by kernel_rfl) rfl rfl ?_
   intro K hK
   go_wp2_with (go_at_call 13;refine (sames_yes L1 v25 v27 _ (by have h9:=all_len HL1.out.1;have h8:=few_web HFW.out;omega) (fun x hx=>Nat.le_trans (az.1 (d7 bl x ((HL1.out.1.1 x).1 hx).1)).1 (by omega)) HL2.out.1 HL2.out.2).mono ?_;rintro e w28 ⟨he,hb⟩;subst he;replace hm:=hm.call hb;clear hb)
   refine hK _ _ hm ?_
   clear hK K
   go_simp
   refine aT 13 (v:=.bool true) rfl (by kernel_rfl) rfl (fun W _=>by go_simp) hm ?_
   go_simp
   refine aT 14 (v:=.bool true) rfl (by kernel_rfl) rfl (fun W _=>by go_simp) hm ?_
   go_simp
   refine aG 15 (v:=.slice pv lv cv) rfl (by kernel_rfl) rfl (fun W _=>by go_simp) hm ?_
   go_simp
   refine aG 16 (v:=.agg (tcs gt (.slice pp mm cap)).toArray) rfl (by kernel_rfl) rfl (fun W hW=>aB 0 (tcs gt (.slice pp mm cap)) (HRQ.out.below' hW.below) rfl _ Tryz.underlying24 rfl 3 aj (Nat.le_refl _) rfl) hm ?_
   go_simp
   refine aG 18 (v:=.slice pv lv cv) rfl (by kernel_rfl) rfl (fun W _=>by go_simp) hm ?_
   go_simp
   refine aG 19 (v:=.agg (tcs gt (.slice pp mm cap)).toArray) rfl (by kernel_rfl) rfl (fun W hW=>aB 0 (tcs gt (.slice pp mm cap)) (HRQ.out.below' hW.below) rfl _ Tryz.underlying24 rfl 3 aj (Nat.le_refl _) rfl) hm ?_
   go_simp
   refine aO 17 (by kernel_rfl) rfl rfl ?_
   intro K hK
   go_wp2_with (go_at_call 16;refine (min_any bl gt (.slice pv lv cv) (.slice pp mm cap) _ (HBQ.out.below hm.below) (HGQ.out.below hm.below) (fun _=>web_le HSM.out) HBL.out).mono ?_;rintro e w33 ⟨v33,he,hs3,hb⟩;subst he;have HM1:Hid (SlT (FN _ w33.heap.size) w33 v33 (minT bl gt)):=hs3;replace hm:=hm.call hb;clear hb hs3)
   refine hK _ _ hm ?_
   clear hK K
   go_simp
   refine aO 20 (by kernel_rfl) rfl rfl ?_
   intro K hK
   go_wp2_with (go_at_call 17;refine (minR_any bl gt (.slice pv lv cv) (.slice pp mm cap) _ HFW.out (HBQ.out.below hm.below) (HGQ.out.below hm.below)).mono ?_;rintro e w36 ⟨v36,he,hs4,hb⟩;subst he;have HM2:Hid (SlT (FN _ w33.heap.size) w36 v33 (minT bl gt)∧SlT (fun b=>b<w36.heap.size) w36 v36 (minT bl gt)):=⟨HM1.out.below hb,hs4⟩;replace hm:=hm.call hb;clear hb hs4)
   refine hK _ _ hm ?_
   clear hK K
   go_simp
   refine aO 21 (by kernel_rfl) rfl rfl ?_
   intro K hK
   go_wp2_with (go_at_call 13;refine (sames_yes (minT bl gt) v33 v36 _ (Nat.le_trans (min_len bl gt) (Nat.le_trans HFW.out.1 (by omega))) (fun x hx=>Nat.le_trans (az.1 (min_sub hx).2).1 (by omega)) HM2.out.1 HM2.out.2).mono ?_;rintro e w37 ⟨he,hb⟩;subst he;replace hm:=hm.call hb;clear hb)
   refine hK _ _ hm ?_
   clear hK K
   go_simp
   refine aT 22 (v:=.bool true) rfl (by kernel_rfl) rfl (fun W _=>by go_simp) hm ?_
   go_simp
   refine aT 23 (v:=.bool true) rfl (by kernel_rfl) rfl (fun W _=>by go_simp) hm ?_
   go_simp
   refine wpAnyH_done (by kernel_rfl) ?_ _
   simp only [endsIn]
   go_wp2_with fail
   go_ret
   exact ⟨rfl,HB1.out.trans ((HBE.out.trans (hm.below.mono HBE.out.size)).mono HB1.out.size)⟩
  ·have HF2:Hid (¬Few [gt]):=fun h=>hg20 (few_one.1 h)
   have HF1:Hid (∀W,Below w1.heap.size w1 W→Calls Tryz.prog 10 #[.slice pv lv cv] W fun e w'=>e=.returned (.bool true)∧Below W.heap.size W w'):=fun W hW=>dW bl pv lv cv W true (⟨fun _=>hfew,fun _=>rfl⟩) (HLV.out ()) HLM.out (HBS.out.below hW)
   clear hfew hg20
   go_wp2_with (first
    | (clear tkk;go_at_call 9;go_must (refine (db _ (HY.out.below hm.below)).mono ?_);rintro e wk ⟨he,hb⟩;subst he;replace hm:=hm.call hb;clear hb)
    | (clear tf1;go_at_call 10;go_must (refine (HF1.out _ hm.below).mono ?_);rintro e wf ⟨he,hb⟩;subst he;replace hm:=hm.call hb;clear hb)
    | ((with_reducible refine aC (some 11) (.load 24 (.tmp 3)) (some (3,false)) ?_);go_must (refine aa (.agg (tcs gt (.slice pp mm cap)).toArray) rfl (aB 0 (tcs gt (.slice pp mm cap)) (HR3.out.below' hm.below) rfl _ Tryz.underlying24 rfl 3 aj (Nat.le_refl _) rfl) ?_))
    | ((with_reducible refine aC (some 12) (.buildSlice 22 1 #[(0,.tmp 11)]) (some (3,false)) ?_);go_must (refine bj gt (.slice pp mm cap) rfl rfl hm ?_);clear hm;intro w15 g15 hb hg hm;have H15:Hid (SlT (fun _=>True) w15 (.slice (some ⟨g15,0,none⟩) 1 1) [gt]):=bO (hm.get 0 rfl) ((HGS.out.below hm.below).weak (fun _ _=>trivial)) trivial;clear hb hg)
    | (go_at_call 10;go_must (refine (dW [gt] (some ⟨g15,0,none⟩) 1 1 _ false (⟨(fun h=>by cases h),fun h=>absurd h HF2.out⟩) rfl (by unfold maxLen;omega) H15.out).mono ?_);rintro e wf2 ⟨he,hb⟩;subst he;replace hm:=hm.call hb;clear hb))
   go_ret
   exact ⟨rfl,HB1.out.trans (hm.below.mono HB1.out.size)⟩
 ·have HF1:Hid (∀W,Below w1.heap.size w1 W→Calls Tryz.prog 10 #[.slice pv lv cv] W fun e w'=>e=.returned (.bool false)∧Below W.heap.size W w'):=fun W hW=>dW bl pv lv cv W false (⟨(fun h=>by cases h),fun h=>absurd h hfew⟩) (HLV.out ()) HLM.out (HBS.out.below hW)
  clear hfew
  go_wp2_with (first
   | (clear tkk;go_at_call 9;go_must (refine (db _ (HY.out.below hm.below)).mono ?_);rintro e wk ⟨he,hb⟩;subst he;replace hm:=hm.call hb;clear hb)
   | (clear tf1;go_at_call 10;go_must (refine (HF1.out _ hm.below).mono ?_);rintro e wf ⟨he,hb⟩;subst he;replace hm:=hm.call hb;clear hb))
  go_ret
  exact ⟨rfl,HB1.out.trans (hm.below.mono HB1.out.size)⟩
end Go.Proofs.YtcibhfcjbokdlaaGreatDoor
