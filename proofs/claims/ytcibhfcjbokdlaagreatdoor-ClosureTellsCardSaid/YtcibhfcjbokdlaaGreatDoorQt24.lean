import Derived.Test.YtcibhfcjbokdlaaGreatDoorQt23
import Derived.Test.YtcibhfcjbokdlaaGreatDoorQt22
set_option maxRecDepth 100000
set_option maxHeartbeats 4000000
namespace Go.Proofs.YtcibhfcjbokdlaaGreatDoor
open Go Go.RowKit Classical
theorem knowsR_t {F H:Nat→Prop} (bl:List Tm) (gt:Tm) (bv s:Value) (w:World) (hf:Few bl) (hbs:SlT F w bv bl) (hgs:SlT H w s gt.l) (hi:isT gt=true) (hk:decide (Der (inB bl) gt)=true) :
  Calls Tryz.prog 12 #[bv,.agg (tcs gt s).toArray] w fun e w'=>e=.returned (.bool true)∧Below w.heap.size w w':=by
 obtain ⟨pp,cap,rfl,_⟩:=hgs.len
 obtain ⟨mm,hmm⟩:∃m,m=gt.l.length:=⟨_,rfl⟩
 rw [←hmm] at hgs ⊢
 obtain ⟨pv,cv,rfl,_⟩:=hbs.len
 obtain ⟨lv,hlv⟩:∃l,l=bl.length:=⟨_,rfl⟩
 rw [←hlv] at hbs ⊢
 have HFW:Hid (Few bl):=hf
 have HBS:Hid (SlT F w (.slice pv lv cv) bl):=hbs
 have HGS:Hid (SlT H w (.slice pp mm cap) gt.l):=hgs
 have HIS:Hid (∀W,Below w.heap.size w W→Calls Tryz.prog 19 #[.agg (tcs gt (.slice pp mm cap)).toArray] W fun e w'=>e=.returned (.bool true)∧Below W.heap.size W w'):=fun W hW=>by have h9:=bY gt _ W (HGS.out.below hW);rw [hi] at h9;exact h9
 have HI:Hid (isT gt=true):=hi
 have HK:Hid (decide (Der (inB bl) gt)=true):=hk
 clear hk
 clear hf hbs hgs hi hmm hlv
 have hm:=Mem.start w
 go_enter Tryz.func12,Tryz.ntmps12
 go_wp2_with (first
  | ((with_reducible refine af (some 3) (.box 24 (.tmp 1)) ?_);go_must (refine aw (tcs gt (.slice pp mm cap)) rfl hm ?_);clear hm;intro w1 g3 hm))
 refine aq ?_
 refine ao (T:=fun W=>Mem w [] W [(g3,tcs gt (.slice pp mm cap),24)]) (by kernel_rfl) hm ?_
 intro wc hbw hmw
 replace hm:Mem w [] wc [(g3,tcs gt (.slice pp mm cap),24)]:=hmw
 clear hbw hmw
 refine aT 0 (v:=.agg (tcs gt (.slice pp mm cap)).toArray) rfl (by kernel_rfl) rfl (fun W hW=>aB 0 (tcs gt (.slice pp mm cap)) (Mem.get hW 0 rfl) rfl _ Tryz.underlying24 rfl 3 aj (Nat.le_refl _) rfl) hm ?_
 go_simp
 refine aO 1 (by kernel_rfl) rfl rfl ?_
 intro K hK
 go_wp2_with (go_at_call 19;refine (HIS.out _ hm.below).mono ?_;rintro e wi ⟨he,hb⟩;subst he;replace hm:=hm.call hb;clear hb)
 refine hK _ _ hm ?_
 clear hK K
 go_simp
 refine aT 2 (v:=.bool true) rfl (by kernel_rfl) rfl (fun W _=>by go_simp) hm ?_
 go_simp
 refine aG 3 (v:=.slice pv lv cv) rfl (by kernel_rfl) rfl (fun W _=>by go_simp) hm ?_
 go_simp
 refine aG 5 (v:=.agg (tcs gt (.slice pp mm cap)).toArray) rfl (by kernel_rfl) rfl (fun W hW=>aB 0 (tcs gt (.slice pp mm cap)) (Mem.get hW 0 rfl) rfl _ Tryz.underlying24 rfl 3 aj (Nat.le_refl _) rfl) hm ?_
 go_simp
 refine aO 4 (by kernel_rfl) rfl rfl ?_
 intro K hK
 go_wp2_with (go_at_call 31;refine (eo bl _ _ HFW.out (HBS.out.below hm.below)).mono ?_;rintro e wt ⟨vt,Kt,he,hT,hI,hL,hs,hb⟩;obtain ⟨pk,ck,hvk,hck⟩:=hs.len;obtain ⟨nk,hnk⟩:∃l,l=Kt.length:=⟨_,rfl⟩;rw [←hnk] at hvk;subst hvk;subst he;have HT:Hid (Taken bl Kt∧(∀x∈Kt,isT x=true)∧Kt.length≤380):=⟨hT,hI,hL⟩;have HNK:Hid (∀_:Unit,nk=Kt.length):=fun _=>hnk;have HKS:Hid (SlT (fun b=>b<wt.heap.size) wt (.slice pk nk ck) Kt):=hs;replace hm:=hm.call hb;clear hb hT hI hL hs hnk hck)
 refine hK _ _ hm ?_
 clear hK K
 go_simp
 refine aO 6 (by kernel_rfl) rfl rfl ?_
 intro K hK
 go_wp2_with (go_at_call 30;refine (dy Kt pk nk ck (HNK.out ()) (by have h9:=HT.out.2.2;have h8:=HNK.out ();omega) (fun z hz=>Nat.le_trans (az.1 (HT.out.2.1 z hz)).1 (by omega)) gt (.slice pp mm cap) _ true ⟨fun _=>(HT.out.1.iff _).2 (of_decide_eq_true HK.out),fun _=>rfl⟩ (by have h9:=(az.1 HI.out).2;rw [bg (aS h9)];unfold kn;split<;>(try split)<;>omega) (fun z hz=>aM (az.1 HI.out).2 hz) HKS.out (HGS.out.below hm.below)).mono ?_;rintro e wb ⟨he,hb⟩;subst he;replace hm:=hm.call hb;clear hb)
 refine hK _ _ hm ?_
 clear hK K
 go_simp
 refine aT 7 (v:=.bool true) rfl (by kernel_rfl) rfl (fun W _=>by go_simp) hm ?_
 go_simp
 refine aT 8 (v:=.bool true) rfl (by kernel_rfl) rfl (fun W _=>by go_simp) hm ?_
 go_simp
 refine wpAnyH_done (by kernel_rfl) ?_ _
 simp only [endsIn]
 go_wp2_with fail
 go_ret
 exact ⟨rfl,hm.below⟩
theorem knowsR_f {F H:Nat→Prop} (bl:List Tm) (gt:Tm) (bv s:Value) (w:World) (hf:Few bl) (hbs:SlT F w bv bl) (hgs:SlT H w s gt.l) (hi:isT gt=true) (hk:decide (Der (inB bl) gt)=false) :
  Calls Tryz.prog 12 #[bv,.agg (tcs gt s).toArray] w fun e w'=>e=.returned (.bool false)∧Below w.heap.size w w':=by
 obtain ⟨pp,cap,rfl,_⟩:=hgs.len
 obtain ⟨mm,hmm⟩:∃m,m=gt.l.length:=⟨_,rfl⟩
 rw [←hmm] at hgs ⊢
 obtain ⟨pv,cv,rfl,_⟩:=hbs.len
 obtain ⟨lv,hlv⟩:∃l,l=bl.length:=⟨_,rfl⟩
 rw [←hlv] at hbs ⊢
 have HFW:Hid (Few bl):=hf
 have HBS:Hid (SlT F w (.slice pv lv cv) bl):=hbs
 have HGS:Hid (SlT H w (.slice pp mm cap) gt.l):=hgs
 have HIS:Hid (∀W,Below w.heap.size w W→Calls Tryz.prog 19 #[.agg (tcs gt (.slice pp mm cap)).toArray] W fun e w'=>e=.returned (.bool true)∧Below W.heap.size W w'):=fun W hW=>by have h9:=bY gt _ W (HGS.out.below hW);rw [hi] at h9;exact h9
 have HI:Hid (isT gt=true):=hi
 have HK:Hid (decide (Der (inB bl) gt)=false):=hk
 clear hk
 clear hf hbs hgs hi hmm hlv
 have hm:=Mem.start w
 go_enter Tryz.func12,Tryz.ntmps12
 go_wp2_with (first
  | ((with_reducible refine af (some 3) (.box 24 (.tmp 1)) ?_);go_must (refine aw (tcs gt (.slice pp mm cap)) rfl hm ?_);clear hm;intro w1 g3 hm))
 refine aq ?_
 refine ao (T:=fun W=>Mem w [] W [(g3,tcs gt (.slice pp mm cap),24)]) (by kernel_rfl) hm ?_
 intro wc hbw hmw
 replace hm:Mem w [] wc [(g3,tcs gt (.slice pp mm cap),24)]:=hmw
 clear hbw hmw
 refine aT 0 (v:=.agg (tcs gt (.slice pp mm cap)).toArray) rfl (by kernel_rfl) rfl (fun W hW=>aB 0 (tcs gt (.slice pp mm cap)) (Mem.get hW 0 rfl) rfl _ Tryz.underlying24 rfl 3 aj (Nat.le_refl _) rfl) hm ?_
 go_simp
 refine aO 1 (by kernel_rfl) rfl rfl ?_
 intro K hK
 go_wp2_with (go_at_call 19;refine (HIS.out _ hm.below).mono ?_;rintro e wi ⟨he,hb⟩;subst he;replace hm:=hm.call hb;clear hb)
 refine hK _ _ hm ?_
 clear hK K
 go_simp
 refine aT 2 (v:=.bool true) rfl (by kernel_rfl) rfl (fun W _=>by go_simp) hm ?_
 go_simp
 refine aG 3 (v:=.slice pv lv cv) rfl (by kernel_rfl) rfl (fun W _=>by go_simp) hm ?_
 go_simp
 refine aG 5 (v:=.agg (tcs gt (.slice pp mm cap)).toArray) rfl (by kernel_rfl) rfl (fun W hW=>aB 0 (tcs gt (.slice pp mm cap)) (Mem.get hW 0 rfl) rfl _ Tryz.underlying24 rfl 3 aj (Nat.le_refl _) rfl) hm ?_
 go_simp
 refine aO 4 (by kernel_rfl) rfl rfl ?_
 intro K hK
 go_wp2_with (go_at_call 31;refine (eo bl _ _ HFW.out (HBS.out.below hm.below)).mono ?_;rintro e wt ⟨vt,Kt,he,hT,hI,hL,hs,hb⟩;obtain ⟨pk,ck,hvk,hck⟩:=hs.len;obtain ⟨nk,hnk⟩:∃l,l=Kt.length:=⟨_,rfl⟩;rw [←hnk] at hvk;subst hvk;subst he;have HT:Hid (Taken bl Kt∧(∀x∈Kt,isT x=true)∧Kt.length≤380):=⟨hT,hI,hL⟩;have HNK:Hid (∀_:Unit,nk=Kt.length):=fun _=>hnk;have HKS:Hid (SlT (fun b=>b<wt.heap.size) wt (.slice pk nk ck) Kt):=hs;replace hm:=hm.call hb;clear hb hT hI hL hs hnk hck)
 refine hK _ _ hm ?_
 clear hK K
 go_simp
 refine aO 6 (by kernel_rfl) rfl rfl ?_
 intro K hK
 go_wp2_with (go_at_call 30;refine (dy Kt pk nk ck (HNK.out ()) (by have h9:=HT.out.2.2;have h8:=HNK.out ();omega) (fun z hz=>Nat.le_trans (az.1 (HT.out.2.1 z hz)).1 (by omega)) gt (.slice pp mm cap) _ false ⟨(fun h=>by cases h),fun h=>absurd ((HT.out.1.iff _).1 h) (of_decide_eq_false HK.out)⟩ (by have h9:=(az.1 HI.out).2;rw [bg (aS h9)];unfold kn;split<;>(try split)<;>omega) (fun z hz=>aM (az.1 HI.out).2 hz) HKS.out (HGS.out.below hm.below)).mono ?_;rintro e wb ⟨he,hb⟩;subst he;replace hm:=hm.call hb;clear hb)
 refine hK _ _ hm ?_
 clear hK K
 go_simp
 refine aT 7 (v:=.bool false) rfl (by kernel_rfl) rfl (fun W _=>by go_simp) hm ?_
 go_simp
 refine aT 8 (v:=.bool false) rfl (by kernel_rfl) rfl (fun W _=>by go_simp) hm ?_
 go_simp
 refine wpAnyH_done (by kernel_rfl) ?_ _
 simp only [endsIn]
 go_wp2_with fail
 go_ret
 exact ⟨rfl,hm.below⟩
theorem knowsR_n {F H:Nat→Prop} (bl:List Tm) (gt:Tm) (bv s:Value) (w:World) (hf:Few bl) (hbs:SlT F w bv bl) (hgs:SlT H w s gt.l) (hi:isT gt=false) :
  Calls Tryz.prog 12 #[bv,.agg (tcs gt s).toArray] w fun e w'=>e=.returned (.bool false)∧Below w.heap.size w w':=by
 obtain ⟨pp,cap,rfl,_⟩:=hgs.len
 obtain ⟨mm,hmm⟩:∃m,m=gt.l.length:=⟨_,rfl⟩
 rw [←hmm] at hgs ⊢
 obtain ⟨pv,cv,rfl,_⟩:=hbs.len
 obtain ⟨lv,hlv⟩:∃l,l=bl.length:=⟨_,rfl⟩
 rw [←hlv] at hbs ⊢
 have HFW:Hid (Few bl):=hf
 have HBS:Hid (SlT F w (.slice pv lv cv) bl):=hbs
 have HGS:Hid (SlT H w (.slice pp mm cap) gt.l):=hgs
 have HIS:Hid (∀W,Below w.heap.size w W→Calls Tryz.prog 19 #[.agg (tcs gt (.slice pp mm cap)).toArray] W fun e w'=>e=.returned (.bool false)∧Below W.heap.size W w'):=fun W hW=>by have h9:=bY gt _ W (HGS.out.below hW);rw [hi] at h9;exact h9
 have HI:Hid (isT gt=false):=hi
 clear hf hbs hgs hi hmm hlv
 have hm:=Mem.start w
 go_enter Tryz.func12,Tryz.ntmps12
 go_wp2_with (first
  | ((with_reducible refine af (some 3) (.box 24 (.tmp 1)) ?_);go_must (refine aw (tcs gt (.slice pp mm cap)) rfl hm ?_);clear hm;intro w1 g3 hm))
 refine aq ?_
 refine ao (T:=fun W=>Mem w [] W [(g3,tcs gt (.slice pp mm cap),24)]) (by kernel_rfl) hm ?_
 intro wc hbw hmw
 replace hm:Mem w [] wc [(g3,tcs gt (.slice pp mm cap),24)]:=hmw
 clear hbw hmw
 refine aT 0 (v:=.agg (tcs gt (.slice pp mm cap)).toArray) rfl (by kernel_rfl) rfl (fun W hW=>aB 0 (tcs gt (.slice pp mm cap)) (Mem.get hW 0 rfl) rfl _ Tryz.underlying24 rfl 3 aj (Nat.le_refl _) rfl) hm ?_
 go_simp
 refine aO 1 (by kernel_rfl) rfl rfl ?_
 intro K hK
 go_wp2_with (go_at_call 19;refine (HIS.out _ hm.below).mono ?_;rintro e wi ⟨he,hb⟩;subst he;replace hm:=hm.call hb;clear hb)
 refine hK _ _ hm ?_
 clear hK K
 go_simp
 refine aT 2 (v:=.bool false) rfl (by kernel_rfl) rfl (fun W _=>by go_simp) hm ?_
 go_simp
 refine ae 3 rfl (by kernel_rfl) (by kernel_rfl) (by kernel_rfl) rfl hm ?_
 go_simp
 refine ae 4 rfl (by kernel_rfl) (by kernel_rfl) (by kernel_rfl) rfl hm ?_
 go_simp
 refine ae 5 rfl (by kernel_rfl) (by kernel_rfl) (by kernel_rfl) rfl hm ?_
 go_simp
 refine ae 6 rfl (by kernel_rfl) (by kernel_rfl) (by kernel_rfl) rfl hm ?_
 go_simp
 refine aT 7 (v:=.bool false) rfl (by kernel_rfl) rfl (fun W _=>by go_simp) hm ?_
 go_simp
 refine aT 8 (v:=.bool false) rfl (by kernel_rfl) rfl (fun W _=>by go_simp) hm ?_
 go_simp
 refine wpAnyH_done (by kernel_rfl) ?_ _
 simp only [endsIn]
 go_wp2_with fail
 go_ret
 exact ⟨rfl,hm.below⟩
theorem b5 {F H:Nat→Prop} (bl:List Tm) (gt:Tm) (bv s:Value) (w:World) (hf:Few bl) (hbs:SlT F w bv bl) (hgs:SlT H w s gt.l) :
  Calls Tryz.prog 12 #[bv,.agg (tcs gt s).toArray] w fun e w'=>e=.returned (.bool (decide (Kn bl gt)))∧Below w.heap.size w w':=by
 cases hi:isT gt with
 | false =>
  have e:decide (Kn bl gt)=false:=decide_eq_false fun h=>by rw [h.1] at hi;cases hi
  rw [e]
  exact knowsR_n bl gt bv s w hf hbs hgs hi
 | true =>
  have e:decide (Kn bl gt)=decide (Der (inB bl) gt):=decide_eq_decide.2 ⟨fun h=>h.2,fun h=>⟨hi,h⟩⟩
  rw [e]
  cases hk:decide (Der (inB bl) gt) with
  | true=>exact knowsR_t bl gt bv s w hf hbs hgs hi hk
  | false=>exact knowsR_f bl gt bv s w hf hbs hgs hi hk
open Go Go.RowKit Classical
theorem ew {l:List Tm} {i:Nat} {x:Tm} (hx:l[i]?=some x):(l.take (i+1)).filter isT=(l.take i).filter isT++if isT x=true then [x] else []:=by
 rw [List.take_add_one,hx,Option.toList_some,List.filter_append]
 congr 1
 rw [List.filter_cons]
 split<;>rfl
theorem few_filter {l:List Tm} (h:Few l):Few (l.filter isT):=eO h (fun _ ht=>(List.mem_filter.1 ht).1) (Nat.le_trans (List.length_filter_le _ _) h.1)
theorem wrapz9 {x:Int} (h0 : -10≤x) (h1:x≤1000):IntKind.i64.wrap x=x:=by
 simp [IntKind.wrap,IntKind.bits,IntKind.signed]
 split<;>omega
theorem kn_filter (l:List Tm) (t:Tm):Kn (l.filter isT) t↔Kn l t:=by unfold Kn;rw [inB_filter]
theorem minR_any {F H:Nat→Prop} (bl:List Tm) (gt:Tm) (bv s:Value) (w:World) (hf:Few bl) (hbs:SlT F w bv bl) (hgs:SlT H w s gt.l) :
  Calls Tryz.prog 17 #[bv,.agg (tcs gt s).toArray] w fun e w'=>∃v,e=.returned v∧SlT (fun b=>b<w'.heap.size) w' v (minT bl gt)∧Below w.heap.size w w':=by
 obtain ⟨pp,cap,rfl,_⟩:=hgs.len
 obtain ⟨mm,hmm⟩:∃m,m=gt.l.length:=⟨_,rfl⟩
 rw [←hmm] at hgs ⊢
 obtain ⟨pv,cv,rfl,_⟩:=hbs.len
 obtain ⟨lv,hlv⟩:∃l,l=bl.length:=⟨_,rfl⟩
 rw [←hlv] at hbs ⊢
 have HFW:Hid (Few bl):=hf
 have HBS:Hid (SlT (fun b=>b<w.heap.size) w (.slice pv lv cv) bl):=hbs.lt
 have HGS:Hid (SlT (fun b=>b<w.heap.size) w (.slice pp mm cap) gt.l):=hgs.lt
 have HLV:Hid (∀_:Unit,lv=bl.length):=fun _=>hlv
 have hlv10:lv≤10:=by rw [hlv];exact hf.1
 clear hf hbs hgs hmm hlv
 have hm:=Mem.start w
 go_enter Tryz.func17,Tryz.ntmps17
 go_wp2_with (first
  | ((with_reducible refine af (some 3) (.box 24 (.tmp 1)) ?_);go_must (refine aw (tcs gt (.slice pp mm cap)) rfl hm ?_);clear hm;intro w1 g3 hm))
 go_loopw [6,5] (fun vi vl wr=>∃i:Nat,vi=.int .i64 (i:Int)∧i≤lv∧Hid (OT w.heap.size wr vl ((bl.take i).filter isT))∧Hid (some g3≠vl.ownBlock∧g3<wr.heap.size)∧Hid (Mem w [] wr [(g3,tcs gt (.slice pp mm cap),24)])) (fun vi _ _=>lv - (intOf vi).toNat)
 case atStart=>exact ⟨0,rfl,Nat.zero_le _,OT.nil,⟨(fun h9=>by cases h9),(hm.get 0 rfl).lt⟩,hm⟩
 case round =>
  clear hm
  obtain ⟨i,rfl,hil,HO,HG,HMM⟩:=hrel
  have hm:=HMM.out
  obtain ⟨pk,ck,hvk,hck⟩:=HO.out.len
  obtain ⟨nk,hnk⟩:∃l,l=((bl.take i).filter isT).length:=⟨_,rfl⟩
  rw [←hnk] at hvk hck
  subst hvk
  have HNK:Hid (∀_:Unit,nk=((bl.take i).filter isT).length):=fun _=>hnk
  have hnk4:nk≤10:=by rw [hnk];exact Nat.le_trans (List.length_filter_le _ _) (by rw [List.length_take];omega)
  have HCK:Hid (nk≤ck):=hck
  clear hck hnk
  by_cases hlt:i<lv
  ·have hki:(i:Int)<(lv:Int):=by omega
   have hsw:=HBS.out.below hm.below
   obtain ⟨bb,ob,rfl⟩:=HBS.out.at (by omega)
   obtain ⟨x,hx⟩:=aX (HLV.out ()) hlt
   obtain ⟨px,mx,cx,a0,a1,a2,ex,hsx⟩:=HBS.out.cells hx
   have HC:Hid (∀W,Below w.heap.size w W→W.cell? ⟨bb,ob+i * 3,none⟩=some (.int .i64 x.k)∧W.cell? ⟨bb,ob+i * 3+1,none⟩=some (.int .i64 x.n)∧W.cell? ⟨bb,ob+i * 3+2,none⟩=some (.slice px mx cx)):=fun W hW=>⟨(hW.cell (p:=⟨bb,_,none⟩) (block_lt_of_cell a0)).trans a0,(hW.cell (p:=⟨bb,_,none⟩) (block_lt_of_cell a1)).trans a1,(hW.cell (p:=⟨bb,_,none⟩) (block_lt_of_cell a2)).trans a2⟩
   have HXS:Hid (SlT (fun b=>b<w.heap.size) w (.slice px mx cx) x.l):=hsx
   have HSN:=ew hx
   have HBR:Hid (Below wr.heap.size wr wr):=Below.refl _ _
   clear hsw hx a0 a1 a2 ex hsx HMM
   cases hix:isT x with
   | false =>
    have HIS:Hid (∀W,Below w.heap.size w W→Calls Tryz.prog 19 #[.agg (tcs x (.slice px mx cx)).toArray] W fun e w'=>e=.returned (.bool false)∧Below W.heap.size W w'):=fun W hW=>by have h9:=bY x _ W (HXS.out.below hW);rw [hix] at h9;exact h9
    have HSN2:Hid ((bl.take (i+1)).filter isT=(bl.take i).filter isT):=by show _=_;rw [HSN,if_neg (by rw [hix];simp),List.append_nil]
    clear hix HSN
    go_wp2_with (first
     | ((with_reducible refine af (some 17) (.indexAddr 22 (.tmp 15) (.tmp 16)) ?_);go_must (refine aa (.pointer (some ⟨bb,ob+i * 3,none⟩)) rfl (ak i rfl rfl rfl hlt) ?_))
     | ((with_reducible refine af (some 18) (.load 24 (.tmp 17)) ?_);go_must (refine aa (.agg (tcs x (.slice px mx cx)).toArray) rfl (am rfl (HC.out _ hm.below).1 (HC.out _ hm.below).2.1 (HC.out _ hm.below).2.2) ?_))
     | (go_at_call 19;go_must (refine (HIS.out _ hm.below).mono ?_);rintro e w19 ⟨he,hb⟩;subst he;have H19:Hid (OT w.heap.size w19 (.slice pk nk ck) ((bl.take (i+1)).filter isT)∧g3<w19.heap.size):=⟨(by rw [HSN2.out];exact HO.out.below hb),Nat.lt_of_lt_of_le HG.out.2 hb.size⟩;replace hm:=hm.call hb;clear hb))
    go_roundw
    case rel=>exact ⟨i+1,by go_num,by omega,H19.out.1,⟨HG.out.1,H19.out.2⟩,hm⟩
    case measure=>simp [intOf];omega
   | true =>
    have HIS:Hid (∀W,Below w.heap.size w W→Calls Tryz.prog 19 #[.agg (tcs x (.slice px mx cx)).toArray] W fun e w'=>e=.returned (.bool true)∧Below W.heap.size W w'):=fun W hW=>by have h9:=bY x _ W (HXS.out.below hW);rw [hix] at h9;exact h9
    have HSN2:Hid ((bl.take (i+1)).filter isT=(bl.take i).filter isT++[x]):=by show _=_;rw [HSN,if_pos hix]
    clear hix HSN
    go_wp2_with (first
     | ((with_reducible refine af (some 17) (.indexAddr 22 (.tmp 15) (.tmp 16)) ?_);go_must (refine aa (.pointer (some ⟨bb,ob+i * 3,none⟩)) rfl (ak i rfl rfl rfl hlt) ?_))
     | ((with_reducible refine af (some 18) (.load 24 (.tmp 17)) ?_);go_must (refine aa (.agg (tcs x (.slice px mx cx)).toArray) rfl (am rfl (HC.out _ hm.below).1 (HC.out _ hm.below).2.1 (HC.out _ hm.below).2.2) ?_))
     | (go_at_call 19;go_must (refine (HIS.out _ hm.below).mono ?_);rintro e w19 ⟨he,hb⟩;subst he;have HB19:Hid (Below wr.heap.size wr w19):=hb;replace hm:=hm.call hb;clear hb)
     | ((with_reducible refine af (some 23) (.indexAddr 22 (.tmp 21) (.tmp 22)) ?_);go_must (refine aa (.pointer (some ⟨bb,ob+i * 3,none⟩)) rfl (ak i rfl rfl rfl hlt) ?_))
     | ((with_reducible refine af (some 24) (.load 24 (.tmp 23)) ?_);go_must (refine aa (.agg (tcs x (.slice px mx cx)).toArray) rfl (am rfl (HC.out _ hm.below).1 (HC.out _ hm.below).2.1 (HC.out _ hm.below).2.2) ?_))
     | ((with_reducible refine af (some 25) (.buildSlice 22 1 #[(0,.tmp 24)]) ?_);go_must (refine bj (x) (.slice px mx cx) rfl rfl hm ?_);clear hm;intro w25 g25 hb hg hm;have hb25:Below wr.heap.size wr w25:=HB19.out.trans (hb.mono HB19.out.size);have HO25:Hid (OT w.heap.size w25 (.slice pk nk ck) ((bl.take i).filter isT)):=HO.out.below hb25;have HN25:Hid (some g25≠(Value.slice pk nk ck).ownBlock):=HO.out.ne (Nat.le_trans HB19.out.size hg);have HSL:Hid (SlT (FO w25 (.slice pk nk ck)) w25 (.slice (some ⟨g25,0,none⟩) 1 1) [x]):=bO (hm.get 0 rfl) (HO25.out.old (fun b hb=>hb) (HXS.out.below hm.below) hm.size) ⟨(hm.get 0 rfl).lt,HN25.out⟩;have HG25:Hid (g3<w25.heap.size):=Nat.lt_of_lt_of_le HG.out.2 hb25.size;clear hb25;clear hb hg)
     | ((with_reducible refine af (some 26) (.call {callee:=.builtin .append,args:=#[.tmp 20,.tmp 25],argTypes:=#[22,22]}) ?_);go_must (refine aN (base:=w.heap.size) (v:=.slice pk nk ck) rfl rfl rfl hm HO25.out rfl HSL.out (by rw [←HNK.out ()];omega) (Nat.le_refl _) hm.size (bx HN25.out (bx HG.out.1 a6)) ?_);intro v26 w26 ho hg hb9 hm5;have H26:Hid (OT w.heap.size w26 v26 ((bl.take (i+1)).filter isT)∧some g3≠v26.ownBlock∧g3<w26.heap.size):=⟨(by rw [HSN2.out];exact ho),(hb9.elim (fun h9=>by rw [h9];exact HG.out.1) (fun h9=>by rw [h9];intro he;have h8:=Option.some.inj he;have h7:=HG25.out;omega)),Nat.lt_of_lt_of_le HG25.out hg.size⟩;clear hm ho hg hb9;have hm:=hm5;clear hm5))
    go_roundw
    case rel=>exact ⟨i+1,by go_num,by omega,H26.out.1,H26.out.2,hm.tail⟩
    case measure=>simp [intOf];omega
  ·obtain rfl:i=lv:=by omega
   have hki:¬(i:Int)<(i:Int):=by omega
   obtain ⟨Fl,hFl⟩:∃F,F=bl.filter isT:=⟨_,rfl⟩
   have HFE:Hid ((bl.take i).filter isT=Fl):=by show _=_;rw [HLV.out (),List.take_length,hFl]
   have HFF:Hid (Few Fl∧(∀x∈Fl,isT x=true)):=by rw [hFl];exact ⟨few_filter HFW.out,fun x hx=>(List.mem_filter.1 hx).2⟩
   have HKF:Hid (Kn Fl gt↔Kn bl gt):=by rw [hFl];exact kn_filter bl gt
   have HSL:Hid (SlT (fun b=>b<wr.heap.size) wr (.slice pk nk ck) Fl):=by rw [←HFE.out];exact HO.out.slt
   have HNF:Hid (∀_:Unit,nk=Fl.length):=fun _=>by rw [←HFE.out];exact HNK.out ()
   have HWZ0:Hid (w.heap.size≤wr.heap.size):=hm.size
   have HMT:Hid (Kn bl gt→minT bl gt=(leastR (fun K=>Der K gt) (fun _=>False) Fl.reverse).reverse):=fun h=>by rw [min_eq h,hFl]
   clear HMM HO HNK HG hFl
   cases hkn:decide (Kn bl gt) with
   | false =>
    have HMN:Hid (∀_:Unit,minT bl gt=[]):=fun _=>by unfold minT;rw [if_neg (of_decide_eq_false hkn)]
    have HKC:Hid (decide (Kn Fl gt)=false):=(decide_eq_decide.2 HKF.out).trans hkn
    clear hkn
    go_wp2_with (first
     | ((with_reducible refine af (some 28) (.load 24 (.tmp 3)) ?_);go_must (refine aa (.agg (tcs gt (.slice pp mm cap)).toArray) rfl (aB 0 (tcs gt (.slice pp mm cap)) (Mem.get hm 0 rfl) rfl _ Tryz.underlying24 rfl 3 aj (Nat.le_refl _) rfl) ?_))
     | (go_at_call 12;have h9:=b5 Fl gt (.slice pk nk ck) (.slice pp mm cap) _ HFF.out.1 HSL.out (HGS.out.below hm.below);rw [HKC.out] at h9;go_must (refine h9.mono ?_);rintro e w29 ⟨he,hb⟩;subst he;replace hm:=hm.call hb;clear hb h9))
    go_ret
    exact ⟨_,rfl,by rw [HMN.out ()];exact SlT.nil,hm.below⟩
   | true =>
    have HMR:Hid (minT bl gt=(leastR (fun K=>Der K gt) (fun _=>False) Fl.reverse).reverse):=HMT.out (of_decide_eq_true hkn)
    have HKC:Hid (decide (Kn Fl gt)=true):=(decide_eq_decide.2 HKF.out).trans hkn
    have HIG:Hid (isT gt=true):=(of_decide_eq_true hkn).1
    have hwn:IntKind.i64.wrap ((nk:Int) - 1)=(nk:Int) - 1:=wrapz9 (by omega) (by omega)
    clear hkn
    go_wp2_with (first
     | ((with_reducible refine af (some 28) (.load 24 (.tmp 3)) ?_);go_must (refine aa (.agg (tcs gt (.slice pp mm cap)).toArray) rfl (aB 0 (tcs gt (.slice pp mm cap)) (Mem.get hm 0 rfl) rfl _ Tryz.underlying24 rfl 3 aj (Nat.le_refl _) rfl) ?_))
     | (go_at_call 12;have h9:=b5 Fl gt (.slice pk nk ck) (.slice pp mm cap) _ HFF.out.1 HSL.out (HGS.out.below hm.below);rw [HKC.out] at h9;go_must (refine h9.mono ?_);rintro e w29 ⟨he,hb⟩;subst he;have HSL2:Hid (SlT (fun b=>b<w29.heap.size) w29 (.slice pk nk ck) Fl):=((HSL.out.below hb).weak (fun b h8=>Nat.lt_of_lt_of_le h8 hb.size));replace hm:=hm.call hb;clear hb h9))
    go_loopw [7,5] (fun vi vl wr=>∃(z:Int) (u:Nat) (S:List Tm),vi=.int .i64 z∧z=(u:Int) - 1∧u≤Fl.length∧Hid ((leastR (fun K=>Der K gt) (· ∈ S) (Fl.take u).reverse).reverse++S=minT bl gt)∧Hid (SlT (fun b=>b<wr.heap.size) wr vl (Fl.take u++S))∧Hid (∀t∈S,t∈Fl)∧Hid (S.length+u≤10)∧Hid (Mem w [] wr [(g3,tcs gt (.slice pp mm cap),24)])) (fun vi _ _=>(intOf vi+1).toNat)
    case atStart=>exact ⟨_,Fl.length,[],rfl,by rw [←HNF.out ()],Nat.le_refl _,by
      show _=_
      have e:(fun t=>t∈([]:List Tm))=fun _:Tm=>False:=funext fun t=>propext (by simp)
      rw [e,List.take_length,List.append_nil,HMR.out],by show SlT _ _ _ _;rw [List.take_length,List.append_nil];exact HSL2.out,fun t ht=>(by cases ht),by show _≤_;rw [←HNF.out ()];simp;omega,hm⟩
    case round =>
     clear hm HSL HSL2
     obtain ⟨z,u,S,rfl,hz,huF,HLR,HSQ,HSS,HUS,HMM⟩:=hrel
     have hm:=HMM.out
     obtain ⟨Q,hQ⟩:∃Q,Q=Fl.take u++S:=⟨_,rfl⟩
     obtain ⟨pl,cl,hvl,hcl⟩:=HSQ.out.len
     obtain ⟨nl,hnl⟩:∃l,l=(Fl.take u++S).length:=⟨_,rfl⟩
     rw [←hnl] at hvl hcl
     subst hvl
     have HSL:Hid (SlT (fun b=>b<wr.heap.size) wr (.slice pl nl cl) Q):=by rw [hQ];exact HSQ.out
     have HNL:Hid (∀_:Unit,nl=Q.length):=fun _=>by rw [hQ];exact hnl
     have hnlu:nl=u+S.length:=by rw [hnl,List.length_append,List.length_take,Nat.min_eq_left huF]
     have HQ:Hid (Q=Fl.take u++S):=hQ
     have HWZ:Hid (w.heap.size≤wr.heap.size):=hm.size
     have HG3:Hid (g3<wr.heap.size):=(hm.get 0 rfl).lt
     have hnl10:nl≤10:=by have:=HUS.out;omega
     by_cases hu0:u=0
     ·subst hu0
      have hzi:¬(0:Int)≤z:=by omega
      have HRS:Hid (Q=minT bl gt):=by
       have h9:=HLR.out
       show _=_
       rw [HQ.out,←h9]
       rfl
      clear HMM hQ hnl hcl hnlu HSQ
      go_wp2_with fail
      go_ret
      exact ⟨_,rfl,by rw [←HRS.out];exact HSL.out,hm.below⟩
     obtain ⟨u,hu⟩:∃u',u=u'+1:=⟨u - 1,by omega⟩
     subst hu
     obtain rfl:z=(u:Int):=by omega
     have huFl:u<Fl.length:=huF
     obtain ⟨x,hx⟩:∃x,Fl[u]?=some x:=⟨_,List.getElem?_eq_getElem huFl⟩
     have hzi:(0:Int)≤(u:Int):=by omega
     have huN:u≤nl:=by omega
     have hu1:u+1≤nl:=by omega
     have huc:u≤cl:=by omega
     have hu380:u≤10:=by omega
     have hw1:IntKind.i64.wrap ((u:Int)+1)=(u:Int)+1:=bm _ (by omega) (by omega)
     have hw2:IntKind.i64.wrap ((u:Int) - 1)=(u:Int) - 1:=wrapz9 (by omega) (by omega)
     have HQT:Hid (Q.take u=Fl.take u∧Q.drop (u+1)=S):=by
      rw [HQ.out]
      refine ⟨?_,?_⟩
      ·rw [List.take_append_of_le_length (by rw [List.length_take];omega),List.take_take,Nat.min_eq_left (by omega)]
      ·rw [List.drop_append_of_le_length (by rw [List.length_take];omega),List.drop_eq_nil_of_le (by rw [List.length_take];omega),List.nil_append]
     have hst:=least_step hx HLR.out
     have HST:Hid ((Der (· ∈ Fl.take u++S) gt→(leastR (fun K=>Der K gt) (· ∈ S) (Fl.take u).reverse).reverse++S=minT bl gt)∧(¬Der (· ∈ Fl.take u++S) gt→(leastR (fun K=>Der K gt) (· ∈ x::S) (Fl.take u).reverse).reverse++x::S=minT bl gt)):=hst
     have HXF:Hid (x∈Fl∧Fl.take (u+1)=Fl.take u++[x]):=⟨List.mem_of_getElem? hx,by rw [List.take_add_one,hx];rfl⟩
     have HFM:Hid (Few (Fl.take u++S)∧inB (Fl.take u++S)=fun t=>t∈Fl.take u++S):=by
      have hsub:∀t∈Fl.take u++S,t∈Fl:=fun t ht=>(List.mem_append.1 ht).elim List.mem_of_mem_take (HSS.out t)
      exact ⟨eO HFF.out.1 hsub (by rw [List.length_append,List.length_take];have:=HUS.out;omega),inB_all fun t ht=>HFF.out.2 t (hsub t ht)⟩
     have HUL:Hid (u≤Fl.length):=Nat.le_of_lt huFl
     clear HMM hQ hnl hcl hnlu HSQ hst hx hz hu0 huF huFl
     go_wp2_with fail
     refine aq ?_
     refine ao (T:=fun W=>Mem w [] W [(g3,tcs gt (.slice pp mm cap),24)]∧Below wr.heap.size wr W) (by kernel_rfl) hm ?_
     intro wc hbw hmw
     replace hm:Mem w [] wc [(g3,tcs gt (.slice pp mm cap),24)]∧Below wr.heap.size wr wc:=⟨hmw,hbw⟩
     clear hbw hmw
     refine aT 0 (v:=.slice pl nl cl) rfl (by kernel_rfl) rfl (fun W _=>by go_simp) hm ?_
     go_simp
     refine aT 1 (v:=.int .i64 (u:Int)) rfl (by kernel_rfl) rfl (fun W _=>by go_simp) hm ?_
     go_simp
     refine aT 2 (v:=.slice (cutHi pl cl) u cl) rfl (by kernel_rfl) rfl (fun W _=>eW u huc rfl rfl rfl) hm ?_
     go_simp
     refine aT 4 (v:=.slice pl nl cl) rfl (by kernel_rfl) rfl (fun W _=>by go_simp) hm ?_
     go_simp
     refine aT 5 (v:=.int .i64 (u:Int)) rfl (by kernel_rfl) rfl (fun W _=>by go_simp) hm ?_
     go_simp
     refine aT 6 (v:=.int .i64 ((u:Int)+1)) rfl (by kernel_rfl) rfl (fun W _=>by go_simp) hm ?_
     go_simp
     refine aT 7 (v:=.slice (offA pl cl (u+1)) (nl - (u+1)) (cl - (u+1))) rfl (by kernel_rfl) rfl (fun W _=>dm (u+1) hu1 rfl rfl (by omega)) hm ?_
     go_simp
     refine aO 3 (by kernel_rfl) rfl rfl ?_
     intro K hK
     refine aN (base:=wr.heap.size) (l2:=Q.take u) rfl rfl rfl hm.1 OT.nil (by rw [List.length_take];have h9:=HNL.out ();omega) (OT.nil.old (base:=wr.heap.size) (fun b hb=>hb) ((HSL.out.take huN).below hm.2) hm.2.size) (by simp;omega) HWZ.out hm.2.size (bx (fun h9=>by cases h9) a6) ?_
     intro v41 w41 ho hg hb9 hm5
     have HO41:Hid (OT wr.heap.size w41 v41 (Q.take u)):=(by rw [List.nil_append] at ho;exact ho)
     have hm6:Mem w [] w41 [(g3,tcs gt (.slice pp mm cap),24)]∧Below wr.heap.size wr w41:=⟨hm5,Below.grownN hm.2 hg (fun b he=>by cases he) hm.2.size⟩
     clear hm ho hg hb9 hm5
     have hm:=hm6
     clear hm6
     refine wpList_nil ?_
     refine hK _ _ hm ?_
     clear hK K
     go_simp
     refine aO 8 (by kernel_rfl) rfl rfl ?_
     intro K hK
     have hn41:some g3≠v41.ownBlock:=fun h9=>by have h8:=(HO41.out.lt h9.symm).1;have h7:=HG3.out;omega
     refine aN (base:=wr.heap.size) (l2:=Q.drop (u+1)) rfl rfl rfl hm.1 HO41.out (by rw [List.length_drop];have h9:=HNL.out ();omega) (HO41.out.old (fun b hb=>hb) ((HSL.out.drop hu1).below hm.2) hm.2.size) (by rw [List.length_take];omega) HWZ.out hm.2.size (bx hn41 a6) ?_
     intro v46 w46 ho hg hb9 hm5
     have HO46:Hid (OT wr.heap.size w46 v46 (Q.take u++Q.drop (u+1))):=ho
     have hm6:Mem w [] w46 [(g3,tcs gt (.slice pp mm cap),24)]∧Below wr.heap.size wr w46:=⟨hm5,Below.grownN hm.2 hg (fun b he=>(HO41.out.lt he).1) hm.2.size⟩
     clear hm ho hg hb9 hm5 hn41
     have hm:=hm6
     clear hm6
     refine wpList_nil ?_
     refine hK _ _ hm ?_
     clear hK K
     go_simp
     refine aT 9 (v:=v46) rfl (by kernel_rfl) rfl (fun W _=>by go_simp) hm ?_
     go_simp
     refine wpAnyH_done (by kernel_rfl) ?_ _
     simp only [endsIn]
     have HOM:Hid (OT wr.heap.size w46 v46 (Fl.take u++S)):=by
      have h9:=HO46.out
      rw [HQT.out.1,HQT.out.2] at h9
      exact h9
     clear HO46 HO41
     obtain ⟨hmm9,hbb9⟩:=hm
     have hm:=hmm9
     have HBB:Hid (Below wr.heap.size wr w46):=hbb9
     clear hmm9 hbb9
     cases hd:decide (Kn (Fl.take u++S) gt) with
     | true =>
      have HDK:Hid (decide (Kn (Fl.take u++S) gt)=true):=hd
      have HL2:Hid ((leastR (fun K=>Der K gt) (· ∈ S) (Fl.take u).reverse).reverse++S=minT bl gt):=HST.out.1 (by have h9:=(of_decide_eq_true hd).2;rw [HFM.out.2] at h9;exact h9)
      clear hd
      go_wp2_with (first
       | ((with_reducible refine af (some 48) (.load 24 (.tmp 3)) ?_);go_must (refine aa (.agg (tcs gt (.slice pp mm cap)).toArray) rfl (aB 0 (tcs gt (.slice pp mm cap)) (Mem.get hm 0 rfl) rfl _ Tryz.underlying24 rfl 3 aj (Nat.le_refl _) rfl) ?_))
       | (go_at_call 12;have h9:=b5 (Fl.take u++S) gt v46 (.slice pp mm cap) _ HFM.out.1 HOM.out.slt (HGS.out.below hm.below);rw [HDK.out] at h9;go_must (refine h9.mono ?_);rintro e w49 ⟨he,hb⟩;subst he;have HS49:Hid (SlT (fun b=>b<w49.heap.size) w49 v46 (Fl.take u++S)):=(HOM.out.slt.below hb).weak (fun b h8=>Nat.lt_of_lt_of_le h8 hb.size);replace hm:=hm.call hb;clear hb h9))
      go_roundw
      case rel=>exact ⟨_,u,S,rfl,rfl,HUL.out,HL2.out,HS49.out,HSS.out,by have:=HUS.out;show _≤_;omega,hm⟩
      case measure=>simp [intOf]
     | false =>
      have HDK:Hid (decide (Kn (Fl.take u++S) gt)=false):=hd
      have HL2:Hid ((leastR (fun K=>Der K gt) (· ∈ x::S) (Fl.take u).reverse).reverse++x::S=minT bl gt):=HST.out.2 (fun h9=>of_decide_eq_false hd ⟨HIG.out,by rw [HFM.out.2];exact h9⟩)
      clear hd
      go_wp2_with (first
       | ((with_reducible refine af (some 48) (.load 24 (.tmp 3)) ?_);go_must (refine aa (.agg (tcs gt (.slice pp mm cap)).toArray) rfl (aB 0 (tcs gt (.slice pp mm cap)) (Mem.get hm 0 rfl) rfl _ Tryz.underlying24 rfl 3 aj (Nat.le_refl _) rfl) ?_))
       | (go_at_call 12;have h9:=b5 (Fl.take u++S) gt v46 (.slice pp mm cap) _ HFM.out.1 HOM.out.slt (HGS.out.below hm.below);rw [HDK.out] at h9;go_must (refine h9.mono ?_);rintro e w49 ⟨he,hb⟩;subst he;have HS49:Hid (SlT (fun b=>b<w49.heap.size) w49 (.slice pl nl cl) (Fl.take u++x::S)):=(by have h7:=(HSL.out.below HBB.out).below hb;rw [HQ.out,HXF.out.2,List.append_assoc] at h7;exact h7.weak (fun b h8=>Nat.lt_of_lt_of_le h8 (Nat.le_trans HBB.out.size hb.size)));replace hm:=hm.call hb;clear hb h9))
      go_roundw
      case rel=>exact ⟨_,u,x::S,rfl,rfl,HUL.out,HL2.out,HS49.out,fun t ht=>(List.mem_cons.1 ht).elim (fun h=>h▸HXF.out.1) (HSS.out t),by have:=HUS.out;show _≤_;simp;omega,hm⟩
      case measure=>simp [intOf]
open Go Go.RowKit Classical
theorem cI {l:List Tm} (H:∀y∈l,∀T:List Tm,(prW y T).length≤T.length+cnt y):∀T:List Tm,(prWs l T).length≤T.length+(l.map cnt).sum:=by
 induction l with
 | nil=>intro T;simp [prWs]
 | cons y l ih =>
  intro T
  rw [ee]
  have h1:=H y (List.mem_cons_self ..) T
  have h2:=ih (fun z hz=>H z (List.mem_cons_of_mem _ hz)) (prW y T)
  simp only [List.map_cons,List.sum_cons]
  omega
theorem dO (t:Tm):∀T:List Tm,(prW t T).length≤T.length+cnt t:=by
 induction t using Tm.ind with
 | h t ih =>
  intro T
  rw [prW_eq]
  have h1:=cI ih (add1 t T)
  have h2:(add1 t T).length≤T.length+1:=by unfold add1;split<;>simp
  have h3:=bQ t
  omega
theorem Mem.grownS {w0 w w':World} {S:List Nat} {rows:List (Nat×List Value×TypeId)} (hm:Mem w0 S w rows) {x:Option Nat} (h1:∀b,x=some b→w0.heap.size≤b∨b∈S) (h2:∀r∈rows,some r.1≠x) (hg:w.grownBy w' x):Mem w0 S w' rows:=by
 refine ⟨hg.os.trans hm.os,hg.tape.trans hm.tape,hg.output.trans hm.output,Nat.le_trans hm.size hg.size,fun k hk hn=>?_,fun r hr=>?_,hm.nodup,hm.fresh⟩
 ·refine (hg.block k (Nat.lt_of_lt_of_le hk hm.size) (fun he=>?_)).trans (hm.block k hk hn)
  rcases h1 k he.symm with h|h
  ·omega
  ·exact hn h
 ·have hrow:=hm.row r hr
  unfold Row
  rw [hg.block r.1 hrow.lt (h2 r hr)]
  exact hrow
def ownL (v:Value):List Nat:=match v.ownBlock with|some b=>[b]|none=>[]
theorem dZ {v:Value} {b:Nat}:b∈ownL v↔v.ownBlock=some b:=by
 unfold ownL
 split
 ·next h=>rw [h];simp [eq_comm]
 ·next h=>rw [h];simp
theorem Mem.grow {w0 w:World} {v:Value} {rows:List (Nat×List Value×TypeId)} (hm:Mem w0 (ownL v) w rows):w0.grownBy w v.ownBlock :=
 ⟨hm.os,hm.tape,hm.output,hm.size,fun k hk hn=>hm.block k hk fun hc=>hn (dZ.1 hc).symm⟩
theorem Mem.startS (w:World) (S:List Nat):Mem w S w []:=⟨rfl,rfl,rfl,Nat.le_refl _,fun _ _ _=>rfl,by simp,by simp,by simp⟩
section
variable {ops:Array Oper} {rest:List Oper} {a:Act} {w w0:World} {Q:Exit→Act→World→Prop} {dst:Option Tmp} {typ:TypeId} {pos:String} {aft:Array Edge} {gd:Option (Nat×Bool)} {S:List Nat} {rows:List (Nat×List Value×TypeId)}
theorem wpl_appOS {s x:Operand} {base:Nat} {v:Value} {l l2:List Tm} {ps:Option Addr} {m c:Nat} (hw:Region.wanted {dst:=dst,op:=.call {callee:=.builtin .append,args:=#[s,x],argTypes:=#[22,22]},type:=typ,pos:=pos,after:=aft,guard:=gd} (yielded ops a.tmps)=true)
  (hs:a.eval s=v) (hx:a.eval x=.slice ps m c) (hmw:Mem w0 S w rows) (h:OT base w v l) (hm:m=l2.length) (hsl:SlT (FO w v) w (.slice ps m c) l2) (hlen:l.length+m≤1000000) (h1:∀b,v.ownBlock=some b→w0.heap.size≤b∨b∈S) (hbase:base≤w.heap.size) (hne:∀r∈rows,some r.1≠v.ownBlock)
  (hk:∀v' w',OT base w' v' (l++l2)→w.grownBy w' v.ownBlock→(v'.ownBlock=v.ownBlock∨v'.ownBlock=some w.heap.size)→Mem w0 S w' rows→wpList Tryz.prog ops Q rest (a.put dst v') w') :
  wpList Tryz.prog ops Q ({dst:=dst,op:=.call {callee:=.builtin .append,args:=#[s,x],argTypes:=#[22,22]},type:=typ,pos:=pos,after:=aft,guard:=gd}::rest) a w:=by
 obtain ⟨v',w',hr,ho,hg,hb⟩:=run_appOT (ty:=typ) h hm hsl hlen hbase
 refine wpList_step fun K hK=>?_
 rw [if_pos hw]
 have hh:=hK _ _ (hk v' w' ho hg hb (hmw.grownS h1 hne hg))
 unfold Oper.wp execOp
 simp only [resolve,invoke,builtin,Sem.run_bind,Sem.run_pure,Result.andThen_ok,List.map_toArray,List.map_cons,List.map_nil,hs,hx,hr]
 exact hh
theorem wpl_boxB {ty:TypeId} {x:Operand} (l:List Value) (hx:a.eval x=.agg l.toArray) (hm:Mem w0 S w rows)
  (h:∀w' g,Below w.heap.size w w'→w.heap.size≤g→Mem w0 S w' ((g,l,ty)::rows)→wpList Tryz.prog ops Q rest (a.put dst (.pointer (some ⟨g,0,none⟩))) w') :
  wpList Tryz.prog ops Q ({dst:=dst,op:=.box ty x,type:=typ,pos:=pos,after:=aft,guard:=none}::rest) a w:=by
 refine wpList_plain rfl fun K hK=>?_
 have hh:=hK _ _ (h _ _ ((Below.refl _ _).alloc (Nat.le_refl _) _) (Nat.le_refl _) (hm.alloc l ty))
 unfold Oper.wp execOp
 simp [Instr.box,newVar,newRow,newObj,hx,Value.cells]
 exact hh
end
theorem parts_any (t:Tm):∀(base:Nat) (l:List Tm) (v s:Value) (w:World),isT t=true→(∀x∈l,cnt x≤60)→l.length+cnt t≤100000→OT base w v l→base≤w.heap.size→SlT (fun b=>b<base) w s t.l →
  Calls Tryz.prog 35 #[v,.agg (tcs t s).toArray] w fun e w'=>∃v',e=.returned v'∧OT base w' v' (prW t l)∧w.grownBy w' v.ownBlock∧(v'.ownBlock=v.ownBlock∨∃b,v'.ownBlock=some b∧w.heap.size≤b):=by
 induction t using Tm.ind with
 | h t ih =>
 intro base l v s w hit hcl hlen hO hbase hs
 have HIH:Hid _:=ih
 obtain ⟨p,c,rfl,_⟩:=hs.len
 obtain ⟨m,hml⟩:∃m,m=t.l.length:=⟨_,rfl⟩
 obtain ⟨pk,ck,hv,_⟩:=hO.len
 obtain ⟨nk,hnk⟩:∃n,n=l.length:=⟨_,rfl⟩
 rw [←hnk] at hv
 subst hv
 have HM:Hid (∀_:Unit,m=t.l.length):=fun _=>hml
 have HNK:Hid (∀_:Unit,nk=l.length):=fun _=>hnk
 have HIT:Hid (isT t=true):=hit
 have HCL:Hid (∀x∈l,cnt x≤60):=hcl
 have HLEN:Hid (l.length+cnt t≤100000):=hlen
 have HO:Hid (OT base w (.slice pk nk ck) l):=hO
 have HBA:Hid (base≤w.heap.size):=hbase
 have HS:Hid (SlT (fun b=>b<base) w (.slice p m c) t.l):=by rw [hml];exact hs
 rw [←hml]
 have HIN:∀b:Bool,(b=true↔t∈l)→Hid (∀W,Below w.heap.size w W→Calls Tryz.prog 20 #[.slice pk nk ck,.agg (tcs t (.slice p m c)).toArray] W fun e w'=>e=.returned (.bool b)∧Below W.heap.size W w'):=fun b hb W hW=>dF l t pk nk ck _ W b hb (HNK.out ()) (by have h1:=HNK.out ();have h2:=HLEN.out;omega) (fun x hx=>Nat.le_trans (HCL.out x hx) (by omega)) (HO.out.slt.below hW) (HS.out.below hW)
 have hnk4:nk≤100000:=by omega
 have hm2:m≤2:=by
  have:=bg (aS (az.1 hit).2)
  rw [hml,this];unfold kn;split<;>(try split)<;>omega
 clear ih hit hcl hlen hO hbase hs hml hnk
 have hm:=Mem.startS w (ownL (.slice pk nk ck))
 have HSO:Hid (∀b,(Value.slice pk nk ck).ownBlock=some b→w.heap.size≤b∨b∈ownL (.slice pk nk ck)):=fun b hb=>Or.inr (dZ.2 hb)
 have HG0:Hid (∀b,(Value.slice pk nk ck).ownBlock=some b→b<w.heap.size):=fun b hb=>(HO.out.lt hb).2
 by_cases hin:t∈l
 ·have HIN2:=HIN true ⟨fun _=>hin,fun _=>rfl⟩
  have HA1:Hid (∀_:Unit,add1 t l=l):=fun _=>by unfold add1;rw [if_pos hin]
  clear HIN hin
  go_enter Tryz.func35,Tryz.ntmps35
  go_wp2_with (first
   | ((with_reducible refine af (some 3) (.box 24 (.tmp 1)) ?_);go_must (refine wpl_boxB (tcs t (.slice p m c)) rfl hm ?_);clear hm;intro w1 g3 hb1 hg1 hm;have HB1:Hid (Below w.heap.size w w1):=hb1;have HGE:Hid (w.heap.size≤g3):=hg1;clear hb1 hg1)
   | ((with_reducible refine af (some 7) (.load 24 (.tmp 3)) ?_);go_must (refine aE 0 hm rfl rfl _ Tryz.underlying24 rfl 3 aj rfl ?_))
   | (go_at_call 20;have hbw:Below w.heap.size w w1:=HB1.out;go_must (refine (HIN2.out _ hbw).mono ?_);rintro e w8 ⟨he,hb⟩;subst he;have HO8:Hid (OT base w8 (.slice pk nk ck) l):=HO.out.below (hbw.trans (hb.mono hbw.size));have HN8:Hid (some g3≠(Value.slice pk nk ck).ownBlock):=(fun h9=>by have h8:=HG0.out _ h9.symm;have h7:=HGE.out;omega);replace hm:=hm.call hb;clear hb hbw))
  go_loopw [5,0] (fun vi vv wr=>∃i:Nat,vi=.int .i64 (i:Int)∧i≤m∧Hid (OT base wr vv (prWs (t.l.take i) (add1 t l)))∧Hid ((∀b,vv.ownBlock=some b→w.heap.size≤b∨b∈ownL (.slice pk nk ck))∧some g3≠vv.ownBlock∧(vv.ownBlock=(Value.slice pk nk ck).ownBlock∨∃b,vv.ownBlock=some b∧w.heap.size≤b))∧Hid (Mem w (ownL (.slice pk nk ck)) wr [(g3,tcs t (.slice p m c),24)])) (fun vi _ _=>m - (intOf vi).toNat)
  case atStart=>exact ⟨0,rfl,Nat.zero_le _,by rw [HA1.out ()];exact HO8.out,⟨HSO.out,HN8.out,Or.inl rfl⟩,hm⟩
  case round =>
   clear hm HO8 HN8
   obtain ⟨i,rfl,him,HOV,HV,HMM⟩:=hrel
   have hm:=HMM.out
   by_cases hlt:i<m
   ·have hki:(i:Int)<(m:Int):=by omega
    have hbg:∀b,b<base→wr.heap[b]?=w.heap[b]?:=fun b hb=>hm.block b (by have:=HBA.out;omega) (fun hc=>by
     have h1:=dZ.1 hc
     have h2:=(HO.out.lt h1).1
     omega)
    have hsw:SlT (fun b=>b<base) wr (.slice p m c) t.l:=HS.out.keep (fun b hb=>⟨hb,fun o u hu=>by rw [World.cell?_of_block (w:=w) (a:=⟨b,o,none⟩) (hbg b hb)];exact hu⟩)
    obtain ⟨b,o,hpb⟩:=HS.out.at (show 0<m by omega)
    subst hpb
    obtain ⟨x,hx⟩:=aX (HM.out ()) hlt
    obtain ⟨px,mx,cx,a0,a1,a2,ex,hsx⟩:=hsw.cells hx
    have HX:Hid (SlT (fun b=>b<base) wr (.slice px mx cx) x.l):=hsx
    have HMX:Hid (x∈t.l):=List.mem_of_getElem? hx
    have HSN:Hid (prWs (t.l.take (i+1)) (add1 t l)=prW x (prWs (t.l.take i) (add1 t l))):=prWs_snoc hx _
    have HCP:Hid (∀z∈prWs (t.l.take i) (add1 t l),cnt z≤60):=fun z hz=>by
     have h1:=(d6 (l:=t.l.take i) (fun y _=>prW_mem y) (add1 t l) z).1 hz
     rcases h1 with h1|h1
     ·rcases (eN t l z).1 h1 with h2|h2
      ·exact HCL.out z h2
      ·rw [h2];exact (az.1 HIT.out).1
     ·have h3:z∈subL t:=by
       rw [eC]
       obtain ⟨y,hy,hz2⟩:=List.mem_flatMap.1 h1
       exact List.mem_cons_of_mem _ (List.mem_flatMap.2 ⟨y,List.mem_of_mem_take hy,hz2⟩)
      have h4:=(fi t (az.1 HIT.out).2 [] z Web.nil).2 (Or.inr h3)
      exact (az.1 (fa t HIT.out [] (fun _ h=>by cases h) z h4)).1
    have HLP:Hid ((prWs (t.l.take i) (add1 t l)).length+cnt x≤100000):=by
     have h1:=cI (l:=t.l.take (i+1)) (fun y _=>dO y) (add1 t l)
     have h2:=dQ hx
     have h3:((t.l.take (i+1)).map cnt).sum≤(t.l.map cnt).sum:=by
      conv=>rhs;rw [←List.take_append_drop (i+1) t.l,List.map_append,List.sum_append]
      omega
     have h4:=bQ t
     have h5:(add1 t l).length≤l.length+1:=by unfold add1;split<;>simp
     have h6:=cI (l:=t.l.take i) (fun y _=>dO y) (add1 t l)
     have h7:=HLEN.out
     show _≤_
     omega
    have HC0:Hid (wr.cell? ⟨b,o+i * 3,none⟩=some (.int .i64 x.k)∧wr.cell? ⟨b,o+i * 3+1,none⟩=some (.int .i64 x.n)∧wr.cell? ⟨b,o+i * 3+2,none⟩=some (.slice px mx cx)):=⟨a0,a1,a2⟩
    obtain ⟨pu,cu,hvu,_⟩:=HOV.out.len
    obtain ⟨nu,hnu⟩:∃n,n=(prWs (t.l.take i) (add1 t l)).length:=⟨_,rfl⟩
    rw [←hnu] at hvu
    subst hvu
    clear hbg hsw hx a0 a1 a2 ex hsx HMM hnu
    go_wp2_with (first
     | ((with_reducible refine af (some 16) (.load 22 (.tmp 15)) ?_);go_must (refine aa (.slice (some ⟨b,o,none⟩) m c) rfl (ad (.slice (some ⟨b,o,none⟩) m c) (Mem.cell hm 0 rfl 2) rfl ah) ?_))
     | ((with_reducible refine af (some 23) (.load 22 (.tmp 22)) ?_);go_must (refine aa (.slice (some ⟨b,o,none⟩) m c) rfl (ad (.slice (some ⟨b,o,none⟩) m c) (Mem.cell hm 0 rfl 2) rfl ah) ?_))
     | ((with_reducible refine af (some 25) (.indexAddr 22 (.tmp 23) (.tmp 24)) ?_);go_must (refine aa (.pointer (some ⟨b,o+i * 3,none⟩)) rfl (ak i rfl rfl rfl hlt) ?_))
     | ((with_reducible refine af (some 26) (.load 24 (.tmp 25)) ?_);go_must (refine aa (.agg (tcs x (.slice px mx cx)).toArray) rfl (am rfl HC0.out.1 HC0.out.2.1 HC0.out.2.2) ?_))
     | (go_at_call 35;go_must (refine (HIH.out x HMX.out base _ _ _ _ (isT_kid HIT.out HMX.out) HCP.out HLP.out HOV.out (Nat.le_trans HBA.out hm.size) HX.out).mono ?_);rintro e w27 ⟨v27,he,ho,hg,hb⟩;subst he;have HO27:Hid (OT base w27 v27 (prWs (t.l.take (i+1)) (add1 t l))):=(by rw [HSN.out];exact ho);have HS27:Hid (w.heap.size≤wr.heap.size∧g3<wr.heap.size):=⟨hm.size,(hm.get 0 rfl).lt⟩;have HV27:Hid ((∀b,v27.ownBlock=some b→w.heap.size≤b∨b∈ownL (.slice pk nk ck))∧some g3≠v27.ownBlock∧(v27.ownBlock=(Value.slice pk nk ck).ownBlock∨∃b,v27.ownBlock=some b∧w.heap.size≤b)):=hb.elim (fun h9=>by rw [h9];exact HV.out) (fun ⟨b9,h9,h8⟩=>by rw [h9];exact ⟨fun b7 h7=>Or.inl (by have h6:=Option.some.inj h7;have h5:=HS27.out;omega),(fun h7=>by have h6:=Option.some.inj h7;have h5:=HS27.out;omega),Or.inr ⟨b9,rfl,by have h5:=HS27.out;omega⟩⟩);replace hm:=hm.grownS HV.out.1 (bx HV.out.2.1 a6) hg;clear ho hg hb))
    go_roundw
    case rel=>exact ⟨i+1,by go_num,by omega,HO27.out,HV27.out,hm⟩
    case measure=>simp [intOf];omega
   ·obtain rfl:i=m:=by omega
    have hki:¬(i:Int)<(i:Int):=by omega
    have HFIN:Hid (prWs (t.l.take i) (add1 t l)=prW t l):=by show _=_;rw [HM.out (),List.take_length,prW_eq]
    clear HMM
    go_wp2_with (first
     | ((with_reducible refine af (some 16) (.load 22 (.tmp 15)) ?_);go_must (refine aa (.slice p i c) rfl (ad (.slice p i c) (Mem.cell hm 0 rfl 2) rfl ah) ?_)))
    go_ret
    exact ⟨_,rfl,by rw [←HFIN.out];exact HOV.out,hm.grow,HV.out.2.2⟩
 ·have HIN2:=HIN false ⟨(fun h=>by cases h),fun h=>absurd h hin⟩
  have HA1:Hid (∀_:Unit,add1 t l=l++[t]):=fun _=>by unfold add1;rw [if_neg hin]
  clear HIN hin
  go_enter Tryz.func35,Tryz.ntmps35
  go_wp2_with (first
   | ((with_reducible refine af (some 3) (.box 24 (.tmp 1)) ?_);go_must (refine wpl_boxB (tcs t (.slice p m c)) rfl hm ?_);clear hm;intro w1 g3 hb1 hg1 hm;have HB1:Hid (Below w.heap.size w w1):=hb1;have HGE:Hid (w.heap.size≤g3):=hg1;clear hb1 hg1)
   | ((with_reducible refine af (some 7) (.load 24 (.tmp 3)) ?_);go_must (refine aE 0 hm rfl rfl _ Tryz.underlying24 rfl 3 aj rfl ?_))
   | (go_at_call 20;have hbw:Below w.heap.size w w1:=HB1.out;go_must (refine (HIN2.out _ hbw).mono ?_);rintro e w8 ⟨he,hb⟩;subst he;have HB8:Hid (Below w.heap.size w w8):=hbw.trans (hb.mono hbw.size);have HN8:Hid (some g3≠(Value.slice pk nk ck).ownBlock):=(fun h9=>by have h8:=HG0.out _ h9.symm;have h7:=HGE.out;omega);replace hm:=hm.call hb;clear hb hbw)
   | ((with_reducible refine af (some 11) (.load 24 (.tmp 3)) ?_);go_must (refine aE 0 hm rfl rfl _ Tryz.underlying24 rfl 3 aj rfl ?_))
   | ((with_reducible refine af (some 12) (.buildSlice 22 1 #[(0,.tmp 11)]) ?_);go_must (refine bj (t) (.slice p m c) rfl rfl hm ?_);clear hm;intro w12 g12 hb hg hm;have hb12:Below w.heap.size w w12:=HB8.out.trans (hb.mono HB8.out.size);have HO12:Hid (OT base w12 (.slice pk nk ck) l):=HO.out.below hb12;have HN12:Hid (some g12≠(Value.slice pk nk ck).ownBlock):=(fun h9=>by have h8:=HG0.out _ h9.symm;have h7:=HB8.out.size;omega);have HSL:Hid (SlT (FO w12 (.slice pk nk ck)) w12 (.slice (some ⟨g12,0,none⟩) 1 1) [t]):=bO (hm.get 0 rfl) (HO12.out.old (fun b hb=>hb) (HS.out.below hb12) (Nat.le_trans HBA.out hb12.size)) ⟨(hm.get 0 rfl).lt,HN12.out⟩;have HZ12:Hid (base≤w12.heap.size∧w.heap.size≤w12.heap.size∧g3<w12.heap.size):=⟨Nat.le_trans HBA.out hb12.size,hb12.size,(hm.get 1 rfl).lt⟩;clear hb12;clear hb hg)
   | ((with_reducible refine af (some 13) (.call {callee:=.builtin .append,args:=#[.tmp 10,.tmp 12],argTypes:=#[22,22]}) ?_);go_must (refine wpl_appOS (v:=.slice pk nk ck) rfl rfl rfl hm HO12.out rfl HSL.out (by rw [←HNK.out ()];omega) HSO.out HZ12.out.1 (bx HN12.out (bx HN8.out a6)) ?_);intro v13 w13 ho hg hb9 hm5;have HO13:Hid (OT base w13 v13 (l++[t])):=ho;have HV13:Hid ((∀b,v13.ownBlock=some b→w.heap.size≤b∨b∈ownL (.slice pk nk ck))∧some g3≠v13.ownBlock∧(v13.ownBlock=(Value.slice pk nk ck).ownBlock∨∃b,v13.ownBlock=some b∧w.heap.size≤b)):=hb9.elim (fun h9=>by rw [h9];exact ⟨HSO.out,HN8.out,Or.inl rfl⟩) (fun h9=>by rw [h9];exact ⟨fun b7 h7=>Or.inl (by have h6:=Option.some.inj h7;have h5:=HZ12.out;omega),(fun h7=>by have h6:=Option.some.inj h7;have h5:=HZ12.out;omega),Or.inr ⟨_,rfl,HZ12.out.2.1⟩⟩);clear hm ho hg hb9;have hm:=hm5.tail;clear hm5))
  go_loopw [5,0] (fun vi vv wr=>∃i:Nat,vi=.int .i64 (i:Int)∧i≤m∧Hid (OT base wr vv (prWs (t.l.take i) (add1 t l)))∧Hid ((∀b,vv.ownBlock=some b→w.heap.size≤b∨b∈ownL (.slice pk nk ck))∧some g3≠vv.ownBlock∧(vv.ownBlock=(Value.slice pk nk ck).ownBlock∨∃b,vv.ownBlock=some b∧w.heap.size≤b))∧Hid (Mem w (ownL (.slice pk nk ck)) wr [(g3,tcs t (.slice p m c),24)])) (fun vi _ _=>m - (intOf vi).toNat)
  case atStart=>exact ⟨0,rfl,Nat.zero_le _,by rw [HA1.out ()];exact HO13.out,HV13.out,hm⟩
  case round =>
   clear hm HO13 HV13
   obtain ⟨i,rfl,him,HOV,HV,HMM⟩:=hrel
   have hm:=HMM.out
   by_cases hlt:i<m
   ·have hki:(i:Int)<(m:Int):=by omega
    have hbg:∀b,b<base→wr.heap[b]?=w.heap[b]?:=fun b hb=>hm.block b (by have:=HBA.out;omega) (fun hc=>by
     have h1:=dZ.1 hc
     have h2:=(HO.out.lt h1).1
     omega)
    have hsw:SlT (fun b=>b<base) wr (.slice p m c) t.l:=HS.out.keep (fun b hb=>⟨hb,fun o u hu=>by rw [World.cell?_of_block (w:=w) (a:=⟨b,o,none⟩) (hbg b hb)];exact hu⟩)
    obtain ⟨b,o,hpb⟩:=HS.out.at (show 0<m by omega)
    subst hpb
    obtain ⟨x,hx⟩:=aX (HM.out ()) hlt
    obtain ⟨px,mx,cx,a0,a1,a2,ex,hsx⟩:=hsw.cells hx
    have HX:Hid (SlT (fun b=>b<base) wr (.slice px mx cx) x.l):=hsx
    have HMX:Hid (x∈t.l):=List.mem_of_getElem? hx
    have HSN:Hid (prWs (t.l.take (i+1)) (add1 t l)=prW x (prWs (t.l.take i) (add1 t l))):=prWs_snoc hx _
    have HCP:Hid (∀z∈prWs (t.l.take i) (add1 t l),cnt z≤60):=fun z hz=>by
     have h1:=(d6 (l:=t.l.take i) (fun y _=>prW_mem y) (add1 t l) z).1 hz
     rcases h1 with h1|h1
     ·rcases (eN t l z).1 h1 with h2|h2
      ·exact HCL.out z h2
      ·rw [h2];exact (az.1 HIT.out).1
     ·have h3:z∈subL t:=by
       rw [eC]
       obtain ⟨y,hy,hz2⟩:=List.mem_flatMap.1 h1
       exact List.mem_cons_of_mem _ (List.mem_flatMap.2 ⟨y,List.mem_of_mem_take hy,hz2⟩)
      have h4:=(fi t (az.1 HIT.out).2 [] z Web.nil).2 (Or.inr h3)
      exact (az.1 (fa t HIT.out [] (fun _ h=>by cases h) z h4)).1
    have HLP:Hid ((prWs (t.l.take i) (add1 t l)).length+cnt x≤100000):=by
     have h1:=cI (l:=t.l.take (i+1)) (fun y _=>dO y) (add1 t l)
     have h2:=dQ hx
     have h3:((t.l.take (i+1)).map cnt).sum≤(t.l.map cnt).sum:=by
      conv=>rhs;rw [←List.take_append_drop (i+1) t.l,List.map_append,List.sum_append]
      omega
     have h4:=bQ t
     have h5:(add1 t l).length≤l.length+1:=by unfold add1;split<;>simp
     have h6:=cI (l:=t.l.take i) (fun y _=>dO y) (add1 t l)
     have h7:=HLEN.out
     show _≤_
     omega
    have HC0:Hid (wr.cell? ⟨b,o+i * 3,none⟩=some (.int .i64 x.k)∧wr.cell? ⟨b,o+i * 3+1,none⟩=some (.int .i64 x.n)∧wr.cell? ⟨b,o+i * 3+2,none⟩=some (.slice px mx cx)):=⟨a0,a1,a2⟩
    obtain ⟨pu,cu,hvu,_⟩:=HOV.out.len
    obtain ⟨nu,hnu⟩:∃n,n=(prWs (t.l.take i) (add1 t l)).length:=⟨_,rfl⟩
    rw [←hnu] at hvu
    subst hvu
    clear hbg hsw hx a0 a1 a2 ex hsx HMM hnu
    go_wp2_with (first
     | ((with_reducible refine af (some 16) (.load 22 (.tmp 15)) ?_);go_must (refine aa (.slice (some ⟨b,o,none⟩) m c) rfl (ad (.slice (some ⟨b,o,none⟩) m c) (Mem.cell hm 0 rfl 2) rfl ah) ?_))
     | ((with_reducible refine af (some 23) (.load 22 (.tmp 22)) ?_);go_must (refine aa (.slice (some ⟨b,o,none⟩) m c) rfl (ad (.slice (some ⟨b,o,none⟩) m c) (Mem.cell hm 0 rfl 2) rfl ah) ?_))
     | ((with_reducible refine af (some 25) (.indexAddr 22 (.tmp 23) (.tmp 24)) ?_);go_must (refine aa (.pointer (some ⟨b,o+i * 3,none⟩)) rfl (ak i rfl rfl rfl hlt) ?_))
     | ((with_reducible refine af (some 26) (.load 24 (.tmp 25)) ?_);go_must (refine aa (.agg (tcs x (.slice px mx cx)).toArray) rfl (am rfl HC0.out.1 HC0.out.2.1 HC0.out.2.2) ?_))
     | (go_at_call 35;go_must (refine (HIH.out x HMX.out base _ _ _ _ (isT_kid HIT.out HMX.out) HCP.out HLP.out HOV.out (Nat.le_trans HBA.out hm.size) HX.out).mono ?_);rintro e w27 ⟨v27,he,ho,hg,hb⟩;subst he;have HO27:Hid (OT base w27 v27 (prWs (t.l.take (i+1)) (add1 t l))):=(by rw [HSN.out];exact ho);have HS27:Hid (w.heap.size≤wr.heap.size∧g3<wr.heap.size):=⟨hm.size,(hm.get 0 rfl).lt⟩;have HV27:Hid ((∀b,v27.ownBlock=some b→w.heap.size≤b∨b∈ownL (.slice pk nk ck))∧some g3≠v27.ownBlock∧(v27.ownBlock=(Value.slice pk nk ck).ownBlock∨∃b,v27.ownBlock=some b∧w.heap.size≤b)):=hb.elim (fun h9=>by rw [h9];exact HV.out) (fun ⟨b9,h9,h8⟩=>by rw [h9];exact ⟨fun b7 h7=>Or.inl (by have h6:=Option.some.inj h7;have h5:=HS27.out;omega),(fun h7=>by have h6:=Option.some.inj h7;have h5:=HS27.out;omega),Or.inr ⟨b9,rfl,by have h5:=HS27.out;omega⟩⟩);replace hm:=hm.grownS HV.out.1 (bx HV.out.2.1 a6) hg;clear ho hg hb))
    go_roundw
    case rel=>exact ⟨i+1,by go_num,by omega,HO27.out,HV27.out,hm⟩
    case measure=>simp [intOf];omega
   ·obtain rfl:i=m:=by omega
    have hki:¬(i:Int)<(i:Int):=by omega
    have HFIN:Hid (prWs (t.l.take i) (add1 t l)=prW t l):=by show _=_;rw [HM.out (),List.take_length,prW_eq]
    clear HMM
    go_wp2_with (first
     | ((with_reducible refine af (some 16) (.load 22 (.tmp 15)) ?_);go_must (refine aa (.slice p i c) rfl (ad (.slice p i c) (Mem.cell hm 0 rfl 2) rfl ah) ?_)))
    go_ret
    exact ⟨_,rfl,by rw [←HFIN.out];exact HOV.out,hm.grow,HV.out.2.2⟩
end Go.Proofs.YtcibhfcjbokdlaaGreatDoor
