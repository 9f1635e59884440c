import Derived.Deep.LoopGhost
import Derived.Test.YtcibhfcjbokdlaaGreatDoorQk20
set_option maxRecDepth 100000
set_option maxHeartbeats 4000000
namespace Go.Proofs.YtcibhfcjbokdlaaGreatDoor
open Go Go.RowKit Classical
theorem der_mono (gt:Tm):∀K K':Tm→Prop,(∀t,K t→K' t)→Der K gt→Der K' gt:=fun _ _ h hd=>hd.mono h
theorem min_eq {bl:List Tm} {gt:Tm} (h:Kn bl gt):minT bl gt=(leastR (fun K=>Der K gt) (fun _=>False) (bl.filter isT).reverse).reverse:=by
 unfold minT
 rw [if_pos h]
 rfl
theorem min_sub {bl:List Tm} {gt t:Tm} (ht:t∈minT bl gt):t∈bl∧isT t=true:=by
 by_cases h:Kn bl gt
 ·rw [min_eq h,List.mem_reverse] at ht
  have h1:=eI _ _ t ht
  rw [List.mem_reverse] at h1
  exact List.mem_filter.1 h1
 ·unfold minT at ht
  rw [if_neg h] at ht
  cases ht
theorem min_len (bl:List Tm) (gt:Tm):(minT bl gt).length≤bl.length:=by
 unfold minT
 split
 ·exact Nat.le_trans (cw _ _ _) (List.length_filter_le _ _)
 ·exact Nat.zero_le _
theorem min_has {bl:List Tm} {gt:Tm} (h:Kn bl gt):Kn (minT bl gt) gt:=by
 refine ⟨h.1,?_⟩
 have h1:=leastR_has (der_mono gt) (bl.filter isT).reverse (fun _=>False) (h.2.mono fun t ht=>Or.inr (List.mem_reverse.2 (List.mem_filter.2 ht)))
 refine h1.mono fun t ht=>?_
 have h2:t∈minT bl gt:=by rw [min_eq h,List.mem_reverse];exact ht.resolve_left id
 exact ⟨h2,(min_sub h2).2⟩
theorem min_min {bl:List Tm} {gt:Tm} (h:Kn bl gt) {i:Nat} (hi:i<(minT bl gt).length):¬Kn ((minT bl gt).take i++(minT bl gt).drop (i+1)) gt:=by
 intro hk
 obtain ⟨M,hM⟩:∃M,M=minT bl gt:=⟨_,rfl⟩
 rw [←hM] at hk hi
 have e:leastR (fun K=>Der K gt) (fun _=>False) (bl.filter isT).reverse=(M.drop (i+1)).reverse++M[i]::(M.take i).reverse:=by
  have h1:=min_eq h
  rw [←hM] at h1
  have h2:=congrArg List.reverse h1
  rw [List.reverse_reverse] at h2
  rw [←h2]
  have h3:M=M.take i++M[i]::M.drop (i+1):=by rw [←List.drop_eq_getElem_cons hi,List.take_append_drop]
  conv=>lhs;rw [h3]
  simp
 refine leastR_min (der_mono gt) _ _ _ _ _ e (hk.2.mono fun t ht=>Or.inr ?_)
 have h1:=ht.1
 rw [List.mem_append] at h1 ⊢
 rw [List.mem_reverse,List.mem_reverse]
 exact h1.symm
theorem bI {l:List Tm} {gt:Tm} (h:Few l) (hg:cnt gt≤20):cnt gt+(l.map cnt).sum≤380:=by
 have h1:=few_sum h.2
 have h2:=Nat.mul_le_mul_right 20 h.1
 omega
theorem ep {l l2:List Tm} (h:Few l) (hs:∀t∈l2,t∈l) (hl:l2.length≤10):Few l2:=⟨hl,fun t ht=>h.2 t (hs t ht)⟩
theorem de {t:Tm}:Few [t]↔cnt t≤20:=⟨fun h=>h.2 t (List.mem_cons_self ..),fun h=>⟨by simp,fun x hx=>by rw [List.mem_singleton.1 hx];exact h⟩⟩
theorem least_walk {F:Nat→Prop} {G:Nat→Prop} (bl:List Tm) (gt:Tm) (bv s:Value) (w:World) (hY:Rdy w) (hbs:SlT F w bv bl) (hlen:bl.length≤maxLen) (hgs:SlT G w s gt.l) :
  Calls Tryz.prog 7 #[bv,.agg (tcs gt s).toArray] w fun e w'=>e=.returned (.bool true)∧Below w.heap.size w w':=by
 obtain ⟨pv,cv,rfl,hcv⟩:=hbs.len
 obtain ⟨lv,hlv⟩:∃l,l=bl.length:=⟨_,rfl⟩
 rw [←hlv] at hbs hcv ⊢
 obtain ⟨pp,cap,rfl,_⟩:=hgs.len
 obtain ⟨mm,hmm⟩:∃m,m=gt.l.length:=⟨_,rfl⟩
 rw [←hmm] at hgs ⊢
 have HY0:Hid (Rdy w):=hY
 have HBS0:Hid (SlT (fun b=>b<w.heap.size) w (.slice pv lv cv) bl):=hbs.lt
 have HGS0:Hid (SlT (fun b=>b<w.heap.size) w (.slice pp mm cap) gt.l):=hgs.lt
 have HLV:Hid (∀_:Unit,lv=bl.length):=fun _=>hlv
 have HLM:Hid (lv≤maxLen):=by show _≤_;rw [hlv];exact hlen
 have hlv9:lv≤9223372036854775807:=by have:=HLM.out;unfold maxLen at this;omega
 have tkk:Nat:=0
 have tf1:Nat:=0
 clear hY hbs hgs hmm hcv hlen hlv
 have hm:=Mem.start w
 go_enter Tryz.func7,Tryz.ntmps7
 go_wp2_with (first
  | ((with_reducible refine ad (some 3) (.box 24 (.tmp 1)) ?_);go_must (refine aH (tcs gt (.slice pp mm cap)) rfl hm ?_);clear hm;intro w1 g3 hm))
 have HB1:Hid (Below w.heap.size w w1):=hm.below
 have HR3:Hid (Row w1 g3 (tcs gt (.slice pp mm cap)) 24):=hm.get 0 rfl
 have HY:Hid (Rdy w1):=HY0.out.below HB1.out
 have HBS:Hid (SlT (fun b=>b<w1.heap.size) w1 (.slice pv lv cv) bl):=(HBS0.out.below HB1.out).weak fun b hb=>Nat.lt_of_lt_of_le hb HB1.out.size
 have HGS:Hid (SlT (fun b=>b<w1.heap.size) w1 (.slice pp mm cap) gt.l):=(HGS0.out.below HB1.out).weak fun b hb=>Nat.lt_of_lt_of_le hb HB1.out.size
 clear hm HY0 HBS0 HGS0
 have hm:=Mem.start w1
 by_cases hfew:Few bl
 ·by_cases hg20:cnt gt≤20
  ·have hf2:Few [gt]:=de.2 hg20
   have HF1:Hid (∀W,Below w1.heap.size w1 W→Calls Tryz.prog 10 #[.slice pv lv cv] W fun e w'=>e=.returned (.bool true)∧Below W.heap.size W w'):=fun W hW=>aU bl pv lv cv W true (⟨fun _=>hfew,fun _=>rfl⟩) (HLV.out ()) HLM.out (HBS.out.below hW)
   have HF2:Hid (Few [gt]):=hf2
   have HSM:Hid (cnt gt+(bl.map cnt).sum≤380):=bI hfew hg20
   have HBL:Hid (bl.length≤1000):=Nat.le_trans hfew.1 (by omega)
   obtain ⟨M,hM⟩:∃M,M=minT bl gt:=⟨_,rfl⟩
   obtain ⟨l5,hl5⟩:∃l,l=M.length:=⟨_,rfl⟩
   have HL5:Hid (∀_:Unit,l5=M.length):=fun _=>hl5
   have HMN:Hid (∀W,Below w1.heap.size w1 W→Calls Tryz.prog 16 #[.slice pv lv cv,.agg (tcs gt (.slice pp mm cap)).toArray] W fun e w'=>∃v,e=.returned v∧SlT (FN W.heap.size w'.heap.size) w' v M∧Below W.heap.size W w'):=fun W hW=>by rw [hM];exact min_any bl gt (.slice pv lv cv) (.slice pp mm cap) W (HBS.out.below hW) (HGS.out.below hW) (fun _=>bg HSM.out) HBL.out
   by_cases hkn:Kn bl gt
   ·have HK1:Hid (∀W,Below w1.heap.size w1 W→Calls Tryz.prog 11 #[.slice pv lv cv,.agg (tcs gt (.slice pp mm cap)).toArray] W fun e w'=>e=.returned (.bool true)∧Below W.heap.size W w'):=fun W hW=>by have h:=aW bl gt (.slice pv lv cv) (.slice pp mm cap) W (HBS.out.below hW) (HGS.out.below hW) (fun _=>bg HSM.out) HBL.out;rw [decide_eq_true hkn] at h;exact h
    have HMM:Hid (∀i,i<M.length→¬Kn (M.take i++M.drop (i+1)) gt):=fun i hi=>by rw [hM] at hi ⊢;exact min_min hkn hi
    have HMS:Hid (Kn M gt∧Few M):=⟨by rw [hM];exact min_has hkn,by rw [hM];exact ep hfew (fun t ht=>(min_sub ht).1) (Nat.le_trans (min_len bl gt) hfew.1)⟩
    have HG20:Hid (cnt gt≤20):=hg20
    have hl5b:l5≤10:=by rw [hl5];exact HMS.out.2.1
    have tka:Nat:=0
    have tkb:Nat:=0
    clear hfew hg20 hf2 hkn hM hl5
    go_wp2_with (first
     | (clear tkk;go_at_call 9;go_must (refine (aL _ (HY.out.below hm.below)).mono ?_);rintro e wk ⟨he,hb⟩;subst he;replace hm:=hm.call hb;clear hb)
     | (clear tf1;go_at_call 10;go_must (refine (HF1.out _ hm.below).mono ?_);rintro e wf ⟨he,hb⟩;subst he;replace hm:=hm.call hb;clear hb)
     | ((with_reducible refine aI (some 14) (.load 24 (.tmp 3)) (some (3,false)) ?_);go_must (refine aa (.agg (tcs gt (.slice pp mm cap)).toArray) rfl (ah 0 (tcs gt (.slice pp mm cap)) (HR3.out.below' hm.below) rfl _ Tryz.underlying24 rfl 3 af (Nat.le_refl _) rfl) ?_))
     | ((with_reducible refine aI (some 15) (.buildSlice 22 1 #[(0,.tmp 14)]) (some (3,false)) ?_);go_must (refine bf gt (.slice pp mm cap) rfl rfl hm ?_);clear hm;intro w15 g15 hb hg hm;have H15:Hid (SlT (fun _=>True) w15 (.slice (some ⟨g15,0,none⟩) 1 1) [gt]):=bP (hm.get 0 rfl) ((HGS.out.below hm.below).weak (fun _ _=>trivial)) trivial;clear hb hg)
     | (go_at_call 10;go_must (refine (aU [gt] (some ⟨g15,0,none⟩) 1 1 _ true (⟨fun _=>HF2.out,fun _=>rfl⟩) rfl (by unfold maxLen;omega) H15.out).mono ?_);rintro e wf2 ⟨he,hb⟩;subst he;replace hm:=hm.call hb;clear hb)
     | ((with_reducible refine ad (some 20) (.load 24 (.tmp 3)) ?_);go_must (refine aa (.agg (tcs gt (.slice pp mm cap)).toArray) rfl (ah 0 (tcs gt (.slice pp mm cap)) (HR3.out.below' hm.below) rfl _ Tryz.underlying24 rfl 3 af (Nat.le_refl _) rfl) ?_))
     | (go_at_call 16;go_must (refine (HMN.out _ hm.below).mono ?_);rintro e w21 ⟨v21,he,hs21,hb21⟩;obtain ⟨p21,c21,hv21,hcp⟩:=hs21.len;rw [←HL5.out ()] at hv21;subst hv21;subst he;replace hm:=hm.call hb21;have HB21:Hid (Below w1.heap.size w1 w21):=hm.below;have HS21:Hid (SlT (fun b=>b<w21.heap.size) w21 (.slice p21 l5 c21) M):=hs21.weak (fun b hb=>hb.2);have HCP:Hid (l5≤c21):=(by rw [HL5.out ()];exact hcp);clear hb21 hs21 hcp)
     | ((with_reducible refine ad (some 23) (.load 24 (.tmp 3)) ?_);go_must (refine aa (.agg (tcs gt (.slice pp mm cap)).toArray) rfl (ah 0 (tcs gt (.slice pp mm cap)) (HR3.out.below' hm.below) rfl _ Tryz.underlying24 rfl 3 af (Nat.le_refl _) rfl) ?_))
     | (clear tka;go_at_call 11;go_must (refine (HK1.out _ hm.below).mono ?_);rintro e w24 ⟨he,hb⟩;subst he;replace hm:=hm.call hb;have HX24:Hid (Below w21.heap.size w21 w24):=hb;clear hb)
     | ((with_reducible refine ad (some 30) (.load 24 (.tmp 3)) ?_);go_must (refine aa (.agg (tcs gt (.slice pp mm cap)).toArray) rfl (ah 0 (tcs gt (.slice pp mm cap)) (HR3.out.below' hm.below) rfl _ Tryz.underlying24 rfl 3 af (Nat.le_refl _) rfl) ?_))
     | (clear tkb;go_at_call 11;have h9:=(fun W (hW:Below w21.heap.size w21 W) (hW1:Below w1.heap.size w1 W)=>aW M gt (.slice p21 l5 c21) (.slice pp mm cap) W (HS21.out.below hW) (HGS.out.below hW1) (fun _=>bg (bI HMS.out.2 HG20.out)) (Nat.le_trans HMS.out.2.1 (by omega)));rw [decide_eq_true HMS.out.1] at h9;go_must (refine (h9 _ HX24.out hm.below).mono ?_);rintro e w31 ⟨he,hb⟩;subst he;have HX31:Hid (Below w21.heap.size w21 w31):=HX24.out.trans (hb.mono HX24.out.size);replace hm:=hm.call hb;clear hb h9))
    have HSL:Hid (SlT (fun b=>b<w31.heap.size) w31 (.slice p21 l5 c21) M):=(HS21.out.below HX31.out).weak fun b hb=>Nat.lt_of_lt_of_le hb HX31.out.size
    have HBE:Hid (Below w.heap.size w w31):=HB1.out.trans (hm.below.mono HB1.out.size)
    have HRL:Hid (Row w31 g3 (tcs gt (.slice pp mm cap)) 24):=HR3.out.below' hm.below
    have HGL:Hid (SlT (fun b=>b<w1.heap.size) w31 (.slice pp mm cap) gt.l):=HGS.out.below hm.below
    clear hm HR3 HGS HX31 HX24 HS21
    have hm:=Mem.start w31
    go_loopw [6] (fun vi wr=>∃i:Nat,vi=.int .i64 (i:Int)∧i≤l5∧Hid (Mem w31 [] wr [])) (fun vi _=>l5 - (intOf vi).toNat)
    case atStart=>exact ⟨0,rfl,Nat.zero_le _,hm⟩
    case round =>
     clear hm
     obtain ⟨i,rfl,hil,HMW⟩:=hrel
     have hm:=HMW.out
     by_cases hlt:i<l5
     ·have hlt:i+1≤l5:=hlt
      have hki:(i:Int)<(l5:Int):=by omega
      have hic:i≤c21:=by have:=HCP.out;omega
      have hw1:IntKind.i64.wrap ((i:Int)+1)=(i:Int)+1:=bd _ (by omega) (by omega)
      have hno:=HMM.out i (by rw [←HL5.out ()];omega)
      have HMF:Hid (Few (M.take i++M.drop (i+1))):=ep HMS.out.2 (fun t ht=>by
       rcases List.mem_append.1 ht with h|h
       ·exact List.mem_of_mem_take h
       ·exact List.mem_of_mem_drop h) (by rw [List.length_append,List.length_take,List.length_drop,←HL5.out ()];omega)
      have HNO:Hid (¬Kn (M.take i++M.drop (i+1)) gt):=hno
      clear hno HMW
      go_wp2_with fail
      refine ay ?_
      refine ao (T:=fun W=>Mem w31 [] W []) (by kernel_rfl) hm ?_
      intro wc hbw hmw
      replace hm:Mem w31 [] wc []:=hmw
      clear hbw hmw
      refine aT 0 (v:=.slice p21 l5 c21) rfl (by kernel_rfl) rfl (fun W _=>by go_simp) hm ?_
      go_simp
      refine aT 1 (v:=.int .i64 (i:Int)) rfl (by kernel_rfl) rfl (fun W _=>by go_simp) hm ?_
      go_simp
      refine aT 2 (v:=.slice (cutHi p21 c21) i c21) rfl (by kernel_rfl) rfl (fun W _=>dP i hic rfl rfl rfl) hm ?_
      go_simp
      refine aT 4 (v:=.slice p21 l5 c21) rfl (by kernel_rfl) rfl (fun W _=>by go_simp) hm ?_
      go_simp
      refine aT 5 (v:=.int .i64 (i:Int)) rfl (by kernel_rfl) rfl (fun W _=>by go_simp) hm ?_
      go_simp
      refine aT 6 (v:=.int .i64 ((i:Int)+1)) rfl (by kernel_rfl) rfl (fun W _=>by go_simp) hm ?_
      go_simp
      refine aT 7 (v:=.slice (offA p21 c21 (i+1)) (l5 - (i+1)) (c21 - (i+1))) rfl (by kernel_rfl) rfl (fun W _=>dF (i+1) hlt rfl rfl (by omega)) hm ?_
      go_simp
      refine aO 3 (by kernel_rfl) rfl rfl ?_
      intro K hK
      refine aw (base:=w31.heap.size) (l2:=M.take i) rfl rfl rfl hm OT.nil (by rw [List.length_take];have h9:=HL5.out ();omega) (OT.nil.old (base:=w31.heap.size) (fun b hb=>hb) ((HSL.out.take hil).below hm.below) hm.size) (by simp;omega) (Nat.le_refl _) hm.size aV ?_
      intro v42 w42 ho hg hb9 hm5
      have HO42:Hid (OT w31.heap.size w42 v42 (M.take i)):=(by rw [List.nil_append] at ho;exact ho)
      clear hm ho hg hb9
      have hm:=hm5
      clear hm5
      refine wpList_nil ?_
      refine hK _ _ hm ?_
      clear hK K
      go_simp
      refine aO 8 (by kernel_rfl) rfl rfl ?_
      intro K hK
      refine aw (base:=w31.heap.size) (l2:=M.drop (i+1)) rfl rfl rfl hm HO42.out (by rw [List.length_drop];have h9:=HL5.out ();omega) (HO42.out.old (fun b hb=>hb) ((HSL.out.drop hlt).below hm.below) hm.size) (by rw [List.length_take];omega) (Nat.le_refl _) hm.size aV ?_
      intro v47 w47 ho hg hb9 hm5
      have HO47:Hid (OT w31.heap.size w47 v47 (M.take i++M.drop (i+1))):=ho
      clear hm ho hg hb9
      have hm:=hm5
      clear hm5
      refine wpList_nil ?_
      refine hK _ _ hm ?_
      clear hK K
      go_simp
      refine aT 9 (v:=v47) rfl (by kernel_rfl) rfl (fun W _=>by go_simp) hm ?_
      go_simp
      refine wpAnyH_done (by kernel_rfl) ?_ _
      simp only [endsIn]
      go_wp2_with (first
       | ((with_reducible refine ad (some 49) (.load 24 (.tmp 3)) ?_);go_must (refine aa (.agg (tcs gt (.slice pp mm cap)).toArray) rfl (ah 0 (tcs gt (.slice pp mm cap)) (HRL.out.below' hm.below) rfl _ Tryz.underlying24 rfl 3 af (Nat.le_refl _) rfl) ?_))
       | (go_at_call 11;have h9:=aW (M.take i++M.drop (i+1)) gt v47 (.slice pp mm cap) w47 HO47.out.slt (HGL.out.below hm.below) (fun _=>bg (bI HMF.out HG20.out)) (Nat.le_trans HMF.out.1 (by omega));rw [decide_eq_false HNO.out] at h9;go_must (refine h9.mono ?_);rintro e w50 ⟨he,hb⟩;subst he;replace hm:=hm.call hb;clear hb h9))
      go_roundw
      case rel=>exact ⟨i+1,by go_num,by omega,hm⟩
      case measure=>simp [intOf];omega
     ·obtain rfl:i=l5:=by omega
      have hki:¬(i:Int)<(i:Int):=by omega
      clear HMW
      go_wp2_with fail
      go_ret
      exact ⟨rfl,HBE.out.trans (hm.below.mono HBE.out.size)⟩
   ·have HK1:Hid (∀W,Below w1.heap.size w1 W→Calls Tryz.prog 11 #[.slice pv lv cv,.agg (tcs gt (.slice pp mm cap)).toArray] W fun e w'=>e=.returned (.bool false)∧Below W.heap.size W w'):=fun W hW=>by have h:=aW bl gt (.slice pv lv cv) (.slice pp mm cap) W (HBS.out.below hW) (HGS.out.below hW) (fun _=>bg HSM.out) HBL.out;rw [decide_eq_false hkn] at h;exact h
    have hl0:l5=0:=by rw [hl5,hM];unfold minT;rw [if_neg hkn];rfl
    clear hfew hg20 hf2 hkn hM hl5
    go_wp2_with (first
     | (clear tkk;go_at_call 9;go_must (refine (aL _ (HY.out.below hm.below)).mono ?_);rintro e wk ⟨he,hb⟩;subst he;replace hm:=hm.call hb;clear hb)
     | (clear tf1;go_at_call 10;go_must (refine (HF1.out _ hm.below).mono ?_);rintro e wf ⟨he,hb⟩;subst he;replace hm:=hm.call hb;clear hb)
     | ((with_reducible refine aI (some 14) (.load 24 (.tmp 3)) (some (3,false)) ?_);go_must (refine aa (.agg (tcs gt (.slice pp mm cap)).toArray) rfl (ah 0 (tcs gt (.slice pp mm cap)) (HR3.out.below' hm.below) rfl _ Tryz.underlying24 rfl 3 af (Nat.le_refl _) rfl) ?_))
     | ((with_reducible refine aI (some 15) (.buildSlice 22 1 #[(0,.tmp 14)]) (some (3,false)) ?_);go_must (refine bf gt (.slice pp mm cap) rfl rfl hm ?_);clear hm;intro w15 g15 hb hg hm;have H15:Hid (SlT (fun _=>True) w15 (.slice (some ⟨g15,0,none⟩) 1 1) [gt]):=bP (hm.get 0 rfl) ((HGS.out.below hm.below).weak (fun _ _=>trivial)) trivial;clear hb hg)
     | (go_at_call 10;go_must (refine (aU [gt] (some ⟨g15,0,none⟩) 1 1 _ true (⟨fun _=>HF2.out,fun _=>rfl⟩) rfl (by unfold maxLen;omega) H15.out).mono ?_);rintro e wf2 ⟨he,hb⟩;subst he;replace hm:=hm.call hb;clear hb)
     | ((with_reducible refine ad (some 20) (.load 24 (.tmp 3)) ?_);go_must (refine aa (.agg (tcs gt (.slice pp mm cap)).toArray) rfl (ah 0 (tcs gt (.slice pp mm cap)) (HR3.out.below' hm.below) rfl _ Tryz.underlying24 rfl 3 af (Nat.le_refl _) rfl) ?_))
     | (go_at_call 16;go_must (refine (HMN.out _ hm.below).mono ?_);rintro e w21 ⟨v21,he,hs21,hb21⟩;obtain ⟨p21,c21,hv21,hcp⟩:=hs21.len;rw [←HL5.out ()] at hv21;subst hv21;subst he;replace hm:=hm.call hb21;have HB21:Hid (Below w1.heap.size w1 w21):=hm.below;have HS21:Hid (SlT (fun b=>b<w21.heap.size) w21 (.slice p21 l5 c21) M):=hs21.weak (fun b hb=>hb.2);have HCP:Hid (l5≤c21):=(by rw [HL5.out ()];exact hcp);clear hb21 hs21 hcp)
     | ((with_reducible refine ad (some 23) (.load 24 (.tmp 3)) ?_);go_must (refine aa (.agg (tcs gt (.slice pp mm cap)).toArray) rfl (ah 0 (tcs gt (.slice pp mm cap)) (HR3.out.below' hm.below) rfl _ Tryz.underlying24 rfl 3 af (Nat.le_refl _) rfl) ?_))
     | (go_at_call 11;go_must (refine (HK1.out _ hm.below).mono ?_);rintro e w24 ⟨he,hb⟩;subst he;replace hm:=hm.call hb;clear hb))
    go_ret
    exact ⟨rfl,HB1.out.trans (hm.below.mono HB1.out.size)⟩
  ·have HF2:Hid (¬Few [gt]):=fun h=>hg20 (de.1 h)
   have HF1:Hid (∀W,Below w1.heap.size w1 W→Calls Tryz.prog 10 #[.slice pv lv cv] W fun e w'=>e=.returned (.bool true)∧Below W.heap.size W w'):=fun W hW=>aU bl pv lv cv W true (⟨fun _=>hfew,fun _=>rfl⟩) (HLV.out ()) HLM.out (HBS.out.below hW)
   clear hfew hg20
   go_wp2_with (first
    | (clear tkk;go_at_call 9;go_must (refine (aL _ (HY.out.below hm.below)).mono ?_);rintro e wk ⟨he,hb⟩;subst he;replace hm:=hm.call hb;clear hb)
    | (clear tf1;go_at_call 10;go_must (refine (HF1.out _ hm.below).mono ?_);rintro e wf ⟨he,hb⟩;subst he;replace hm:=hm.call hb;clear hb)
    | ((with_reducible refine aI (some 14) (.load 24 (.tmp 3)) (some (3,false)) ?_);go_must (refine aa (.agg (tcs gt (.slice pp mm cap)).toArray) rfl (ah 0 (tcs gt (.slice pp mm cap)) (HR3.out.below' hm.below) rfl _ Tryz.underlying24 rfl 3 af (Nat.le_refl _) rfl) ?_))
    | ((with_reducible refine aI (some 15) (.buildSlice 22 1 #[(0,.tmp 14)]) (some (3,false)) ?_);go_must (refine bf gt (.slice pp mm cap) rfl rfl hm ?_);clear hm;intro w15 g15 hb hg hm;have H15:Hid (SlT (fun _=>True) w15 (.slice (some ⟨g15,0,none⟩) 1 1) [gt]):=bP (hm.get 0 rfl) ((HGS.out.below hm.below).weak (fun _ _=>trivial)) trivial;clear hb hg)
    | (go_at_call 10;go_must (refine (aU [gt] (some ⟨g15,0,none⟩) 1 1 _ false (⟨(fun h=>by cases h),fun h=>absurd h HF2.out⟩) rfl (by unfold maxLen;omega) H15.out).mono ?_);rintro e wf2 ⟨he,hb⟩;subst he;replace hm:=hm.call hb;clear hb))
   go_ret
   exact ⟨rfl,HB1.out.trans (hm.below.mono HB1.out.size)⟩
 ·have HF1:Hid (∀W,Below w1.heap.size w1 W→Calls Tryz.prog 10 #[.slice pv lv cv] W fun e w'=>e=.returned (.bool false)∧Below W.heap.size W w'):=fun W hW=>aU bl pv lv cv W false (⟨(fun h=>by cases h),fun h=>absurd h hfew⟩) (HLV.out ()) HLM.out (HBS.out.below hW)
  clear hfew
  go_wp2_with (first
   | (clear tkk;go_at_call 9;go_must (refine (aL _ (HY.out.below hm.below)).mono ?_);rintro e wk ⟨he,hb⟩;subst he;replace hm:=hm.call hb;clear hb)
   | (clear tf1;go_at_call 10;go_must (refine (HF1.out _ hm.below).mono ?_);rintro e wf ⟨he,hb⟩;subst he;replace hm:=hm.call hb;clear hb))
  go_ret
  exact ⟨rfl,HB1.out.trans (hm.below.mono HB1.out.size)⟩
end Go.Proofs.YtcibhfcjbokdlaaGreatDoor
