import Derived.Deep.LoopGhost
import Derived.Test.YtcibhfcjbokdlaaGreatDoorQt13
set_option maxRecDepth 100000
set_option maxHeartbeats 4000000
namespace Go.Proofs.YtcibhfcjbokdlaaGreatDoor
open Go Go.RowKit Go.Maps Classical
/-- All is below where the derived's own blocks began. -/
theorem eh {B S0:Nat} {w0 w5 w6 w7:World} {dg mk:Nat} (hb5:Below B w0 w5) (hs:B≤w5.heap.size) (hb6:Below w5.heap.size w5 w6) (hd:w5.heap.size≤dg) (hm:w5.heap.size≤mk) (hk:Kp dg mk (.slice none 0 0) w6 w7):Below B w0 w7:=by
 have _:=S0
 exact hk.belowB (hb5.trans (hb6.mono hs)) (by omega) (by omega) (fun b hb=>by cases hb) (Nat.le_trans hs hb6.size)
def minT [∀p:Prop,Decidable p] (bl:List Tm) (gt:Tm):List Tm:=if Kn bl gt then leastF (fun K=>Der K gt) (fun _=>False) (bl.filter isT) else []
theorem knows_is {F G:Nat→Prop} (bl:List Tm) (gt:Tm) (bv:Value) (pp:Option Addr) (mm cap:Nat) (w:World) (hbs:SlT F w bv bl) (hgs:SlT G w (.slice pp mm cap) gt.l) (hgi:isT gt=true) (hT:((webW gt (webWs (bl.filter isT) []))).length≤380) (hbl:bl.length≤1000) :
  Calls Tryz.prog 11 #[bv,.agg (tcs gt (.slice pp mm cap)).toArray] w fun e w'=>e=.returned (.bool (decide (Kn bl gt)))∧Below w.heap.size w w':=by
 have HIS:Hid (∀W,Below w.heap.size w W→Calls Tryz.prog 23 #[.agg (tcs gt (.slice pp mm cap)).toArray] W fun e w'=>e=.returned (.bool true)∧Below W.heap.size W w'):=fun W hW=>by have h:=dL gt (.slice pp mm cap) W (hgs.below hW);rw [hgi] at h;exact h
 have HBL:Hid (SlT (fun b=>b<w.heap.size) w bv bl):=hbs.lt
 have HGS:Hid (SlT (fun b=>b<w.heap.size) w (.slice pp mm cap) gt.l):=hgs.lt
 have HG:Hid (isT gt=true):=hgi
 have HL:Hid (((webW gt (webWs (bl.filter isT) []))).length≤380∧bl.length≤1000):=⟨hT,hbl⟩
 obtain ⟨NL,hNL⟩:∃l,l=bl.filter isT:=⟨_,rfl⟩
 have HNL:Hid (∀_:Unit,NL=bl.filter isT):=fun _=>hNL
 have HNL4:Hid (NL.length≤1000):=by show _≤_;rw [hNL];exact Nat.le_trans (List.length_filter_le _ _) hbl
 rw [←hNL] at HL
 obtain ⟨T1,hT1⟩:∃t,t=webWs NL []:=⟨_,rfl⟩
 have HT1:Hid (∀_:Unit,T1=webWs NL []):=fun _=>hT1
 rw [←hT1] at HL
 have hw1:Web T1:=by rw [hT1,hNL];exact (dh bl).1
 have HAD:Hid (Added gt T1 (webW gt T1)):=cw gt (dd hgi) T1 hw1
 obtain ⟨T,hTT⟩:∃t,t=webW gt T1:=⟨_,rfl⟩
 have HTT:Hid (∀_:Unit,T=webW gt T1):=fun _=>hTT
 rw [←hTT] at HAD HL
 have HT14:Hid (T1.length≤10000):=by
  obtain ⟨s9,e9⟩:=HAD.out.pre
  have h9:=HL.out.1
  rw [e9,List.length_append] at h9
  show _≤_
  omega
 obtain ⟨gq,hgq⟩:∃q,q=idxT T gt:=⟨_,rfl⟩
 have HGQ:Hid (T[gq]?=some gt):=by show _=_;rw [hgq];exact a7 HAD.out.web.ok HAD.out.has
 have HIX:Hid (∀_:Unit,gq=idxT T gt):=fun _=>hgq
 have h0T:0<T.length:=by have:=(List.getElem?_eq_some_iff.1 HGQ.out).1;omega
 have HT0:Hid (0<T.length):=h0T
 clear hbs hgs hgi hT hbl hNL hT1 hTT hgq hw1 h0T
 have hm:=Mem.start w
 go_enter Tryz.func11,Tryz.ntmps11
 go_wp2_with (first
  | ((with_reducible refine af (some 3) (.box 24 (.tmp 1)) ?_);go_must (refine aw (tcs gt (.slice pp mm cap)) rfl hm ?_);clear hm;intro w1 g3 hm)
  | ((with_reducible refine af (some 9) (.load 24 (.tmp 3)) ?_);go_must (refine aE 0 hm rfl rfl _ Tryz.underlying24 rfl 3 aj rfl ?_))
  | (go_at_call 23;go_must (refine (HIS.out _ hm.below).mono ?_);rintro e w2 ⟨he,hb⟩;subst he;replace hm:=hm.call hb;clear hb))
 have HBE:Hid (Below w.heap.size w w2):=hm.below
 have HR3:Hid (Row w2 g3 (tcs gt (.slice pp mm cap)) 24):=hm.get 0 rfl
 have HS2:Hid (w.heap.size≤w2.heap.size):=hm.size
 clear hm
 have hm:=Mem.start w2
 go_wp2_with (first
  | (go_at_call 24;go_must (refine (c7 _).mono ?_);rintro e w3 ⟨g,m,he,hwa,hb⟩;subst he;have HW3:Hid (WebN w2.heap.size w3 g m [] [] [] (.slice none 0 0) (.slice none 0 0)):=hwa.n;have HB3:Hid (Below w2.heap.size w2 w3):=hb;clear hwa hm;have hm:=(Mem.start w3)))
 refine aq ?_
 refine ao (T:=fun W=>Row W g3 (tcs gt (.slice pp mm cap)) 24) (by kernel_rfl) hm ?_
 intro wc hbw hmw
 have HWC:Hid (WebN w2.heap.size wc g m [] [] [] (.slice none 0 0) (.slice none 0 0)):=HW3.out.below hbw
 have HBC:Hid (Below w2.heap.size w2 wc):=HB3.out.trans (hbw.mono HB3.out.size)
 have HCS:Hid (w2.heap.size≤wc.heap.size):=HBC.out.size
 replace hm:Row wc g3 (tcs gt (.slice pp mm cap)) 24:=HR3.out.below' HBC.out
 have HBLC:Hid (SlT (fun b=>b<w2.heap.size) wc bv bl):=((HBL.out.below HBE.out).weak fun b hb=>Nat.lt_of_lt_of_le hb HS2.out).keep (Keeps.below (w:=w2) HBC.out)
 have HGSC:Hid (SlT (fun b=>b<w2.heap.size) wc (.slice pp mm cap) gt.l):=((HGS.out.below HBE.out).weak fun b hb=>Nat.lt_of_lt_of_le hb HS2.out).keep (Keeps.below (w:=w2) HBC.out)
 have HFP0:Hid (∀b,Fp g m [] (.slice none 0 0) (.slice none 0 0) b→w2.heap.size≤b):=fun b hb=>(HWC.out.lt hb).1
 have HG3:Hid (g3<w2.heap.size):=HR3.out.lt
 clear hbw hmw
 refine aT 0 (v:=.pointer (some ⟨g,0,none⟩)) rfl (by kernel_rfl) rfl (fun W _=>by go_simp) hm ?_
 go_simp
 refine aT 1 (v:=bv) rfl (by kernel_rfl) rfl (fun W _=>by go_simp) hm ?_
 go_simp
 refine aT 3 (v:=.pointer (some ⟨g,0,none⟩)) rfl (by kernel_rfl) rfl (fun W _=>by go_simp) hm ?_
 go_simp
 refine aT 4 (v:=.agg (tcs gt (.slice pp mm cap)).toArray) rfl (by kernel_rfl) rfl (fun W hW=>aB 0 (tcs gt (.slice pp mm cap)) hW rfl _ Tryz.underlying24 rfl 3 aj (Nat.le_refl _) rfl) hm ?_
 go_simp
 refine aO 2 (by kernel_rfl) rfl rfl ?_
 intro K hK
 go_wp2_with (go_at_call 25;go_must (refine (cV w2.heap.size wc g m [] [] _ _ bv bl HWC.out Nm.nil HBLC.out (by have h9:=HL.out.2;omega) (by rw [←HNL.out (),←HT1.out ()];exact HT14.out)).mono ?_);rw [←HNL.out (),←HT1.out ()];rintro e w4 ⟨AL1,vs1,va1,vr1,ql,he,hn4,ha4,hq4⟩;obtain ⟨lq,hlq⟩:∃l,l=ql.length:=⟨_,rfl⟩;obtain ⟨pr1,cr1,hvr1⟩:=bN ha4.own;rw [←hlq] at hvr1;subst hvr1;subst he;have HLQ:Hid (∀_:Unit,lq=ql.length):=fun _=>hlq;have HN4:Hid (Nm T1 AL1):=hn4;have HA4:Hid (Aa w2.heap.size wc w4 (Fp g m [] (.slice none 0 0) (.slice none 0 0)) g m T1 AL1 vs1 va1 (.slice pr1 lq cr1) ql):=ha4;have HQ4:Hid (NumsOf T1 ql NL):=hq4;replace hm:=ha4.fr.row hm (fun h9=>by have h8:=HFP0.out _ h9;have h7:=HG3.out;omega);clear hn4 ha4 hq4 hlq)
 refine hK _ _ hm ?_
 clear hK K
 go_simp
 refine aO 5 (by kernel_rfl) rfl rfl ?_
 intro K hK
 go_wp2_with (go_at_call 26;go_must (refine (add_any gt w2.heap.size w4 g m T1 AL1 vs1 va1 (.slice pp mm cap) HA4.out.web HN4.out (HA4.out.fr.tree HFP0.out HCS.out HGSC.out) (dd HG.out) (by rw [←HTT.out ()];have h9:=HL.out.1;omega)).mono ?_);rw [←HTT.out (),←HIX.out ()];rintro e w5 ⟨AL,vs,va,he,hw5,hn5,hf5,hs5⟩;subst he;have HW5:Hid (WebN w2.heap.size w5 g m T T AL vs va):=hw5;have HN5:Hid (Nm T AL):=hn5;have HF5:Hid (Fr (Fp g m AL1 vs1 va1) w4 w5):=hf5;replace hm:=hf5.row hm (fun h9=>by have h8:=(HA4.out.web.lt h9).1;have h7:=HG3.out;omega);clear hw5 hn5 hf5 hs5)
 refine hK _ _ hm ?_
 clear hK K
 go_simp
 refine aT 6 (v:=.slice pr1 lq cr1) rfl (by kernel_rfl) rfl (fun W _=>by go_simp) hm ?_
 go_simp
 refine aT 7 (v:=.int .i64 (gq:Int)) rfl (by kernel_rfl) rfl (fun W _=>by go_simp) hm ?_
 go_simp
 refine wpAnyH_done (by kernel_rfl) ?_ _
 simp only [endsIn]
 have HO5:Hid (w5.ownsRow wc.heap.size 3 1 (.slice pr1 lq cr1) ql.length (nums ql)):=aF HA4.out.own fun b hb=>HF5.out.block b (av HA4.out.own hb).2 (HA4.out.sep b hb)
 have HB5:Hid (Below w2.heap.size w2 w5):=HF5.out.belowB (HA4.out.fr.belowB HBC.out HFP0.out HCS.out) (fun b hb=>(HA4.out.web.lt hb).1) (Nat.le_trans HCS.out HA4.out.fr.size)
 have HFP5:Hid (∀b,Fp g m AL vs va b→b<w5.heap.size):=fun b hb=>(HW5.out.lt hb).2
 have HSZ5:Hid (w2.heap.size≤w5.heap.size):=HB5.out.size
 clear hm
 have hm:=Mem.start w5
 go_wp2_with (first
  | (go_at_call 27;go_must (refine (bR _ g T).mono ?_);rintro e w6 ⟨dg,mk,he,hda,hb,hdg,hmk⟩;subst he;have HLT6:Hid (w5.heap.size≤dg∧w5.heap.size≤mk∧dg<w6.heap.size∧mk<w6.heap.size∧w5.heap.size≤w6.heap.size):=⟨hdg,hmk,(hda 0).row.lt,(by obtain ⟨_,_,hk9⟩:=(hda 0).km;exact hk9.lt),hb.size⟩;have HD6:Hid (Dd w2.heap.size w5.heap.size 0 w6 g m dg mk T AL vs va [] (.slice none 0 0) []):=⟨HW5.out.below hb,fun b h9=>by have h8:=HFP5.out b h9;have h7:=HLT6.out;exact ⟨h8,by omega,by omega⟩,HLT6.out.2.2,hda _⟩;have HB6:Hid (Below w5.heap.size w5 w6):=hb;have HO6:Hid (w6.ownsRow wc.heap.size 3 1 (.slice pr1 lq cr1) ql.length (nums ql)):=aK HO5.out hb;have HAP6:Hid (Apn (.slice pr1 lq cr1) dg mk (.slice none 0 0) w6):=(fun b hb9=>by have h9:=(av HO5.out hb9).2;have h8:=HLT6.out;exact ⟨by omega,by omega,(by intro h7;cases h7),by omega⟩);clear hda hb hdg hmk hm;have hm:=Mem.start w6)
  | (go_at_call 28;have hbx:=hm.below;go_must (refine (learn_D w2.heap.size w5.heap.size 0 _ g m dg mk T AL vs va [] (.slice none 0 0) [] (fun _=>False) ql NL pr1 lq cr1 (HD6.out.below hbx) HN5.out HL.out.1 HT0.out Lrn.none (by omega) (HLQ.out ()) (by have h9:=HQ4.out.1;have h8:=HNL4.out;have h7:=HLQ.out ();omega) (HQ4.out.mono HAD.out.pre) (SlN.below (by have h9:=bK HO6.out;exact h9) hbx) (HAP6.out.kp (Vn.refl _ _) hbx.size)).mono ?_);rintro e w7 ⟨he,vr,rl,R,hd7,hl7,hk7,hv7⟩;subst he;have HD7:Hid (Dd w2.heap.size w5.heap.size 0 w7 g m dg mk T AL vs va R vr rl):=hd7;have HL7:Hid (Lrn (inB bl) T R []):=(by rw [←B_eq bl,←HNL.out ()];exact hl7);have HK7:Hid (Kp dg mk (.slice none 0 0) w6 w7):=(Kp.of_below hbx).trans (Vn.refl _ _) hk7;have HV7:Hid (Vn (.slice none 0 0) vr w6):=Vn.trans (Vn.refl _ _) hv7 hbx.size;clear hd7 hl7 hk7 hv7 hbx hm;have hm:=Mem.start w7))
 go_wp2_with (first
  | (go_at_call 29;have hbx:=hm.below;go_must (refine (has_D w2.heap.size w5.heap.size 0 _ g m dg mk T AL vs va R vr rl gq gt (HD7.out.below hbx) HL.out.1 HGQ.out).mono ?_);rintro e w8 ⟨he,hb⟩;subst he;replace hm:=hm.call hb;clear hb hbx))
 go_ret
 refine ⟨?_,(HBE.out.trans ((eh (S0:=0) HB5.out HSZ5.out HB6.out HLT6.out.1 HLT6.out.2.1 HK7.out).mono HS2.out)).trans (hm.below.mono (Nat.le_trans (Nat.le_trans HS2.out HSZ5.out) (Nat.le_trans HB6.out.size HK7.out.size)))⟩
 have e:decide (gt∈R)=decide (Kn bl gt):=by
  rw [decide_eq_decide]
  rw [HL7.out.done HN5.out.web (List.mem_of_getElem? HGQ.out)]
  exact ⟨fun h=>⟨HG.out,h⟩,fun h=>h.2⟩
 rw [e]
 rfl
theorem knows_no {G:Nat→Prop} (bl:List Tm) (gt:Tm) (bv s:Value) (w:World) (hgs:SlT G w s gt.l) (hgi:isT gt=false) :
  Calls Tryz.prog 11 #[bv,.agg (tcs gt s).toArray] w fun e w'=>e=.returned (.bool (decide (Kn bl gt)))∧Below w.heap.size w w':=by
 obtain ⟨pp,cap,rfl,_⟩:=hgs.len
 obtain ⟨mm,hmm⟩:∃m,m=gt.l.length:=⟨_,rfl⟩
 rw [←hmm] at hgs ⊢
 have HIS:Hid (∀W,Below w.heap.size w W→Calls Tryz.prog 23 #[.agg (tcs gt (.slice pp mm cap)).toArray] W fun e w'=>e=.returned (.bool false)∧Below W.heap.size W w'):=fun W hW=>by have h:=dL gt (.slice pp mm cap) W (hgs.below hW);rw [hgi] at h;exact h
 have e:decide (Kn bl gt)=false:=decide_eq_false fun h=>by rw [h.1] at hgi;cases hgi
 rw [e]
 clear hgs hmm hgi e
 have hm:=Mem.start w
 go_enter Tryz.func11,Tryz.ntmps11
 go_wp2_with (first
  | ((with_reducible refine af (some 3) (.box 24 (.tmp 1)) ?_);go_must (refine aw (tcs gt (.slice pp mm cap)) rfl hm ?_);clear hm;intro w1 g3 hm)
  | ((with_reducible refine af (some 9) (.load 24 (.tmp 3)) ?_);go_must (refine aE 0 hm rfl rfl _ Tryz.underlying24 rfl 3 aj rfl ?_))
  | (go_at_call 23;go_must (refine (HIS.out _ hm.below).mono ?_);rintro e w2 ⟨he,hb⟩;subst he;replace hm:=hm.call hb;clear hb))
 go_ret
 exact ⟨rfl,hm.below⟩
theorem cO {F G:Nat→Prop} (bl:List Tm) (gt:Tm) (bv s:Value) (w:World) (hbs:SlT F w bv bl) (hgs:SlT G w s gt.l) (hT:isT gt=true→((webW gt (webWs (bl.filter isT) []))).length≤380) (hbl:bl.length≤1000) :
  Calls Tryz.prog 11 #[bv,.agg (tcs gt s).toArray] w fun e w'=>e=.returned (.bool (decide (Kn bl gt)))∧Below w.heap.size w w':=by
 cases h:isT gt with
 | false=>exact knows_no bl gt bv s w hgs h
 | true =>
  obtain ⟨pp,cap,rfl,_⟩:=hgs.len
  exact knows_is bl gt bv pp _ cap w hbs hgs h (hT h) hbl
open Go Go.RowKit Go.Maps Classical
theorem min_is {F G:Nat→Prop} (bl:List Tm) (gt:Tm) (bv:Value) (pp:Option Addr) (mm cap:Nat) (w:World) (hbs:SlT F w bv bl) (hgs:SlT G w (.slice pp mm cap) gt.l) (hgi:isT gt=true) (hT:((webW gt (webWs (bl.filter isT) []))).length≤380) (hbl:bl.length≤1000) :
  Calls Tryz.prog 16 #[bv,.agg (tcs gt (.slice pp mm cap)).toArray] w fun e w'=>∃v,e=.returned v∧SlT (FN w.heap.size w'.heap.size) w' v (minT bl gt)∧Below w.heap.size w w':=by
 have HIS:Hid (∀W,Below w.heap.size w W→Calls Tryz.prog 23 #[.agg (tcs gt (.slice pp mm cap)).toArray] W fun e w'=>e=.returned (.bool true)∧Below W.heap.size W w'):=fun W hW=>by have h:=dL gt (.slice pp mm cap) W (hgs.below hW);rw [hgi] at h;exact h
 have HBL:Hid (SlT (fun b=>b<w.heap.size) w bv bl):=hbs.lt
 have HGS:Hid (SlT (fun b=>b<w.heap.size) w (.slice pp mm cap) gt.l):=hgs.lt
 have HG:Hid (isT gt=true):=hgi
 have HL:Hid (((webW gt (webWs (bl.filter isT) []))).length≤380∧bl.length≤1000):=⟨hT,hbl⟩
 obtain ⟨NL,hNL⟩:∃l,l=bl.filter isT:=⟨_,rfl⟩
 have HNL:Hid (∀_:Unit,NL=bl.filter isT):=fun _=>hNL
 have HNL4:Hid (NL.length≤1000):=by show _≤_;rw [hNL];exact Nat.le_trans (List.length_filter_le _ _) hbl
 rw [←hNL] at HL
 obtain ⟨T1,hT1⟩:∃t,t=webWs NL []:=⟨_,rfl⟩
 have HT1:Hid (∀_:Unit,T1=webWs NL []):=fun _=>hT1
 rw [←hT1] at HL
 have hw1:Web T1:=by rw [hT1,hNL];exact (dh bl).1
 have HAD:Hid (Added gt T1 (webW gt T1)):=cw gt (dd hgi) T1 hw1
 obtain ⟨T,hTT⟩:∃t,t=webW gt T1:=⟨_,rfl⟩
 have HTT:Hid (∀_:Unit,T=webW gt T1):=fun _=>hTT
 rw [←hTT] at HAD HL
 have HT14:Hid (T1.length≤10000):=by
  obtain ⟨s9,e9⟩:=HAD.out.pre
  have h9:=HL.out.1
  rw [e9,List.length_append] at h9
  show _≤_
  omega
 obtain ⟨gq,hgq⟩:∃q,q=idxT T gt:=⟨_,rfl⟩
 have HGQ:Hid (T[gq]?=some gt):=by show _=_;rw [hgq];exact a7 HAD.out.web.ok HAD.out.has
 have HIX:Hid (∀_:Unit,gq=idxT T gt):=fun _=>hgq
 have h0T:0<T.length:=by have:=(List.getElem?_eq_some_iff.1 HGQ.out).1;omega
 have HT0:Hid (0<T.length):=h0T
 clear hbs hgs hgi hT hbl hNL hT1 hTT hgq hw1 h0T
 have hm:=Mem.start w
 go_enter Tryz.func16,Tryz.ntmps16
 go_wp2_with (first
  | ((with_reducible refine af (some 3) (.box 24 (.tmp 1)) ?_);go_must (refine aw (tcs gt (.slice pp mm cap)) rfl hm ?_);clear hm;intro w1 g3 hm)
  | ((with_reducible refine af (some 9) (.load 24 (.tmp 3)) ?_);go_must (refine aE 0 hm rfl rfl _ Tryz.underlying24 rfl 3 aj rfl ?_))
  | (go_at_call 23;go_must (refine (HIS.out _ hm.below).mono ?_);rintro e w2 ⟨he,hb⟩;subst he;replace hm:=hm.call hb;clear hb))
 have HBE:Hid (Below w.heap.size w w2):=hm.below
 have HR3:Hid (Row w2 g3 (tcs gt (.slice pp mm cap)) 24):=hm.get 0 rfl
 have HS2:Hid (w.heap.size≤w2.heap.size):=hm.size
 clear hm
 have hm:=Mem.start w2
 go_wp2_with (first
  | (go_at_call 24;go_must (refine (c7 _).mono ?_);rintro e w3 ⟨g,m,he,hwa,hb⟩;subst he;have HW3:Hid (WebN w2.heap.size w3 g m [] [] [] (.slice none 0 0) (.slice none 0 0)):=hwa.n;have HB3:Hid (Below w2.heap.size w2 w3):=hb;clear hwa hm;have hm:=(Mem.start w3)))
 refine aq ?_
 refine ao (T:=fun W=>Row W g3 (tcs gt (.slice pp mm cap)) 24) (by kernel_rfl) hm ?_
 intro wc hbw hmw
 have HWC:Hid (WebN w2.heap.size wc g m [] [] [] (.slice none 0 0) (.slice none 0 0)):=HW3.out.below hbw
 have HBC:Hid (Below w2.heap.size w2 wc):=HB3.out.trans (hbw.mono HB3.out.size)
 have HCS:Hid (w2.heap.size≤wc.heap.size):=HBC.out.size
 replace hm:Row wc g3 (tcs gt (.slice pp mm cap)) 24:=HR3.out.below' HBC.out
 have HBLC:Hid (SlT (fun b=>b<w2.heap.size) wc bv bl):=((HBL.out.below HBE.out).weak fun b hb=>Nat.lt_of_lt_of_le hb HS2.out).keep (Keeps.below (w:=w2) HBC.out)
 have HGSC:Hid (SlT (fun b=>b<w2.heap.size) wc (.slice pp mm cap) gt.l):=((HGS.out.below HBE.out).weak fun b hb=>Nat.lt_of_lt_of_le hb HS2.out).keep (Keeps.below (w:=w2) HBC.out)
 have HFP0:Hid (∀b,Fp g m [] (.slice none 0 0) (.slice none 0 0) b→w2.heap.size≤b):=fun b hb=>(HWC.out.lt hb).1
 have HG3:Hid (g3<w2.heap.size):=HR3.out.lt
 clear hbw hmw
 refine aT 0 (v:=.pointer (some ⟨g,0,none⟩)) rfl (by kernel_rfl) rfl (fun W _=>by go_simp) hm ?_
 go_simp
 refine aT 1 (v:=bv) rfl (by kernel_rfl) rfl (fun W _=>by go_simp) hm ?_
 go_simp
 refine aT 3 (v:=.pointer (some ⟨g,0,none⟩)) rfl (by kernel_rfl) rfl (fun W _=>by go_simp) hm ?_
 go_simp
 refine aT 4 (v:=.agg (tcs gt (.slice pp mm cap)).toArray) rfl (by kernel_rfl) rfl (fun W hW=>aB 0 (tcs gt (.slice pp mm cap)) hW rfl _ Tryz.underlying24 rfl 3 aj (Nat.le_refl _) rfl) hm ?_
 go_simp
 refine aO 2 (by kernel_rfl) rfl rfl ?_
 intro K hK
 go_wp2_with (go_at_call 25;go_must (refine (cV w2.heap.size wc g m [] [] _ _ bv bl HWC.out Nm.nil HBLC.out (by have h9:=HL.out.2;omega) (by rw [←HNL.out (),←HT1.out ()];exact HT14.out)).mono ?_);rw [←HNL.out (),←HT1.out ()];rintro e w4 ⟨AL1,vs1,va1,vr1,ql,he,hn4,ha4,hq4⟩;obtain ⟨lq,hlq⟩:∃l,l=ql.length:=⟨_,rfl⟩;obtain ⟨pr1,cr1,hvr1⟩:=bN ha4.own;rw [←hlq] at hvr1;subst hvr1;subst he;have HLQ:Hid (∀_:Unit,lq=ql.length):=fun _=>hlq;have HN4:Hid (Nm T1 AL1):=hn4;have HA4:Hid (Aa w2.heap.size wc w4 (Fp g m [] (.slice none 0 0) (.slice none 0 0)) g m T1 AL1 vs1 va1 (.slice pr1 lq cr1) ql):=ha4;have HQ4:Hid (NumsOf T1 ql NL):=hq4;replace hm:=ha4.fr.row hm (fun h9=>by have h8:=HFP0.out _ h9;have h7:=HG3.out;omega);clear hn4 ha4 hq4 hlq)
 refine hK _ _ hm ?_
 clear hK K
 go_simp
 refine aO 5 (by kernel_rfl) rfl rfl ?_
 intro K hK
 go_wp2_with (go_at_call 26;go_must (refine (add_any gt w2.heap.size w4 g m T1 AL1 vs1 va1 (.slice pp mm cap) HA4.out.web HN4.out (HA4.out.fr.tree HFP0.out HCS.out HGSC.out) (dd HG.out) (by rw [←HTT.out ()];have h9:=HL.out.1;omega)).mono ?_);rw [←HTT.out (),←HIX.out ()];rintro e w5 ⟨AL,vs,va,he,hw5,hn5,hf5,hs5⟩;subst he;have HW5:Hid (WebN w2.heap.size w5 g m T T AL vs va):=hw5;have HN5:Hid (Nm T AL):=hn5;have HF5:Hid (Fr (Fp g m AL1 vs1 va1) w4 w5):=hf5;replace hm:=hf5.row hm (fun h9=>by have h8:=(HA4.out.web.lt h9).1;have h7:=HG3.out;omega);clear hw5 hn5 hf5 hs5)
 refine hK _ _ hm ?_
 clear hK K
 go_simp
 refine aT 6 (v:=.slice pr1 lq cr1) rfl (by kernel_rfl) rfl (fun W _=>by go_simp) hm ?_
 go_simp
 refine aT 7 (v:=.int .i64 (gq:Int)) rfl (by kernel_rfl) rfl (fun W _=>by go_simp) hm ?_
 go_simp
 refine wpAnyH_done (by kernel_rfl) ?_ _
 simp only [endsIn]
 have HO5:Hid (w5.ownsRow wc.heap.size 3 1 (.slice pr1 lq cr1) ql.length (nums ql)):=aF HA4.out.own fun b hb=>HF5.out.block b (av HA4.out.own hb).2 (HA4.out.sep b hb)
 have HB5:Hid (Below w2.heap.size w2 w5):=HF5.out.belowB (HA4.out.fr.belowB HBC.out HFP0.out HCS.out) (fun b hb=>(HA4.out.web.lt hb).1) (Nat.le_trans HCS.out HA4.out.fr.size)
 have HFP5:Hid (∀b,Fp g m AL vs va b→b<w5.heap.size):=fun b hb=>(HW5.out.lt hb).2
 have HSZ5:Hid (w2.heap.size≤w5.heap.size):=HB5.out.size
 clear hm
 have hm:=Mem.start w5
 go_wp2_with (first
  | (go_at_call 27;go_must (refine (bR _ g T).mono ?_);rintro e w6 ⟨dg,mk,he,hda,hb,hdg,hmk⟩;subst he;have HLT6:Hid (w5.heap.size≤dg∧w5.heap.size≤mk∧dg<w6.heap.size∧mk<w6.heap.size∧w5.heap.size≤w6.heap.size):=⟨hdg,hmk,(hda 0).row.lt,(by obtain ⟨_,_,hk9⟩:=(hda 0).km;exact hk9.lt),hb.size⟩;have HD6:Hid (Dd w2.heap.size w5.heap.size 0 w6 g m dg mk T AL vs va [] (.slice none 0 0) []):=⟨HW5.out.below hb,fun b h9=>by have h8:=HFP5.out b h9;have h7:=HLT6.out;exact ⟨h8,by omega,by omega⟩,HLT6.out.2.2,hda _⟩;have HB6:Hid (Below w5.heap.size w5 w6):=hb;have HO6:Hid (w6.ownsRow wc.heap.size 3 1 (.slice pr1 lq cr1) ql.length (nums ql)):=aK HO5.out hb;have HAP6:Hid (Apn (.slice pr1 lq cr1) dg mk (.slice none 0 0) w6):=(fun b hb9=>by have h9:=(av HO5.out hb9).2;have h8:=HLT6.out;exact ⟨by omega,by omega,(by intro h7;cases h7),by omega⟩);clear hda hb hdg hmk hm;have hm:=Mem.start w6)
  | (go_at_call 28;have hbx:=hm.below;go_must (refine (learn_D w2.heap.size w5.heap.size 0 _ g m dg mk T AL vs va [] (.slice none 0 0) [] (fun _=>False) ql NL pr1 lq cr1 (HD6.out.below hbx) HN5.out HL.out.1 HT0.out Lrn.none (by omega) (HLQ.out ()) (by have h9:=HQ4.out.1;have h8:=HNL4.out;have h7:=HLQ.out ();omega) (HQ4.out.mono HAD.out.pre) (SlN.below (by have h9:=bK HO6.out;exact h9) hbx) (HAP6.out.kp (Vn.refl _ _) hbx.size)).mono ?_);rintro e w7 ⟨he,vr,rl,R,hd7,hl7,hk7,hv7⟩;subst he;have HD7:Hid (Dd w2.heap.size w5.heap.size 0 w7 g m dg mk T AL vs va R vr rl):=hd7;have HL7:Hid (Lrn (inB bl) T R []):=(by rw [←B_eq bl,←HNL.out ()];exact hl7);have HK7:Hid (Kp dg mk (.slice none 0 0) w6 w7):=(Kp.of_below hbx).trans (Vn.refl _ _) hk7;have HV7:Hid (Vn (.slice none 0 0) vr w6):=Vn.trans (Vn.refl _ _) hv7 hbx.size;clear hd7 hl7 hk7 hv7 hbx hm;have hm:=Mem.start w7))
 by_cases hR:gt∈R
 ·have hKn:Kn bl gt:=⟨HG.out,(HL7.out.done HN5.out.web (List.mem_of_getElem? HGQ.out)).1 hR⟩
  have HH:Hid (∀W,Below w7.heap.size w7 W→Calls Tryz.prog 29 #[.pointer (some ⟨dg,0,none⟩),.int .i64 (gq:Int)] W fun e w'=>e=.returned (.bool true)∧Below W.heap.size W w'):=fun W hW=>by have h:=has_D w2.heap.size w5.heap.size 0 W g m dg mk T AL vs va R vr rl gq gt (HD7.out.below hW) HL.out.1 HGQ.out;rw [decide_eq_true hR] at h;exact h
  have HRT:Hid (0+R.length≤380):=by
   have h1:R.length≤T.length:=dM R T HL7.out.nd fun x hx=>dw HD7.out.der.num hx
   have h2:=HL.out.1
   show _≤_
   omega
  have HMT:Hid (∀_:Unit,minT bl gt=(leastF (fun K=>Der K gt) (fun _=>False) NL)):=fun _=>by unfold minT;rw [if_pos hKn,HNL.out ()]
  clear hR hKn
  go_wp2_with (first
   | (go_at_call 29;go_must (refine (HH.out _ hm.below).mono ?_);rintro e w8 ⟨he,hb⟩;subst he;replace hm:=hm.call hb;clear hb)
   | (go_at_call 37;have hbx:=hm.below;go_must (refine (forget_D w2.heap.size w5.heap.size 0 _ g m dg mk T AL vs va R vr rl (HD7.out.below hbx) HN5.out HL.out.1 HL7.out.nd).mono ?_);rintro e w9 ⟨he,vr9,hd9,hk9,hv9⟩;subst he;have HD9:Hid (Dd w2.heap.size w5.heap.size (0+R.length) w9 g m dg mk T AL vs va [] vr9 []):=hd9;have HK9:Hid (Kp dg mk (.slice none 0 0) w6 w9):=(HK7.out.trans HV7.out (Kp.of_below hbx)).trans HV7.out hk9;have HV9:Hid (Vn (.slice none 0 0) vr9 w6):=Vn.trans HV7.out hv9 (Nat.le_trans HK7.out.size hbx.size);have HSL9:Hid (SlN w9 (.slice pr1 lq cr1) ql):=(by have h9:=bK HO6.out;exact SlN.kp h9 HAP6.out HK9.out);have HAP9:Hid (Apn (.slice pr1 lq cr1) dg mk vr9 w9):=HAP6.out.kp HV9.out HK9.out.size;clear hd9 hk9 hv9 hbx hm;have hm:=Mem.start w9)
   | (go_at_call 38;have hbx:=hm.below;go_must (refine (least_D w2.heap.size w5.heap.size (0+R.length) _ g m dg mk T AL vs va vr9 gt gq ql NL pr1 lq cr1 (HD9.out.below hbx) HN5.out HL.out.1 HRT.out HGQ.out (HLQ.out ()) (by have h9:=HQ4.out.1;have h8:=HNL4.out;have h7:=HLQ.out ();omega) (HQ4.out.mono HAD.out.pre) (SlN.below HSL9.out hbx) (HAP9.out.kp (Vn.refl _ _) hbx.size)).mono ?_);rintro e w10 ⟨v10,ql10,he,hs10,hn10,hw10,hk10⟩;obtain ⟨p10,c10,hv10,_⟩:=SlV.len hs10;obtain ⟨l10,hl10⟩:∃l,l=ql10.length:=⟨_,rfl⟩;rw [←hl10] at hv10;subst hv10;subst he;have HK10:Hid (Kp dg mk (.slice none 0 0) w6 w10):=(HK9.out.trans HV9.out (Kp.of_below hbx)).trans HV9.out hk10;have HW10:Hid (WebN w2.heap.size w10 g m T T AL vs va):=hw10;have HS10:Hid (SlN w10 (.slice p10 l10 c10) ql10∧l10=ql10.length∧NumsOf T ql10 (leastF (fun K=>Der K gt) (fun _=>False) NL)):=⟨hs10,hl10,hn10⟩;clear hs10 hl10 hn10 hw10 hk10 hbx hm;have hm:=Mem.start w10)
   | (go_at_call 34;have hbx:=hm.below;go_must (refine (fb T HN5.out.web (by have h9:=HL.out.1;omega) w2.heap.size g m AL vs va _ (leastF (fun K=>Der K gt) (fun _=>False) NL) ql10 _ p10 l10 c10 (Nat.le_refl _) (Nat.le_trans (cD _ _ _) (Nat.le_trans HNL4.out (by omega))) (HS10.out.2.1.trans HS10.out.2.2.1) HS10.out.2.2 (HW10.out.below hbx) (SlN.below HS10.out.1 hbx)).mono ?_);rintro e w11 ⟨v11,he,hs11,hb11,_⟩;subst he;have HS11:Hid (SlT (FN w10.heap.size w11.heap.size) w11 v11 (leastF (fun K=>Der K gt) (fun _=>False) NL)):=hs11.weak (fun b hb=>⟨Nat.le_trans hbx.size hb.1,hb.2⟩);replace hm:=hm.call hb11;clear hs11 hb11 hbx))
  go_ret
  rw [HMT.out ()]
  exact ⟨_,rfl,HS11.out.weak fun b hb=>⟨Nat.le_trans (Nat.le_trans (Nat.le_trans HS2.out HSZ5.out) (Nat.le_trans HB6.out.size HK10.out.size)) hb.1,hb.2⟩,(HBE.out.trans ((eh (S0:=0) HB5.out HSZ5.out HB6.out HLT6.out.1 HLT6.out.2.1 HK10.out).mono HS2.out)).trans (hm.below.mono (Nat.le_trans (Nat.le_trans HS2.out HSZ5.out) (Nat.le_trans HB6.out.size HK10.out.size)))⟩
 ·have hKn:¬Kn bl gt:=fun h=>hR ((HL7.out.done HN5.out.web (List.mem_of_getElem? HGQ.out)).2 h.2)
  have HH:Hid (∀W,Below w7.heap.size w7 W→Calls Tryz.prog 29 #[.pointer (some ⟨dg,0,none⟩),.int .i64 (gq:Int)] W fun e w'=>e=.returned (.bool false)∧Below W.heap.size W w'):=fun W hW=>by have h:=has_D w2.heap.size w5.heap.size 0 W g m dg mk T AL vs va R vr rl gq gt (HD7.out.below hW) HL.out.1 HGQ.out;rw [decide_eq_false hR] at h;exact h
  have HMT:Hid (∀_:Unit,minT bl gt=[]):=fun _=>by unfold minT;rw [if_neg hKn]
  clear hR hKn
  go_wp2_with (first
   | (go_at_call 29;go_must (refine (HH.out _ hm.below).mono ?_);rintro e w8 ⟨he,hb⟩;subst he;replace hm:=hm.call hb;clear hb))
  go_ret
  rw [HMT.out ()]
  exact ⟨_,rfl,SlT.nil,(HBE.out.trans ((eh (S0:=0) HB5.out HSZ5.out HB6.out HLT6.out.1 HLT6.out.2.1 HK7.out).mono HS2.out)).trans (hm.below.mono (Nat.le_trans (Nat.le_trans HS2.out HSZ5.out) (Nat.le_trans HB6.out.size HK7.out.size)))⟩
theorem min_no {G:Nat→Prop} (bl:List Tm) (gt:Tm) (bv s:Value) (w:World) (hgs:SlT G w s gt.l) (hgi:isT gt=false) :
  Calls Tryz.prog 16 #[bv,.agg (tcs gt s).toArray] w fun e w'=>∃v,e=.returned v∧SlT (FN w.heap.size w'.heap.size) w' v (minT bl gt)∧Below w.heap.size w w':=by
 obtain ⟨pp,cap,rfl,_⟩:=hgs.len
 obtain ⟨mm,hmm⟩:∃m,m=gt.l.length:=⟨_,rfl⟩
 rw [←hmm] at hgs ⊢
 have HIS:Hid (∀W,Below w.heap.size w W→Calls Tryz.prog 23 #[.agg (tcs gt (.slice pp mm cap)).toArray] W fun e w'=>e=.returned (.bool false)∧Below W.heap.size W w'):=fun W hW=>by have h:=dL gt (.slice pp mm cap) W (hgs.below hW);rw [hgi] at h;exact h
 have e:minT bl gt=[]:=by unfold minT;rw [if_neg (fun h=>by rw [h.1] at hgi;cases hgi)]
 rw [e]
 clear hgs hmm hgi e
 have hm:=Mem.start w
 go_enter Tryz.func16,Tryz.ntmps16
 go_wp2_with (first
  | ((with_reducible refine af (some 3) (.box 24 (.tmp 1)) ?_);go_must (refine aw (tcs gt (.slice pp mm cap)) rfl hm ?_);clear hm;intro w1 g3 hm)
  | ((with_reducible refine af (some 9) (.load 24 (.tmp 3)) ?_);go_must (refine aE 0 hm rfl rfl _ Tryz.underlying24 rfl 3 aj rfl ?_))
  | (go_at_call 23;go_must (refine (HIS.out _ hm.below).mono ?_);rintro e w2 ⟨he,hb⟩;subst he;replace hm:=hm.call hb;clear hb))
 go_ret
 exact ⟨_,rfl,SlT.nil,hm.below⟩
theorem min_any {F G:Nat→Prop} (bl:List Tm) (gt:Tm) (bv s:Value) (w:World) (hbs:SlT F w bv bl) (hgs:SlT G w s gt.l) (hT:isT gt=true→((webW gt (webWs (bl.filter isT) []))).length≤380) (hbl:bl.length≤1000) :
  Calls Tryz.prog 16 #[bv,.agg (tcs gt s).toArray] w fun e w'=>∃v,e=.returned v∧SlT (FN w.heap.size w'.heap.size) w' v (minT bl gt)∧Below w.heap.size w w':=by
 cases h:isT gt with
 | false=>exact min_no bl gt bv s w hgs h
 | true =>
  obtain ⟨pp,cap,rfl,_⟩:=hgs.len
  exact min_is bl gt bv pp _ cap w hbs hgs h (hT h) hbl
theorem Tow.base {b1 b2:Nat} {w:World} {v:Value} {xs:List Tm} (h:Tow b1 w v xs) (hb:b2≤b1):Tow b2 w v xs:=by
 rcases h with h|⟨b,cs,hv,ho,ht⟩
 ·exact Or.inl h
 ·exact Or.inr ⟨b,cs,hv,World.ownsRow.base_le ho hb,ht.keeps (Keeps.weak fun q hq=>⟨Nat.le_trans hb hq.1,hq.2⟩)⟩
theorem Tow.below {b1:Nat} {w w':World} {v:Value} {xs:List Tm} (h:Tow b1 w v xs) (hb:Below w.heap.size w w'):Tow b1 w' v xs:=by
 rcases h with h|⟨b,cs,hv,ho,ht⟩
 ·exact Or.inl h
 ·exact Or.inr ⟨b,cs,hv,aK ho hb,ht.keeps fun q hq=>⟨⟨hq.1,Nat.lt_of_lt_of_le hq.2.1 hb.size,hq.2.2⟩,fun o u hu=>by rw [hb.cell (p:=⟨q,o,none⟩) hq.2.1];exact hu⟩⟩
theorem DerA.keepFr {b1 QB:Nat} {w w':World} {p:Nat→Prop} {dg mk g:Nat} {T:List Tm} (h:DerA b1 QB w dg mk g T [] [] (.slice none 0 0) []) (hf:Fr p w w') (h1:¬p dg) (h2:¬p mk) (b2:Nat):DerA b2 QB w' dg mk g T [] [] (.slice none 0 0) []:=by
 obtain ⟨q,hq,hk⟩:=h.km
 exact ⟨hf.row h.row h1,World.ownsRow_nil _ _ _ _,NumsOf.nil T,⟨q,hq,hk.keep (hf.block mk hk.lt h2)⟩⟩
def AllIs (bl L:List Tm):Prop:=(∀t,t∈L↔t∈(webWs (bl.filter isT) [])∧Der (inB bl) t)∧L.Pairwise fun a b=>txt a<txt b
theorem all_any {F:Nat→Prop} (bl:List Tm) (bv:Value) (w:World) (hbs:SlT F w bv bl) (hT:((webWs (bl.filter isT) [])).length≤380) (hbl:bl.length≤1000) :
  Calls Tryz.prog 14 #[bv] w fun e w'=>∃v,e=.returned v∧∃L:List Tm,AllIs bl L∧SlT (FN w.heap.size w'.heap.size) w' v L∧Below w.heap.size w w':=by
 have HBL:Hid (SlT (fun b=>b<w.heap.size) w bv bl):=hbs.lt
 have HL:Hid (((webWs (bl.filter isT) [])).length≤380∧bl.length≤1000):=⟨hT,hbl⟩
 obtain ⟨NL,hNL⟩:∃l,l=bl.filter isT:=⟨_,rfl⟩
 have HNL:Hid (∀_:Unit,NL=bl.filter isT):=fun _=>hNL
 have HNL4:Hid (NL.length≤1000):=by show _≤_;rw [hNL];exact Nat.le_trans (List.length_filter_le _ _) hbl
 have HWB:Hid (Web (webWs NL [])∧∀x∈NL,x∈webWs NL []):=by rw [hNL];exact dh bl
 have HIST:Hid (∀x∈webWs NL [],isT x=true):=by rw [hNL];exact d7 bl
 rw [←hNL] at HL
 obtain ⟨T,hTT⟩:∃t,t=webWs NL []:=⟨_,rfl⟩
 have HTT:Hid (∀_:Unit,T=webWs NL []):=fun _=>hTT
 rw [←hTT] at HL HWB HIST
 clear hbs hT hbl hNL hTT
 by_cases h0:T=[]
 ·have HZ:Hid (∀L:List Tm,L=[]→AllIs bl L):=fun L hL=>by
   subst hL
   refine ⟨fun t=>?_,List.Pairwise.nil⟩
   rw [←HNL.out (),←HTT.out (),h0]
   simp
  have HNE0:Hid (NL=[]):=by
   show NL=[]
   cases hn:NL with
   | nil=>rfl
   | cons x r =>
    have:=HWB.out.2 x (by rw [hn];simp)
    rw [h0] at this
    cases this
  clear h0
  have hm:=Mem.start w
  go_enter Tryz.func14,Tryz.ntmps14
  go_wp2_with (first
   | (go_at_call 24;go_must (refine (c7 _).mono ?_);rintro e w1 ⟨g,m,he,hwa,hb⟩;subst he;have HW1:Hid (WebN w.heap.size w1 g m [] [] [] (.slice none 0 0) (.slice none 0 0)):=hwa.n;have HB1:Hid (Below w.heap.size w w1):=hb;clear hwa hm hb;have hm:=(Mem.start w1))
   | (go_at_call 27;go_must (refine (bR _ g T).mono ?_);rintro e w2 ⟨dg,mk,he,hda,hb,hdg,hmk⟩;subst he;have HDA:Hid (∀b1,DerA b1 0 w2 dg mk g T [] [] (.slice none 0 0) []):=hda;have HLT:Hid (w1.heap.size≤dg∧w1.heap.size≤mk∧dg<w2.heap.size∧mk<w2.heap.size):=⟨hdg,hmk,(hda 0).row.lt,(by obtain ⟨_,_,hk9⟩:=(hda 0).km;exact hk9.lt)⟩;have HB2:Hid (Below w1.heap.size w1 w2):=hb;have HW2:Hid (WebN w.heap.size w2 g m [] [] [] (.slice none 0 0) (.slice none 0 0)):=HW1.out.below hb;clear hda hb hdg hmk hm;have hm:=Mem.start w2)
   | (go_at_call 25;have hbx:=hm.below;go_must (refine (cV w.heap.size _ g m [] [] _ _ bv bl (HW2.out.below hbx) Nm.nil ((HBL.out.below ((HB1.out.trans (HB2.out.mono HB1.out.size)).trans (hbx.mono (Nat.le_trans HB1.out.size HB2.out.size))))) (by have h9:=HL.out.2;omega) (by rw [←HNL.out (),←HTT.out ()];have h9:=HL.out.1;omega)).mono ?_);rw [←HNL.out (),←HTT.out ()];rintro e w3 ⟨AL,vs,va,vr1,ql,he,hn3,ha3,hq3⟩;obtain ⟨lq,hlq⟩:∃l,l=ql.length:=⟨_,rfl⟩;obtain ⟨pr1,cr1,hvr1⟩:=bN ha3.own;rw [←hlq] at hvr1;subst hvr1;subst he;have HLQ:Hid (∀_:Unit,lq=ql.length):=fun _=>hlq;have HN3:Hid (Nm T AL):=hn3;have HQ3:Hid (NumsOf T ql NL):=hq3;have HFP:Hid (∀b,Fp g m [] (.slice none 0 0) (.slice none 0 0) b→w.heap.size≤b∧b<w1.heap.size):=(fun b h9=>HW1.out.lt h9);have HSX:Hid (w2.heap.size≤w3.heap.size):=Nat.le_trans hbx.size ha3.fr.size;have HB3:Hid (Below w.heap.size w w3):=ha3.fr.belowB ((HB1.out.trans (HB2.out.mono HB1.out.size)).trans (hbx.mono (Nat.le_trans HB1.out.size HB2.out.size))) (fun b h9=>(HFP.out b h9).1) (Nat.le_trans (Nat.le_trans HB1.out.size HB2.out.size) hbx.size);have HDW:Hid (∀b2,DerA b2 0 w3 dg mk g T [] [] (.slice none 0 0) []):=(fun b2=>((HDA.out 0).below hbx).keepFr ha3.fr (fun h9=>by have h8:=(HFP.out _ h9).2;have h7:=HLT.out;omega) (fun h9=>by have h8:=(HFP.out _ h9).2;have h7:=HLT.out;omega) b2);have HW3:Hid (WebN w.heap.size w3 g m T T AL vs va):=ha3.web;have HNE:Hid (∀b,Fp g m AL vs va b→b<w3.heap.size∧b≠dg∧b≠mk):=(fun b h9=>⟨(ha3.web.lt h9).2,by
   have h7:=HLT.out
   have h6:=hbx.size
   rcases ha3.sub b h9 with h8|h8
   ·have h5:=(HFP.out b h8).2
    exact ⟨by omega,by omega⟩
   ·exact ⟨by omega,by omega⟩⟩);have HO3:Hid (w3.ownsRow w2.heap.size 3 1 (.slice pr1 lq cr1) ql.length (nums ql)):=World.ownsRow.base_le ha3.own hbx.size;clear hn3 ha3 hq3 hlq hbx hm;have hm:=Mem.start w3)
   | (go_at_call 28;obtain rfl:lq=0:=(by rw [HLQ.out (),HQ3.out.1,HNE0.out];rfl);go_must (refine (learn_nil dg pr1 cr1 _).mono ?_);rintro e w4 ⟨he,hb⟩;subst he;replace hm:=hm.call hb;clear hb)
   | ((with_reducible refine af (some 17) (.load 41 (.tmp 16)) ?_);go_must (refine aa (.slice none 0 0) rfl (ad (.slice none 0 0) (((HDW.out 0).below hm.below).row.cell 2) rfl bC) ?_))
   | (go_at_call 34;go_must (refine (ef _ _ none 0).mono ?_);rintro e w5 ⟨he,hb⟩;subst he;replace hm:=hm.call hb;clear hb)
   | (go_at_call 33;go_must (refine (ord_nil none 0 _).mono ?_);rintro e w6 ⟨he,hb⟩;subst he;replace hm:=hm.call hb;clear hb))
  go_ret
  exact ⟨_,rfl,[],HZ.out [] rfl,SlT.nil,HB3.out.trans (hm.below.mono (Nat.le_trans (Nat.le_trans HB1.out.size HB2.out.size) HSX.out))⟩
 ·have HT0:Hid (0<T.length):=List.length_pos_iff.2 h0
  clear h0
  have hm:=Mem.start w
  go_enter Tryz.func14,Tryz.ntmps14
  go_wp2_with (first
   | (go_at_call 24;go_must (refine (c7 _).mono ?_);rintro e w1 ⟨g,m,he,hwa,hb⟩;subst he;have HW1:Hid (WebN w.heap.size w1 g m [] [] [] (.slice none 0 0) (.slice none 0 0)):=hwa.n;have HB1:Hid (Below w.heap.size w w1):=hb;clear hwa hm hb;have hm:=(Mem.start w1))
   | (go_at_call 27;go_must (refine (bR _ g T).mono ?_);rintro e w2 ⟨dg,mk,he,hda,hb,hdg,hmk⟩;subst he;have HDA:Hid (∀b1,DerA b1 0 w2 dg mk g T [] [] (.slice none 0 0) []):=hda;have HLT:Hid (w1.heap.size≤dg∧w1.heap.size≤mk∧dg<w2.heap.size∧mk<w2.heap.size):=⟨hdg,hmk,(hda 0).row.lt,(by obtain ⟨_,_,hk9⟩:=(hda 0).km;exact hk9.lt)⟩;have HB2:Hid (Below w1.heap.size w1 w2):=hb;have HW2:Hid (WebN w.heap.size w2 g m [] [] [] (.slice none 0 0) (.slice none 0 0)):=HW1.out.below hb;clear hda hb hdg hmk hm;have hm:=Mem.start w2)
   | (go_at_call 25;have hbx:=hm.below;go_must (refine (cV w.heap.size _ g m [] [] _ _ bv bl (HW2.out.below hbx) Nm.nil ((HBL.out.below ((HB1.out.trans (HB2.out.mono HB1.out.size)).trans (hbx.mono (Nat.le_trans HB1.out.size HB2.out.size))))) (by have h9:=HL.out.2;omega) (by rw [←HNL.out (),←HTT.out ()];have h9:=HL.out.1;omega)).mono ?_);rw [←HNL.out (),←HTT.out ()];rintro e w3 ⟨AL,vs,va,vr1,ql,he,hn3,ha3,hq3⟩;obtain ⟨lq,hlq⟩:∃l,l=ql.length:=⟨_,rfl⟩;obtain ⟨pr1,cr1,hvr1⟩:=bN ha3.own;rw [←hlq] at hvr1;subst hvr1;subst he;have HLQ:Hid (∀_:Unit,lq=ql.length):=fun _=>hlq;have HN3:Hid (Nm T AL):=hn3;have HQ3:Hid (NumsOf T ql NL):=hq3;have HFP:Hid (∀b,Fp g m [] (.slice none 0 0) (.slice none 0 0) b→w.heap.size≤b∧b<w1.heap.size):=(fun b h9=>HW1.out.lt h9);have HSX:Hid (w2.heap.size≤w3.heap.size):=Nat.le_trans hbx.size ha3.fr.size;have HB3:Hid (Below w.heap.size w w3):=ha3.fr.belowB ((HB1.out.trans (HB2.out.mono HB1.out.size)).trans (hbx.mono (Nat.le_trans HB1.out.size HB2.out.size))) (fun b h9=>(HFP.out b h9).1) (Nat.le_trans (Nat.le_trans HB1.out.size HB2.out.size) hbx.size);have HDW:Hid (∀b2,DerA b2 0 w3 dg mk g T [] [] (.slice none 0 0) []):=(fun b2=>((HDA.out 0).below hbx).keepFr ha3.fr (fun h9=>by have h8:=(HFP.out _ h9).2;have h7:=HLT.out;omega) (fun h9=>by have h8:=(HFP.out _ h9).2;have h7:=HLT.out;omega) b2);have HW3:Hid (WebN w.heap.size w3 g m T T AL vs va):=ha3.web;have HNE:Hid (∀b,Fp g m AL vs va b→b<w3.heap.size∧b≠dg∧b≠mk):=(fun b h9=>⟨(ha3.web.lt h9).2,by
   have h7:=HLT.out
   have h6:=hbx.size
   rcases ha3.sub b h9 with h8|h8
   ·have h5:=(HFP.out b h8).2
    exact ⟨by omega,by omega⟩
   ·exact ⟨by omega,by omega⟩⟩);have HO3:Hid (w3.ownsRow w2.heap.size 3 1 (.slice pr1 lq cr1) ql.length (nums ql)):=World.ownsRow.base_le ha3.own hbx.size;clear hn3 ha3 hq3 hlq hbx hm;have hm:=Mem.start w3)
   | (go_at_call 28;have hbx:=hm.below;have hdd:Dd w.heap.size w3.heap.size 0 w3 g m dg mk T AL vs va [] (.slice none 0 0) []:=⟨HW3.out,HNE.out,(by have h9:=HLT.out;have h8:=HSX.out;exact ⟨by omega,by omega,Nat.le_refl _⟩),HDW.out _⟩;have hap:Apn (.slice pr1 lq cr1) dg mk (.slice none 0 0) w3:=(fun b hb9=>by have h9:=av HO3.out hb9;have h8:=HLT.out;exact ⟨by omega,by omega,(by intro h7;cases h7),h9.2⟩);go_must (refine (learn_D w.heap.size w3.heap.size 0 _ g m dg mk T AL vs va [] (.slice none 0 0) [] (fun _=>False) ql NL pr1 lq cr1 (hdd.below hbx) HN3.out HL.out.1 HT0.out Lrn.none (by omega) (HLQ.out ()) (by have h9:=HQ3.out.1;have h8:=HNL4.out;have h7:=HLQ.out ();omega) HQ3.out (SlN.below (by have h9:=bK HO3.out;exact h9) hbx) (hap.kp (Vn.refl _ _) hbx.size)).mono ?_);rintro e w4 ⟨he,vr,rl,R,hd4,hl4,hk4,hv4⟩;subst he;have HD4:Hid (Dd w.heap.size w3.heap.size 0 w4 g m dg mk T AL vs va R vr rl):=hd4;have HL4:Hid (Lrn (inB bl) T R []):=(by rw [←B_eq bl,←HNL.out ()];exact hl4);have HK4:Hid (Kp dg mk (.slice none 0 0) w3 w4):=(Kp.of_below hbx).trans (Vn.refl _ _) hk4;obtain ⟨lr,hlr⟩:∃l,l=R.length:=⟨_,rfl⟩;obtain ⟨pr,cr,hvr⟩:∃p c,vr=.slice p lr c:=(by rw [hlr];exact bN hd4.der.own);subst hvr;have HLR:Hid (∀_:Unit,lr=R.length):=fun _=>hlr;have HLR3:Hid (R.length≤380):=(by have h9:=dM R T hl4.nd (fun x hx=>dw hd4.der.num hx);have h8:=HL.out.1;show _≤_;omega);clear hd4 hl4 hk4 hv4 hdd hap hbx hlr hm;have hm:=Mem.start w4)
   | ((with_reducible refine af (some 17) (.load 41 (.tmp 16)) ?_);go_must (refine aa (.slice pr lr cr) rfl (ad (.slice pr lr cr) ((HD4.out.der.below hm.below).row.cell 2) rfl bC) ?_))
   | (go_at_call 34;have hbx:=hm.below;go_must (refine (fb T HN3.out.web (by have h9:=HL.out.1;omega) w.heap.size g m AL vs va _ R rl _ pr lr cr (Nat.le_refl _) (by have h9:=HLR3.out;omega) (HLR.out ()) HD4.out.der.num (HD4.out.web.below hbx) (by have h9:=bK (aK HD4.out.der.own hbx);rw [←HD4.out.der.num.1] at h9;exact h9)).mono ?_);rintro e w5 ⟨v5,he,hs5,hb5,ht5⟩;subst he;have HT5:Hid (Tow w4.heap.size w5 v5 R):=ht5.base hbx.size;replace hm:=hm.call hb5;have HB5:Hid (Below w4.heap.size w4 w5):=hm.below;clear hs5 hb5 ht5 hbx hm;have hm:=Mem.start w5)
   | (go_at_call 33;have hbx:=hm.below;go_must (refine (ord_any R v5 w4.heap.size _ (fun x hx=>HIST.out x (HTT.out ()▸dw HD4.out.der.num hx)) HL4.out.nd (by have h9:=HLR3.out;omega) (HT5.out.below hbx) (Nat.le_trans HB5.out.size hbx.size)).mono ?_);rintro e w6 ⟨he,L,hp,hsd,hs6,hb6⟩;subst he;have HP6:Hid (L.Perm R∧L.Pairwise (fun a b=>txt a<txt b)):=⟨hp,hsd⟩;have HS6:Hid (SlT (FN w4.heap.size w6.heap.size) w6 v5 L):=hs6;have HB6:Hid (Below w4.heap.size w4 w6):=(HB5.out.trans (hbx.mono HB5.out.size)).trans hb6;clear hp hsd hs6 hb6 hbx hm))
  go_ret
  have hsz:w.heap.size≤w4.heap.size:=Nat.le_trans (Nat.le_trans (Nat.le_trans HB1.out.size HB2.out.size) HSX.out) HK4.out.size
  have hb4:Below w.heap.size w w4:=HK4.out.belowB HB3.out (by have h9:=HLT.out;have h8:=HB1.out.size;omega) (by have h9:=HLT.out;have h8:=HB1.out.size;omega) (fun b hb=>by cases hb) (Nat.le_trans (Nat.le_trans HB1.out.size HB2.out.size) HSX.out)
  refine ⟨_,rfl,L,⟨fun t=>?_,HP6.out.2⟩,HS6.out.weak fun b hb=>⟨Nat.le_trans hsz hb.1,hb.2⟩,hb4.trans (HB6.out.mono hsz)⟩
  rw [←HNL.out (),←HTT.out (),HP6.out.1.mem_iff]
  constructor
  ·intro ht
   have h1:=dw HD4.out.der.num ht
   exact ⟨h1,(HL4.out.done HN3.out.web h1).1 ht⟩
  ·rintro ⟨h1,h2⟩
   exact (HL4.out.done HN3.out.web h1).2 h2
end Go.Proofs.YtcibhfcjbokdlaaGreatDoor
