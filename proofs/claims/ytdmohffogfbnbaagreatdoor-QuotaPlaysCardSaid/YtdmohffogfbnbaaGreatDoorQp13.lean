import Derived.Test.YtdmohffogfbnbaaGreatDoorQp11
import Derived.Test.YtdmohffogfbnbaaGreatDoorQp05
import Derived.Test.YtdmohffogfbnbaaGreatDoorQp12
import Derived.StringKeys
set_option maxRecDepth 100000
set_option maxHeartbeats 4000000
namespace Go.Proofs.YtdmohffogfbnbaaGreatDoor
open Go Go.RowKit Go.Maps
theorem visN_skip {t:Sp→Sp} {p:Nms} (hp:NmOk p) {x0:Sp} (hx:x0∈p) (V:List ByteArray→Bool) (h:t x0=x0):visN t (addV V x0.1) p=visN t V p:=by
 unfold visN
 refine List.map_congr_left fun y hy=>?_
 by_cases he:y.1=x0.1
 ·have:=hp.uniq hy hx he
  subst this
  rw [h]
  simp
 ·unfold addV
  rw [decide_eq_false he,Bool.or_false]
theorem add_l {w:World} {lb nb m c:Nat} {p:Nms} (h:LgAt w lb nb m c p) (hcc:c≤90000) (hM:MaxL w) (hm0:0<m) {ks:List ByteArray} (hk:PlOk ks) (s:ByteArray) (hs:s=tx ks) (b e:Int) (hb : -1000000≤b∧b≤1000000) (he : -1000000≤e∧e≤1000000) (hus:∀x∈p,((0≤usB x∧usB x≤1000000)∧0≤usE x∧usE x≤1000000)∧(0≤owB x∧owB x≤1000000)∧0≤owE x∧owE x≤1000000) :
  Calls Tryz.prog 33 #[.pointer (some ⟨lb,0,none⟩),.string s,.agg (sm b e).toArray] w fun e_ w'=>e_=.returned (.tuple #[])∧NmAt w' nb m c (chgN p ks b e)∧Upd m w w':=by
 have hm:=Mem.start w
 have HM:Hid (MaxL w):=hM
 have HL:Hid (Row w lb [.pointer (some ⟨nb,0,none⟩)] 60):=h.row
 have HR:Hid (NmAt w nb m c p):=h.nm
 have HOK:Hid (NmOk p):=h.nm.ok
 obtain ⟨q,hq,km⟩:=h.nm.map
 have HQ:Hid (q<1000000):=by have h9:q<1000000:=(by omega);exact h9
 have HQC:Hid (q≤c):=hq
 have HKM:Hid (KM Tryz.prog 63 w m q (NmK p)):=km
 have HNE:Hid (lb≠m∧nb≠m):=h.ne
 have HCK:Hid (∀x,(chg ks b e x).1=x.1):=dQ ks b e
 have HSM:Hid (∀x∈p,tx x.1=s↔x.1=ks):=fun x hx=>by rw [hs];exact ⟨fun e=>tx_inj (h.nm.ok.ok x hx) hk e,fun e=>by rw [e]⟩
 have HU:Hid (∀x∈p,∀W,MaxL W→Calls Tryz.prog 56 #[.string s,.string (tx x.1)] W fun e w'=>e=.returned (.bool (undB ks x.1))∧Below W.heap.size W w'):=fun x hx W hW=>by
  have h1:=ek s (tx x.1) W (by rw [hs];have:=aX hk;omega) (by have:=aX (h.nm.ok.ok x hx);omega) hW
  rw [hs,dg hk (h.nm.ok.ok x hx)] at h1
  rw [hs];exact h1
 have HUS:Hid (∀x∈p,((0≤usB x∧usB x≤1000000)∧0≤usE x∧usE x≤1000000)∧(0≤owB x∧owB x≤1000000)∧0≤owE x∧owE x≤1000000):=hus
 clear h km hq hus hk hs hM
 go_enter Tryz.func33,Tryz.ntmps33
 go_wp2_with (first
  | ((with_reducible refine ab (some 5) (.box 75 (.tmp 2)) ?_);refine aU (sm b e) rfl hm ?_;clear hm;intro w1 g5 hm)
  | ((with_reducible refine ab (some 11) (.load 26 (.tmp 10)) ?_);go_must (refine aa (.pointer (some ⟨nb,0,none⟩)) rfl (ad 0 (.pointer (some ⟨nb,0,none⟩)) (Row.bel HL.out hm.below) rfl c8 rfl) ?_))
  | ((with_reducible refine ab (some 14) (.load 67 (.tmp 13)) ?_);go_must (refine aa (.map (some m)) rfl (ad 0 (.map (some m)) ((HR.out.below hm.below).row) rfl cE rfl) ?_))
  | ((with_reducible refine ab (some 15) (.range 67 (.tmp 14)) ?_);go_must (refine cC (HKM.out.below hm.below) aQ bW rfl ?_);intro w2 r D hrg hD hb2 hr1 hr2))
 go_frame
 have hw1:=hm.size
 have hz2:=hb2.size
 have hrB:r<w2.heap.size:=hr2
 have hwr:w.heap.size≤r:=by omega
 have HM0:Hid (Mem w [m] w2 [(g5,sm b e,75)]):=(hm.call hb2).weak
 have HLP:Hid (w2.ranges Tryz.prog 63 rdV m r q D (Maps.has D) (Maps.size D)∧Vis p (fun _=>false) D (Maps.has D)∧KMD Tryz.prog 63 D (NmK p)):=⟨hrg,Vis.start hD,hD⟩
 clear hm hb2 hrg hD hw1 hr1 hr2 hz2
 replace HLP:Hid (w2.ranges Tryz.prog 63 rdV m r q D (Maps.has D) (Maps.size D)∧Vis p (fun _=>false) D (Maps.has D)∧KMD Tryz.prog 63 D (NmK (visN (chg ks b e) (fun _=>false) p))):=by rw [visN_none];exact HLP.out
 go_loopw [16] (fun _ wr=>∃(D:DataW Value) (V:List ByteArray→Bool) (left:Lit→Bool) (cnt:Nat),Hid (Mem w [m] wr [(g5,sm b e,75)]∧(wr.ranges Tryz.prog 63 rdV m r q D left cnt∧Vis p V D left∧KMD Tryz.prog 63 D (NmK (visN (chg ks b e) V p)))∧True)) (fun _ wr=>wr.rangeLeft m r)
 case atStart=>exact ⟨D,_,_,_,HM0.out,HLP.out,trivial⟩
 case round =>
  obtain ⟨D,V,left,cnt,HALL⟩:=hrel
  have HMM:Hid (Mem w [m] wr [(g5,sm b e,75)]):=HALL.out.1
  have HLW:Hid (wr.ranges Tryz.prog 63 rdV m r q D left cnt∧Vis p V D left∧KMD Tryz.prog 63 D (NmK (visN (chg ks b e) V p))):=HALL.out.2.1
  clear HALL
  rcases World.ranges.next HLW.out.1 aQ 0 with ⟨h0,hl0,hrun⟩|⟨key,vv,kl,yv,w3,cnt',hkey,hlk,hv,hat,hrun,hrg1,hlt,hgr1,hsz,hen⟩
  ·have HRUN:Hid ((Instr.next (.pointer (some ⟨r,0,none⟩)) false 0).run Tryz.prog wr=.ok (.tuple #[.bool false]) wr):=hrun
   have HDONE:Hid (∀x∈p,V x.1=true):=HLW.out.2.1.done HOK.out hl0
   clear hrun hl0 h0
   have hm:=HMM.out
   go_wp2_with (first
    | ((with_reducible refine ab (some 16) (.next (.tmp 15) false) ?_);go_must (refine aC HRUN.out rfl ?_)))
   go_end0
   refine ⟨rfl,⟨hm.toUpd.row HR.out.row HNE.out.2,⟨q,HQC.out,?_⟩,HOK.out.map _ HCK.out⟩,hm.toUpd⟩
   have h9:=HLW.out.2.2.km HLW.out.1.owns
   rw [visN_all HDONE.out] at h9
   exact h9
  ·have hx9:=HLW.out.2.2.val hkey (HLW.out.2.1.sub kl hlk) hv hat
   obtain ⟨x0,hx0,hkeq,hveq⟩:=vis_get HCK.out hx9
   subst hkeq
   have hveq:=hveq (HLW.out.2.1.fresh hx0 hkey hlk)
   subst hveq
   obtain ⟨y0,a1,a2,a3,a4,a5,a6,hsp,hy0,ha1,ha2,ha3,ha4,ha5,ha6⟩:=cO x0
   have HSP:Hid (∀_:Unit,spw x0=[Value.string y0,.int .i64 a1,.int .i64 a2,.int .i64 a3,.int .i64 a4,.int .i64 a5,.int .i64 a6]):=fun _=>hsp
   have HE:Hid (∀_:Unit,y0=tx x0.1∧a1=lmB x0∧a2=lmE x0∧a3=usB x0∧a4=usE x0∧a5=owB x0∧a6=owE x0):=fun _=>⟨hy0,ha1,ha2,ha3,ha4,ha5,ha6⟩
   rw [hsp] at hrun hen
   have HX0:Hid (x0∈p):=hx0
   have HRUN:Hid ((Instr.next (.pointer (some ⟨r,0,none⟩)) false 0).run Tryz.prog wr=.ok (.tuple #[.bool true,.agg (pvv x0.1).toArray,.agg ([Value.string y0,.int .i64 a1,.int .i64 a2,.int .i64 a3,.int .i64 a4,.int .i64 a5,.int .i64 a6]).toArray]) w3):=hrun
   have HEN:Hid ((Instr.entry (.pointer (some ⟨r,0,none⟩))).run Tryz.prog w3=.ok (.tuple #[.agg (pvv x0.1).toArray,.agg ([Value.string y0,.int .i64 a1,.int .i64 a2,.int .i64 a3,.int .i64 a4,.int .i64 a5,.int .i64 a6]).toArray]) w3):=hen
   have HRG:Hid (w3.ranges Tryz.prog 63 rdV m r q D (fun z=>left z && !z.sameKey kl) cnt'):=hrg1
   have HKEY:Hid (keyOf Tryz.prog 63 (.agg (pvv x0.1).toArray)=some kl∧left kl=true):=⟨hkey,hlk⟩
   have HM3:Hid (Mem w [m] w3 [(g5,sm b e,75)]):=HMM.out.updI (by obtain ⟨a,b,c,h⟩:=bV HLW.out.1;exact ⟨_,a,b,c,h⟩) (Or.inr hwr) (Upd.of_grown hgr1)
   have hm:=Mem.start w3
   clear hrun hen hrg1 hkey hlk hv hat hsz hsp hy0 ha1 ha2 ha3 ha4 ha5 ha6 hx0 hgr1
   have HG3:Hid (Row w3 g5 (sm b e) 75):=HM3.out.get 0 rfl
   have HL3:Hid (Row w3 lb [.pointer (some ⟨nb,0,none⟩)] 60):=HM3.out.toUpd.row HL.out HNE.out.1
   have HN3:Hid (Row w3 nb [.map (some m)] 69):=HM3.out.toUpd.row HR.out.row HNE.out.2
   have HX3:Hid (MaxL w3):=HM.out.upd0 hm0 HM3.out.toUpd
   obtain ⟨u,hu⟩:∃u,u=undB ks x0.1:=⟨_,rfl⟩
   have HUX:Hid (∀W,MaxL W→Calls Tryz.prog 56 #[.string s,.string y0] W fun e w'=>e=.returned (.bool u)∧Below W.heap.size W w'):=fun W hW=>by rw [(HE.out ()).1,hu];exact HU.out x0 HX0.out W hW
   have HUE:Hid (∀_:Unit,u=undB ks x0.1):=fun _=>hu
   obtain ⟨⟨⟨b1,b2⟩,b3,b4⟩,⟨b5,b6⟩,b7,b8⟩:=HUS.out x0 HX0.out
   rw [←(HE.out ()).2.2.2.1] at b1 b2
   rw [←(HE.out ()).2.2.2.2.1] at b3 b4
   rw [←(HE.out ()).2.2.2.2.2.1] at b5 b6
   rw [←(HE.out ()).2.2.2.2.2.2] at b7 b8
   have hw3:IntKind.i64.wrap (a3+b)=a3+b:=bt _ (by omega) (by omega)
   have hw4:IntKind.i64.wrap (a4+e)=a4+e:=bt _ (by omega) (by omega)
   have hw5:IntKind.i64.wrap (a5+b)=a5+b:=bt _ (by omega) (by omega)
   have hw6:IntKind.i64.wrap (a6+e)=a6+e:=bt _ (by omega) (by omega)
   clear hu b1 b2 b3 b4 b5 b6 b7 b8
   cases u with
   | false =>
    have HSKP:Hid (∀_:Unit,visN (chg ks b e) (addV V x0.1) p=visN (chg ks b e) V p):=fun _=>visN_skip HOK.out HX0.out V (by unfold chg;rw [←HUE.out ()];rfl)
    go_wp2_with (first
     | ((with_reducible refine ab (some 16) (.next (.tmp 15) false) ?_);go_must (refine aC HRUN.out rfl ?_))
     | ((with_reducible refine ab (some 18) (.entry (.tmp 15)) ?_);go_must (refine aa (.tuple #[.agg (pvv x0.1).toArray,.agg ([Value.string y0,.int .i64 a1,.int .i64 a2,.int .i64 a3,.int .i64 a4,.int .i64 a5,.int .i64 a6]).toArray]) rfl (aN HEN.out rfl) ?_))
     | ((with_reducible refine ab (some 6) (.alloc 63) ?_);refine ae _ aL hm ?_;clear hm;intro w4 g6 hm)
     | ((with_reducible refine ab (some 7) (.alloc 66) ?_);refine ae _ bu hm ?_;clear hm;intro w5 g7 hm)
     | ((with_reducible refine ab none (.store 63 (.tmp 6) (.tmp 19)) ?_);refine af 1 (pvv x0.1) hm rfl rfl rfl 2 au rfl rfl (aI _) ?_;clear hm;intro w6 hm)
     | ((with_reducible refine ab none (.store 66 (.tmp 7) (.tmp 20)) ?_);refine af 0 ([Value.string y0,.int .i64 a1,.int .i64 a2,.int .i64 a3,.int .i64 a4,.int .i64 a5,.int .i64 a6]) hm rfl rfl rfl 7 cy rfl rfl (bZ _ _ _ _ _ _ _) ?_;clear hm;intro w7 hm)
     | ((with_reducible refine ab (some 24) (.load 9 (.tmp 23)) ?_);refine aw 0 0 (.string y0) hm rfl rfl aj (rfl) ?_)
     | (go_at_call 56;refine (HUX.out _ (HX3.out.below hm.below)).mono ?_;rintro e w' ⟨he,hb⟩;subst he;replace hm:=hm.call hb;clear hb))
    go_roundw
    case rel =>
     exact ⟨D,addV V x0.1,_,cnt',HM3.out.call hm.below,⟨HRG.out.kept (an hm.below) (by simp) (by simp),HLW.out.2.1.next HOK.out HX0.out HKEY.out.1,by rw [HSKP.out ()];exact HLW.out.2.2⟩,trivial⟩
    case measure =>
     rw [(HRG.out.kept (an hm.below) (by simp) (by simp)).left_eq,HLW.out.1.left_eq]
     exact hlt
   | true =>
    by_cases hsm:y0=s
    ·have HEQ:Hid (∀_:Unit,(y0==s)=true):=fun _=>by rw [de,decide_eq_true hsm]
     have HSK:Hid (x0.1=ks):=(HSM.out x0 HX0.out).1 ((HE.out ()).1▸hsm)
     clear hsm
     have HCG:Hid (∀_:Unit,spw (chg ks b e x0)=[Value.string y0,.int .i64 a1,.int .i64 a2,.int .i64 (a3+b),.int .i64 (a4+e),.int .i64 (a5+b),.int .i64 (a6+e)]):=fun _=>by
      obtain ⟨e0,e1,e2,e3,e4,e5,e6⟩:=HE.out ()
      have hsk:x0.1=ks:=HSK.out
      unfold chg
      rw [if_pos (HUE.out ()).symm,if_pos hsk,if_pos hsk,e0,e1,e2,e3,e4,e5,e6]
      rfl
     go_wp2_with (first
      | ((with_reducible refine ab (some 16) (.next (.tmp 15) false) ?_);go_must (refine aC HRUN.out rfl ?_))
      | ((with_reducible refine ab (some 18) (.entry (.tmp 15)) ?_);go_must (refine aa (.tuple #[.agg (pvv x0.1).toArray,.agg ([Value.string y0,.int .i64 a1,.int .i64 a2,.int .i64 a3,.int .i64 a4,.int .i64 a5,.int .i64 a6]).toArray]) rfl (aN HEN.out rfl) ?_))
      | ((with_reducible refine ab (some 6) (.alloc 63) ?_);refine ae _ aL hm ?_;clear hm;intro w4 g6 hm)
      | ((with_reducible refine ab (some 7) (.alloc 66) ?_);refine ae _ bu hm ?_;clear hm;intro w5 g7 hm)
      | ((with_reducible refine ab none (.store 63 (.tmp 6) (.tmp 19)) ?_);refine af 1 (pvv x0.1) hm rfl rfl rfl 2 au rfl rfl (aI _) ?_;clear hm;intro w6 hm)
      | ((with_reducible refine ab none (.store 66 (.tmp 7) (.tmp 20)) ?_);refine af 0 ([Value.string y0,.int .i64 a1,.int .i64 a2,.int .i64 a3,.int .i64 a4,.int .i64 a5,.int .i64 a6]) hm rfl rfl rfl 7 cy rfl rfl (bZ _ _ _ _ _ _ _) ?_;clear hm;intro w7 hm)
      | ((with_reducible refine ab (some 24) (.load 9 (.tmp 23)) ?_);refine aw 0 0 (.string y0) hm rfl rfl aj (rfl) ?_)
      | (go_at_call 56;refine (HUX.out _ (HX3.out.below hm.below)).mono ?_;rintro e w' ⟨he,hb⟩;subst he;replace hm:=hm.call hb;clear hb)
      | ((with_reducible refine ab (some 29) (.load 3 (.tmp 28)) ?_);refine aw 0 3 (.int .i64 a3) hm rfl rfl ah (rfl) ?_)
      | ((with_reducible refine ab (some 31) (.load 3 (.tmp 30)) ?_);go_must (refine aa (.int .i64 b) rfl (ad 0 (.int .i64 b) (Row.bel HG3.out hm.below) rfl ah rfl) ?_))
      | ((with_reducible refine ab none (.store 3 (.tmp 34) (.tmp 32)) ?_);refine bi 0 3 (.int .i64 (a3+b)) hm rfl (rfl) rfl df (show 3<7 by omega) rfl rfl ?_;clear hm;intro w8 hm)
      | ((with_reducible refine ab (some 37) (.load 3 (.tmp 36)) ?_);refine aw 0 4 (.int .i64 a4) hm rfl rfl ah (rfl) ?_)
      | ((with_reducible refine ab (some 39) (.load 3 (.tmp 38)) ?_);go_must (refine aa (.int .i64 e) rfl (ad 1 (.int .i64 e) (Row.bel HG3.out hm.below) rfl ah rfl) ?_))
      | ((with_reducible refine ab none (.store 3 (.tmp 42) (.tmp 40)) ?_);refine bi 0 4 (.int .i64 (a4+e)) hm rfl (rfl) rfl df (show 4<7 by omega) rfl rfl ?_;clear hm;intro w9 hm)
      | ((with_reducible refine ab (some 45) (.load 9 (.tmp 44)) ?_);refine aw 0 0 (.string y0) hm rfl rfl aj (rfl) ?_)
      | ((with_reducible refine ab (some 47) (.binOp .eql 9 (.tmp 45) (.tmp 46) 9) ?_);go_must (refine aa (.bool true) rfl (aM y0 s true rfl rfl (HEQ.out ())) ?_))
      | ((with_reducible refine ab (some 49) (.load 3 (.tmp 48)) ?_);refine aw 0 5 (.int .i64 a5) hm rfl rfl ah (rfl) ?_)
      | ((with_reducible refine ab (some 51) (.load 3 (.tmp 50)) ?_);go_must (refine aa (.int .i64 b) rfl (ad 0 (.int .i64 b) (Row.bel HG3.out hm.below) rfl ah rfl) ?_))
      | ((with_reducible refine ab none (.store 3 (.tmp 53) (.tmp 52)) ?_);refine bi 0 5 (.int .i64 (a5+b)) hm rfl (rfl) rfl df (show 5<7 by omega) rfl rfl ?_;clear hm;intro wa hm)
      | ((with_reducible refine ab (some 55) (.load 3 (.tmp 54)) ?_);refine aw 0 6 (.int .i64 a6) hm rfl rfl ah (rfl) ?_)
      | ((with_reducible refine ab (some 57) (.load 3 (.tmp 56)) ?_);go_must (refine aa (.int .i64 e) rfl (ad 1 (.int .i64 e) (Row.bel HG3.out hm.below) rfl ah rfl) ?_))
      | ((with_reducible refine ab none (.store 3 (.tmp 59) (.tmp 58)) ?_);refine bi 0 6 (.int .i64 (a6+e)) hm rfl (rfl) rfl df (show 6<7 by omega) rfl rfl ?_;clear hm;intro wb hm))
     refine am ?_
     refine ag (T:=fun W=>Row W lb [.pointer (some ⟨nb,0,none⟩)] 60∧Row W nb [.map (some m)] 69∧Row W g6 (pvv x0.1) 63∧Row W g7 ([Value.string y0,.int .i64 a1,.int .i64 a2,.int .i64 (a3+b),.int .i64 (a4+e),.int .i64 (a5+b),.int .i64 (a6+e)]) 66) (by kernel_rfl) hm ?_
     intro wc hbw hmw
     have HT:Hid (Row wc lb [.pointer (some ⟨nb,0,none⟩)] 60∧Row wc nb [.map (some m)] 69∧Row wc g6 (pvv x0.1) 63∧Row wc g7 ([Value.string y0,.int .i64 a1,.int .i64 a2,.int .i64 (a3+b),.int .i64 (a4+e),.int .i64 (a5+b),.int .i64 (a6+e)]) 66):=⟨Row.bel HL3.out hmw.below,Row.bel HN3.out hmw.below,hmw.get 1 rfl,hmw.get 0 rfl⟩
     clear hm hbw
     have hm:=hmw
     clear hmw
     have HRC:Hid (wc.ranges Tryz.prog 63 rdV m r q D (fun z=>left z && !z.sameKey kl) cnt'):=HRG.out.kept (an hm.below) (by simp) (by simp)
     obtain ⟨es9,c9,hmap9⟩:=fj HRC.out
     have hne1:lb≠m:=aB HT.out.1 hmap9
     have hne2:nb≠m:=aB HT.out.2.1 hmap9
     have hne3:g6≠m:=aB HT.out.2.2.1 hmap9
     have hne4:g7≠m:=aB HT.out.2.2.2 hmap9
     have HMP:Hid (wc.heap[m]?=some (.map es9 c9)):=hmap9
     have HHS:Hid (Maps.has D kl=true):=HLW.out.2.1.sub kl HKEY.out.2
     clear hmap9
     refine aT 0 (v:=.pointer (some ⟨lb,0,none⟩)) rfl (by kernel_rfl) rfl (fun W _=>by go_simp) HT.out ?_
     go_simp
     refine aT 1 (v:=.pointer (some ⟨lb,0,none⟩)) rfl (by kernel_rfl) rfl (fun W _=>by go_simp) HT.out ?_
     go_simp
     refine aT 2 (v:=.pointer (some ⟨lb,0,none⟩)) rfl (by kernel_rfl) rfl (fun W _=>by go_simp) HT.out ?_
     go_simp
     refine aT 3 (v:=.pointer (some ⟨nb,0,none⟩)) rfl (by kernel_rfl) rfl (fun W hW=>ad 0 (.pointer (some ⟨nb,0,none⟩)) hW.1 rfl c8 rfl) HT.out ?_
     go_simp
     refine aT 4 (v:=.pointer (some ⟨nb,0,none⟩)) rfl (by kernel_rfl) rfl (fun W _=>by go_simp) HT.out ?_
     go_simp
     refine aT 5 (v:=.pointer (some ⟨nb,0,none⟩)) rfl (by kernel_rfl) rfl (fun W _=>by go_simp) HT.out ?_
     go_simp
     refine aT 6 (v:=.map (some m)) rfl (by kernel_rfl) rfl (fun W hW=>ad 0 (.map (some m)) hW.2.1 rfl cE rfl) HT.out ?_
     go_simp
     refine aT 7 (v:=.agg (pvv x0.1).toArray) rfl (by kernel_rfl) rfl (fun W hW=>al 0 (pvv x0.1) hW.2.2.1 rfl _ aH rfl 2 au (Nat.le_refl 2) rfl) HT.out ?_
     go_simp
     refine aT 8 (v:=.agg ([Value.string y0,.int .i64 a1,.int .i64 a2,.int .i64 (a3+b),.int .i64 (a4+e),.int .i64 (a5+b),.int .i64 (a6+e)]).toArray) rfl (by kernel_rfl) rfl (fun W hW=>al 0 ([Value.string y0,.int .i64 a1,.int .i64 a2,.int .i64 (a3+b),.int .i64 (a4+e),.int .i64 (a5+b),.int .i64 (a6+e)]) hW.2.2.2 rfl _ un_sw rfl 7 cy (Nat.le_refl 7) rfl) HT.out ?_
     go_simp
     refine aO 9 (by kernel_rfl) rfl rfl ?_
     intro K hK
     refine wpl_setQ HRC.out aQ bW HQ.out HKEY.out.1 HHS.out rfl rfl rfl ?_
     intro w9x hr9 hu9
     have HR9:Hid (w9x.ranges Tryz.prog 63 rdV m r q (D.put kl (.held (.agg ([Value.string y0,.int .i64 a1,.int .i64 a2,.int .i64 (a3+b),.int .i64 (a4+e),.int .i64 (a5+b),.int .i64 (a6+e)]).toArray))) (fun z=>left z && !z.sameKey kl) cnt'):=hr9
     have HU9:Hid (Upd m wc w9x):=hu9
     have HT9:Hid (Row w9x lb [.pointer (some ⟨nb,0,none⟩)] 60∧Row w9x nb [.map (some m)] 69∧Row w9x g6 (pvv x0.1) 63∧Row w9x g7 ([Value.string y0,.int .i64 a1,.int .i64 a2,.int .i64 (a3+b),.int .i64 (a4+e),.int .i64 (a5+b),.int .i64 (a6+e)]) 66):=⟨hu9.row HT.out.1 hne1,hu9.row HT.out.2.1 hne2,hu9.row HT.out.2.2.1 hne3,hu9.row HT.out.2.2.2 hne4⟩
     clear hr9 hu9
     refine wpList_nil ?_
     refine hK _ _ HT9.out ?_
     clear hK K
     go_simp
     refine wpAnyH_done (by kernel_rfl) ?_ _
     simp only [endsIn]
     go_wp2_with fail
     go_roundw
     case rel =>
      have hIM:IsMap D:=HLW.out.1.owns.isMap
      refine ⟨_,addV V x0.1,_,cnt',(HM3.out.call hm.below).updO HMP.out (Or.inl (by simp)) HU9.out,⟨HR9.out,(HLW.out.2.1.next HOK.out HX0.out HKEY.out.1).put hIM (aQ.key HKEY.out.1) HHS.out _,?_⟩,trivial⟩
      have h9:=HLW.out.2.2.put aQ hIM HKEY.out.1 (.agg (spw (chg ks b e x0)).toArray)
      rw [HCG.out ()] at h9
      refine h9.same fun k v=>?_
      rw [←HCG.out ()]
      exact nmK_vis (dQ ks b e) HOK.out HX0.out V k v
     case measure =>
      rw [HR9.out.left_eq,HLW.out.1.left_eq]
      exact hlt
    ·have HEQ:Hid (∀_:Unit,(y0==s)=false):=fun _=>by rw [de,decide_eq_false hsm]
     have HSK:Hid (x0.1≠ks):=fun h=>hsm ((HE.out ()).1.trans ((HSM.out x0 HX0.out).2 h))
     clear hsm
     have HCG:Hid (∀_:Unit,spw (chg ks b e x0)=[Value.string y0,.int .i64 a1,.int .i64 a2,.int .i64 (a3+b),.int .i64 (a4+e),.int .i64 a5,.int .i64 a6]):=fun _=>by
      obtain ⟨e0,e1,e2,e3,e4,e5,e6⟩:=HE.out ()
      have hsk:x0.1≠ks:=HSK.out
      unfold chg
      rw [if_pos (HUE.out ()).symm,if_neg hsk,if_neg hsk,e0,e1,e2,e3,e4,e5,e6]
      rfl
     go_wp2_with (first
      | ((with_reducible refine ab (some 16) (.next (.tmp 15) false) ?_);go_must (refine aC HRUN.out rfl ?_))
      | ((with_reducible refine ab (some 18) (.entry (.tmp 15)) ?_);go_must (refine aa (.tuple #[.agg (pvv x0.1).toArray,.agg ([Value.string y0,.int .i64 a1,.int .i64 a2,.int .i64 a3,.int .i64 a4,.int .i64 a5,.int .i64 a6]).toArray]) rfl (aN HEN.out rfl) ?_))
      | ((with_reducible refine ab (some 6) (.alloc 63) ?_);refine ae _ aL hm ?_;clear hm;intro w4 g6 hm)
      | ((with_reducible refine ab (some 7) (.alloc 66) ?_);refine ae _ bu hm ?_;clear hm;intro w5 g7 hm)
      | ((with_reducible refine ab none (.store 63 (.tmp 6) (.tmp 19)) ?_);refine af 1 (pvv x0.1) hm rfl rfl rfl 2 au rfl rfl (aI _) ?_;clear hm;intro w6 hm)
      | ((with_reducible refine ab none (.store 66 (.tmp 7) (.tmp 20)) ?_);refine af 0 ([Value.string y0,.int .i64 a1,.int .i64 a2,.int .i64 a3,.int .i64 a4,.int .i64 a5,.int .i64 a6]) hm rfl rfl rfl 7 cy rfl rfl (bZ _ _ _ _ _ _ _) ?_;clear hm;intro w7 hm)
      | ((with_reducible refine ab (some 24) (.load 9 (.tmp 23)) ?_);refine aw 0 0 (.string y0) hm rfl rfl aj (rfl) ?_)
      | (go_at_call 56;refine (HUX.out _ (HX3.out.below hm.below)).mono ?_;rintro e w' ⟨he,hb⟩;subst he;replace hm:=hm.call hb;clear hb)
      | ((with_reducible refine ab (some 29) (.load 3 (.tmp 28)) ?_);refine aw 0 3 (.int .i64 a3) hm rfl rfl ah (rfl) ?_)
      | ((with_reducible refine ab (some 31) (.load 3 (.tmp 30)) ?_);go_must (refine aa (.int .i64 b) rfl (ad 0 (.int .i64 b) (Row.bel HG3.out hm.below) rfl ah rfl) ?_))
      | ((with_reducible refine ab none (.store 3 (.tmp 34) (.tmp 32)) ?_);refine bi 0 3 (.int .i64 (a3+b)) hm rfl (rfl) rfl df (show 3<7 by omega) rfl rfl ?_;clear hm;intro w8 hm)
      | ((with_reducible refine ab (some 37) (.load 3 (.tmp 36)) ?_);refine aw 0 4 (.int .i64 a4) hm rfl rfl ah (rfl) ?_)
      | ((with_reducible refine ab (some 39) (.load 3 (.tmp 38)) ?_);go_must (refine aa (.int .i64 e) rfl (ad 1 (.int .i64 e) (Row.bel HG3.out hm.below) rfl ah rfl) ?_))
      | ((with_reducible refine ab none (.store 3 (.tmp 42) (.tmp 40)) ?_);refine bi 0 4 (.int .i64 (a4+e)) hm rfl (rfl) rfl df (show 4<7 by omega) rfl rfl ?_;clear hm;intro w9 hm)
      | ((with_reducible refine ab (some 45) (.load 9 (.tmp 44)) ?_);refine aw 0 0 (.string y0) hm rfl rfl aj (rfl) ?_)
      | ((with_reducible refine ab (some 47) (.binOp .eql 9 (.tmp 45) (.tmp 46) 9) ?_);go_must (refine aa (.bool false) rfl (aM y0 s false rfl rfl (HEQ.out ())) ?_)))
     refine am ?_
     refine ag (T:=fun W=>Row W lb [.pointer (some ⟨nb,0,none⟩)] 60∧Row W nb [.map (some m)] 69∧Row W g6 (pvv x0.1) 63∧Row W g7 ([Value.string y0,.int .i64 a1,.int .i64 a2,.int .i64 (a3+b),.int .i64 (a4+e),.int .i64 a5,.int .i64 a6]) 66) (by kernel_rfl) hm ?_
     intro wc hbw hmw
     have HT:Hid (Row wc lb [.pointer (some ⟨nb,0,none⟩)] 60∧Row wc nb [.map (some m)] 69∧Row wc g6 (pvv x0.1) 63∧Row wc g7 ([Value.string y0,.int .i64 a1,.int .i64 a2,.int .i64 (a3+b),.int .i64 (a4+e),.int .i64 a5,.int .i64 a6]) 66):=⟨Row.bel HL3.out hmw.below,Row.bel HN3.out hmw.below,hmw.get 1 rfl,hmw.get 0 rfl⟩
     clear hm hbw
     have hm:=hmw
     clear hmw
     have HRC:Hid (wc.ranges Tryz.prog 63 rdV m r q D (fun z=>left z && !z.sameKey kl) cnt'):=HRG.out.kept (an hm.below) (by simp) (by simp)
     obtain ⟨es9,c9,hmap9⟩:=fj HRC.out
     have hne1:lb≠m:=aB HT.out.1 hmap9
     have hne2:nb≠m:=aB HT.out.2.1 hmap9
     have hne3:g6≠m:=aB HT.out.2.2.1 hmap9
     have hne4:g7≠m:=aB HT.out.2.2.2 hmap9
     have HMP:Hid (wc.heap[m]?=some (.map es9 c9)):=hmap9
     have HHS:Hid (Maps.has D kl=true):=HLW.out.2.1.sub kl HKEY.out.2
     clear hmap9
     refine aT 0 (v:=.pointer (some ⟨lb,0,none⟩)) rfl (by kernel_rfl) rfl (fun W _=>by go_simp) HT.out ?_
     go_simp
     refine aT 1 (v:=.pointer (some ⟨lb,0,none⟩)) rfl (by kernel_rfl) rfl (fun W _=>by go_simp) HT.out ?_
     go_simp
     refine aT 2 (v:=.pointer (some ⟨lb,0,none⟩)) rfl (by kernel_rfl) rfl (fun W _=>by go_simp) HT.out ?_
     go_simp
     refine aT 3 (v:=.pointer (some ⟨nb,0,none⟩)) rfl (by kernel_rfl) rfl (fun W hW=>ad 0 (.pointer (some ⟨nb,0,none⟩)) hW.1 rfl c8 rfl) HT.out ?_
     go_simp
     refine aT 4 (v:=.pointer (some ⟨nb,0,none⟩)) rfl (by kernel_rfl) rfl (fun W _=>by go_simp) HT.out ?_
     go_simp
     refine aT 5 (v:=.pointer (some ⟨nb,0,none⟩)) rfl (by kernel_rfl) rfl (fun W _=>by go_simp) HT.out ?_
     go_simp
     refine aT 6 (v:=.map (some m)) rfl (by kernel_rfl) rfl (fun W hW=>ad 0 (.map (some m)) hW.2.1 rfl cE rfl) HT.out ?_
     go_simp
     refine aT 7 (v:=.agg (pvv x0.1).toArray) rfl (by kernel_rfl) rfl (fun W hW=>al 0 (pvv x0.1) hW.2.2.1 rfl _ aH rfl 2 au (Nat.le_refl 2) rfl) HT.out ?_
     go_simp
     refine aT 8 (v:=.agg ([Value.string y0,.int .i64 a1,.int .i64 a2,.int .i64 (a3+b),.int .i64 (a4+e),.int .i64 a5,.int .i64 a6]).toArray) rfl (by kernel_rfl) rfl (fun W hW=>al 0 ([Value.string y0,.int .i64 a1,.int .i64 a2,.int .i64 (a3+b),.int .i64 (a4+e),.int .i64 a5,.int .i64 a6]) hW.2.2.2 rfl _ un_sw rfl 7 cy (Nat.le_refl 7) rfl) HT.out ?_
     go_simp
     refine aO 9 (by kernel_rfl) rfl rfl ?_
     intro K hK
     refine wpl_setQ HRC.out aQ bW HQ.out HKEY.out.1 HHS.out rfl rfl rfl ?_
     intro w9x hr9 hu9
     have HR9:Hid (w9x.ranges Tryz.prog 63 rdV m r q (D.put kl (.held (.agg ([Value.string y0,.int .i64 a1,.int .i64 a2,.int .i64 (a3+b),.int .i64 (a4+e),.int .i64 a5,.int .i64 a6]).toArray))) (fun z=>left z && !z.sameKey kl) cnt'):=hr9
     have HU9:Hid (Upd m wc w9x):=hu9
     have HT9:Hid (Row w9x lb [.pointer (some ⟨nb,0,none⟩)] 60∧Row w9x nb [.map (some m)] 69∧Row w9x g6 (pvv x0.1) 63∧Row w9x g7 ([Value.string y0,.int .i64 a1,.int .i64 a2,.int .i64 (a3+b),.int .i64 (a4+e),.int .i64 a5,.int .i64 a6]) 66):=⟨hu9.row HT.out.1 hne1,hu9.row HT.out.2.1 hne2,hu9.row HT.out.2.2.1 hne3,hu9.row HT.out.2.2.2 hne4⟩
     clear hr9 hu9
     refine wpList_nil ?_
     refine hK _ _ HT9.out ?_
     clear hK K
     go_simp
     refine wpAnyH_done (by kernel_rfl) ?_ _
     simp only [endsIn]
     go_wp2_with fail
     go_roundw
     case rel =>
      have hIM:IsMap D:=HLW.out.1.owns.isMap
      refine ⟨_,addV V x0.1,_,cnt',(HM3.out.call hm.below).updO HMP.out (Or.inl (by simp)) HU9.out,⟨HR9.out,(HLW.out.2.1.next HOK.out HX0.out HKEY.out.1).put hIM (aQ.key HKEY.out.1) HHS.out _,?_⟩,trivial⟩
      have h9:=HLW.out.2.2.put aQ hIM HKEY.out.1 (.agg (spw (chg ks b e x0)).toArray)
      rw [HCG.out ()] at h9
      refine h9.same fun k v=>?_
      rw [←HCG.out ()]
      exact nmK_vis (dQ ks b e) HOK.out HX0.out V k v
     case measure =>
      rw [HR9.out.left_eq,HLW.out.1.left_eq]
      exact hlt
open Go Go.RowKit Go.Maps
theorem can_l {w:World} {lb nb m c:Nat} {p:Nms} {oB oE:List ByteArray→Int} (h:LgAt w lb nb m c p) (hM:MaxL w) (hQ:QtOk p oB oE) (s:ByteArray) (b e r:Int) (hr:r=canE p oB oE s b e) (q:Bool) (hq:q=decide (r=0)) :
  Calls Tryz.prog 10 #[.pointer (some ⟨lb,0,none⟩),.string s,.int .i64 b,.int .i64 e] w fun e_ w'=>e_=.returned (.bool q)∧Below w.heap.size w w':=by
 have hm:=Mem.start w
 obtain ⟨x9,hx⟩:∃z,z=heldC b:=⟨_,rfl⟩
 obtain ⟨y9,hy⟩:∃z,z=heldC e:=⟨_,rfl⟩
 have xE:Hid (x9=heldC b):=hx
 have yE:Hid (y9=heldC e):=hy
 have HRF:Hid (∀W,Below w.heap.size w W→Calls Tryz.prog 29 #[.pointer (some ⟨lb,0,none⟩),.string s,.agg (sm x9 y9).toArray] W fun e w'=>e=.returned (.int .i64 r)∧Below W.heap.size W w'):=fun W hW=>refusal_l (h.below hW) (hM.below hW) hQ s b e x9 y9 hx hy r hr
 clear h hM hQ hx hy hr
 have tk1:Nat:=0
 by_cases h0:r=0
 ·rw [decide_eq_true h0] at hq
  subst h0 hq
  go_enter Tryz.func10,Tryz.ntmps10
  go_wp2_with (first
   | (clear tk1;go_at_call 30;refine (dc b x9 (xE.out) _).mono ?_;rintro e_ w' ⟨he_,hb_⟩;subst he_;replace hm:=hm.call hb_;clear hb_)
   | (go_at_call 30;refine (dc e y9 (yE.out) _).mono ?_;rintro e_ w' ⟨he_,hb_⟩;subst he_;replace hm:=hm.call hb_;clear hb_)
   | ((with_reducible refine ab (some 15) (.build 75 #[(0,.tmp 12),(1,.tmp 14)]) ?_);refine az (sm x9 y9) [(0,.int .i64 x9),(1,.int .i64 y9)] rfl (bA _ _) ?_)
   | (go_at_call 29;refine (HRF.out _ hm.below).mono ?_;rintro e_ w' ⟨he_,hb_⟩;subst he_;replace hm:=hm.call hb_;clear hb_))
  go_ret
  exact ⟨by rfl,hm.below⟩
 ·rw [decide_eq_false h0] at hq
  have hb0:(r==0)=false:=by simpa using h0
  subst hq
  go_enter Tryz.func10,Tryz.ntmps10
  go_wp2_with (first
   | (clear tk1;go_at_call 30;refine (dc b x9 (xE.out) _).mono ?_;rintro e_ w' ⟨he_,hb_⟩;subst he_;replace hm:=hm.call hb_;clear hb_)
   | (go_at_call 30;refine (dc e y9 (yE.out) _).mono ?_;rintro e_ w' ⟨he_,hb_⟩;subst he_;replace hm:=hm.call hb_;clear hb_)
   | ((with_reducible refine ab (some 15) (.build 75 #[(0,.tmp 12),(1,.tmp 14)]) ?_);refine az (sm x9 y9) [(0,.int .i64 x9),(1,.int .i64 y9)] rfl (bA _ _) ?_)
   | (go_at_call 29;refine (HRF.out _ hm.below).mono ?_;rintro e_ w' ⟨he_,hb_⟩;subst he_;replace hm:=hm.call hb_;clear hb_))
  go_ret
  exact ⟨by rfl,hm.below⟩
theorem charge_l {w:World} {lb nb m c:Nat} {p:Nms} {oB oE:List ByteArray→Int} (h:LgAt w lb nb m c p) (hcc:c≤80000) (hM:MaxL w) (hQ:QtOk p oB oE) (hm0:0<m) (s:ByteArray) (b e r:Int) (hr:r=canE p oB oE s b e) :
  Calls Tryz.prog 12 #[.pointer (some ⟨lb,0,none⟩),.string s,.int .i64 b,.int .i64 e] w fun e_ w'=>e_=.returned (.int .i64 r)∧NmAt w' nb m c (if r=0 then chgN p (segsB s) (heldC b) (heldC e) else p)∧Upd m w w':=by
 have hm:=Mem.start w
 obtain ⟨x9,hx⟩:∃z,z=heldC b:=⟨_,rfl⟩
 obtain ⟨y9,hy⟩:∃z,z=heldC e:=⟨_,rfl⟩
 have xE:Hid (x9=heldC b):=hx
 have yE:Hid (y9=heldC e):=hy
 have HRF:Hid (∀W,Below w.heap.size w W→Calls Tryz.prog 29 #[.pointer (some ⟨lb,0,none⟩),.string s,.agg (sm x9 y9).toArray] W fun e w'=>e=.returned (.int .i64 r)∧Below W.heap.size W w'):=fun W hW=>refusal_l (h.below hW) (hM.below hW) hQ s b e x9 y9 hx hy r hr
 have HAD0:Hid (r=0→∀W,Below w.heap.size w W→Calls Tryz.prog 33 #[.pointer (some ⟨lb,0,none⟩),.string s,.agg (sm x9 y9).toArray] W fun e_ w'=>e_=.returned (.tuple #[])∧NmAt w' nb m c (chgN p (segsB s) x9 y9)∧Upd m W w'):=fun h0 W hW=>by
  have h1:=(ef (hr.symm.trans h0)).1
  have h2:isP (bs s)=true:=by
   unfold getB at h1
   rw [Bool.and_eq_true] at h1
   exact h1.1
  have hbx:=bT b
  have hby:=bT e
  rw [←hx] at hbx
  rw [←hy] at hby
  exact add_l (h.below hW) (by omega) (hM.below hW) hm0 (aR s) s (bE h2).symm x9 y9 hbx hby fun z hz=>⟨hQ.use z hz,hQ.ownBd hz⟩
 have HR:Hid (NmAt w nb m c p):=h.nm
 rw [←hx,←hy]
 clear h hM hQ hx hy hr
 have tk1:Nat:=0
 by_cases h0:r=0
 ·have HAD:Hid (∀W,Below w.heap.size w W→Calls Tryz.prog 33 #[.pointer (some ⟨lb,0,none⟩),.string s,.agg (sm x9 y9).toArray] W fun e_ w'=>e_=.returned (.tuple #[])∧NmAt w' nb m c (chgN p (segsB s) x9 y9)∧Upd m W w'):=HAD0.out h0
  rw [if_pos h0]
  subst h0
  go_enter Tryz.func12,Tryz.ntmps12
  go_wp2_with (first
   | (clear tk1;go_at_call 30;refine (dc b x9 (xE.out) _).mono ?_;rintro e_ w' ⟨he_,hb_⟩;subst he_;replace hm:=hm.call hb_;clear hb_)
   | (go_at_call 30;refine (dc e y9 (yE.out) _).mono ?_;rintro e_ w' ⟨he_,hb_⟩;subst he_;replace hm:=hm.call hb_;clear hb_)
   | ((with_reducible refine ab (some 15) (.build 75 #[(0,.tmp 12),(1,.tmp 14)]) ?_);refine az (sm x9 y9) [(0,.int .i64 x9),(1,.int .i64 y9)] rfl (bA _ _) ?_)
   | ((with_reducible refine ab (some 9) (.alloc 75) ?_);refine ae _ bj hm ?_;clear hm;intro w2 g9 hm)
   | ((with_reducible refine ab none (.store 75 (.tmp 9) (.tmp 15)) ?_);refine af 0 (sm x9 y9) hm rfl rfl rfl 2 a7 rfl rfl (bv _ _) ?_;clear hm;intro w3 hm)
   | ((with_reducible refine ab (some 18) (.load 75 (.tmp 9)) ?_);refine av 0 hm rfl rfl _ bM rfl 2 a7 (by rfl) ?_)
   | (go_at_call 29;refine (HRF.out _ hm.below).mono ?_;rintro e_ w' ⟨he_,hb_⟩;subst he_;replace hm:=hm.call hb_;clear hb_)
   | ((with_reducible refine ab (some 24) (.load 75 (.tmp 9)) ?_);refine av 0 hm rfl rfl _ bM rfl 2 a7 (by rfl) ?_)
   | (go_at_call 33;refine (HAD.out _ hm.below).mono ?_;rintro e_ w7 ⟨he_,hn_,hu_⟩;subst he_;have HN7:Hid (NmAt w7 nb m c (chgN p (segsB s) x9 y9)):=hn_;have HU7:Hid (Upd m _ w7):=hu_;clear hn_ hu_))
  go_ret
  exact ⟨rfl,HN7.out,(Upd.of_below hm.below).trans HU7.out⟩
 ·rw [if_neg h0]
  go_enter Tryz.func12,Tryz.ntmps12
  go_wp2_with (first
   | (clear tk1;go_at_call 30;refine (dc b x9 (xE.out) _).mono ?_;rintro e_ w' ⟨he_,hb_⟩;subst he_;replace hm:=hm.call hb_;clear hb_)
   | (go_at_call 30;refine (dc e y9 (yE.out) _).mono ?_;rintro e_ w' ⟨he_,hb_⟩;subst he_;replace hm:=hm.call hb_;clear hb_)
   | ((with_reducible refine ab (some 15) (.build 75 #[(0,.tmp 12),(1,.tmp 14)]) ?_);refine az (sm x9 y9) [(0,.int .i64 x9),(1,.int .i64 y9)] rfl (bA _ _) ?_)
   | ((with_reducible refine ab (some 9) (.alloc 75) ?_);refine ae _ bj hm ?_;clear hm;intro w2 g9 hm)
   | ((with_reducible refine ab none (.store 75 (.tmp 9) (.tmp 15)) ?_);refine af 0 (sm x9 y9) hm rfl rfl rfl 2 a7 rfl rfl (bv _ _) ?_;clear hm;intro w3 hm)
   | ((with_reducible refine ab (some 18) (.load 75 (.tmp 9)) ?_);refine av 0 hm rfl rfl _ bM rfl 2 a7 (by rfl) ?_)
   | (go_at_call 29;refine (HRF.out _ hm.below).mono ?_;rintro e_ w' ⟨he_,hb_⟩;subst he_;replace hm:=hm.call hb_;clear hb_))
  go_ret
  exact ⟨rfl,HR.out.below hm.below,Upd.of_below hm.below⟩
open Go Go.RowKit Go.Maps
theorem un_mk:Tryz.prog.underlying 89=some (.map 9 75):=Tryz.underlying89
theorem str_law:Keyed Tryz.prog 9:=string_keyed Tryz.underlying9
theorem str_key {t:ByteArray} (ht:t.size≤1000):∃kl,keyOf Tryz.prog 9 (.string t)=some kl:=by
 exact ⟨_,Go.WideMaps.keyOf_string_mk aF (by unfold maxLen;omega)⟩
theorem par_all {ks:List ByteArray} (h:PlOk ks):parOk (bs (tx ks)) = !decide (ks=[])∧mkS (parOf (bs (tx ks)))=tx ks.dropLast:=by
 by_cases h0:ks=[]
 ·subst h0
  exact ⟨by decide +kernel,by decide +kernel⟩
 ·obtain ⟨h1,h2⟩:=par_tx h h0
  exact ⟨by rw [h1,decide_eq_false h0];rfl,h2⟩
theorem kdK_look {w:World} {mk q:Nat} {p:Nms} {V:List ByteArray→Bool} (km:KM Tryz.prog 9 w mk q (KdK p V)) {t:ByteArray} (ht:t.size≤1000) :
  (Instr.lookup 89 (.map (some mk)) (.string t) false).run Tryz.prog w=.ok (.agg (sm (kS usB p V t) (kS usE p V t)).toArray) w:=by
 obtain ⟨kl,hk⟩:=str_key ht
 by_cases hc:∃y∈p,kC V t y=true
 ·exact km.look1 str_law un_mk (bj w) hk ⟨t,ht,hc,rfl,rfl⟩
 ·rw [kS_zero hc,kS_zero hc]
  refine km.look1No str_law un_mk (bj w) hk (fun v hv=>?_)
  obtain ⟨t',_,hc',e,_⟩:=hv
  simp only [Value.string.injEq] at e
  subst e
  exact hc hc'
theorem kids_l {w:World} {lb nb m c:Nat} {p:Nms} (h:LgAt w lb nb m c p) (hcc:c≤90000) (hM:MaxL w) (hus:∀x∈p,(0≤usB x∧usB x≤1000000)∧0≤usE x∧usE x≤1000000) (hpl:p.length≤90000) :
  Calls Tryz.prog 47 #[.pointer (some ⟨lb,0,none⟩)] w fun e w'=>∃mk qk V,e=.returned (.map (some mk))∧w.heap.size≤mk∧(∀x∈p,V x.1=true)∧KM Tryz.prog 9 w' mk qk (KdK p V)∧Below w.heap.size w w':=by
 have hm:=Mem.start w
 have HM:Hid (MaxL w):=hM
 have HL:Hid (Row w lb [.pointer (some ⟨nb,0,none⟩)] 60):=h.row
 have HR:Hid (NmAt w nb m c p):=h.nm
 have HOK:Hid (NmOk p):=h.nm.ok
 obtain ⟨q,hq,km⟩:=h.nm.map
 have hq9:q≤90000:=by omega
 have HKM:Hid (KM Tryz.prog 63 w m q (NmK p)):=km
 have HUS:Hid (∀x∈p,(0≤usB x∧usB x≤1000000)∧0≤usE x∧usE x≤1000000):=hus
 have HKB:Hid (∀V t,(0≤kS usB p V t∧kS usB p V t≤1000000 * 90000)∧0≤kS usE p V t∧kS usE p V t≤1000000 * 90000):=fun V t=>by
  have h1:=kS_bound (f:=usB) (fun x hx=>(hus x hx).1) V t
  have h2:=kS_bound (f:=usE) (fun x hx=>(hus x hx).2) V t
  omega
 have HPAR:Hid (∀x∈p,∀W,MaxL W→Calls Tryz.prog 25 #[.string (tx x.1)] W fun e w'=>e=.returned (.tuple #[.string (tx x.1.dropLast),.bool (!decide (x.1=[]))])∧Below W.heap.size W w'):=fun x hx W hW=>by
  have h1:=parentP_any (tx x.1) W (by have:=aX (h.nm.ok.ok x hx);omega) hW
  obtain ⟨e1,e2⟩:=par_all (h.nm.ok.ok x hx)
  rw [e1,e2] at h1
  exact h1
 clear h km hus hq hM hpl
 go_enter Tryz.func47,Tryz.ntmps47
 go_wp2_with (first
  | ((with_reducible refine ab (some 8) (.makeMap 89 none) ?_);refine dw hm ?_;clear hm;intro w1 mk hmap hwm hm;have HK1:Hid (KM Tryz.prog 9 w1 mk 0 (KdK p (fun _=>false))):=(KM.new hmap).same (kdK_start p);clear hmap)
  | ((with_reducible refine ab (some 12) (.load 26 (.tmp 11)) ?_);go_must (refine aa (.pointer (some ⟨nb,0,none⟩)) rfl (ad 0 (.pointer (some ⟨nb,0,none⟩)) (Row.bel HL.out hm.below) rfl c8 rfl) ?_))
  | ((with_reducible refine ab (some 15) (.load 67 (.tmp 14)) ?_);go_must (refine aa (.map (some m)) rfl (ad 0 (.map (some m)) ((HR.out.below hm.below).row) rfl cE rfl) ?_))
  | ((with_reducible refine ab (some 16) (.range 67 (.tmp 15)) ?_);go_must (refine cC (HKM.out.below hm.below) aQ bW rfl ?_);intro w2 r D hrg hD hb2 hr1 hr2))
 go_frame
 have hw1:=hm.size
 have hz2:=hb2.size
 have hrB:r<w2.heap.size:=hr2
 have hwr:w.heap.size≤r:=by omega
 have HM0:Hid (Mem w [] w2 []):=(hm.call hb2).weak
 have HLP:Hid (w2.ranges Tryz.prog 63 rdV m r q D (Maps.has D) (Maps.size D)∧Vis p (fun _=>false) D (Maps.has D)∧KMD Tryz.prog 63 D (NmK p)):=⟨hrg,Vis.start hD,hD⟩
 have HK2:Hid (KM Tryz.prog 9 w2 mk 0 (KdK p (fun _=>false))):=HK1.out.below hb2
 have HRK:Hid (some r≠some mk):=by have h9:r≠mk:=(by have:=HK1.out.lt;omega);exact fun e=>h9 (Option.some.inj e)
 have HMK:Hid (some m≠some mk):=by have h9:m≠mk:=(by have:=HR.out.lt;omega);exact fun e=>h9 (Option.some.inj e)
 clear hm hb2 hrg hD hw1 hr1 hr2 hz2
 go_loopw [17] (fun _ wr=>∃(D:DataW Value) (V:List ByteArray→Bool) (left:Lit→Bool) (cnt:Nat) (qk:Nat),Hid (Mem w [] wr []∧(wr.ranges Tryz.prog 63 rdV m r q D left cnt∧Vis p V D left∧KMD Tryz.prog 63 D (NmK p))∧KM Tryz.prog 9 wr mk qk (KdK p V)∧qk+cnt≤q)) (fun _ wr=>wr.rangeLeft m r)
 case atStart=>exact ⟨D,_,_,_,0,HM0.out,HLP.out,HK2.out,by have:=d9 HLP.out.1;omega⟩
 case round =>
  obtain ⟨D,V,left,cnt,qk,HALL⟩:=hrel
  have HMM:Hid (Mem w [] wr []):=HALL.out.1
  have HLW:Hid (wr.ranges Tryz.prog 63 rdV m r q D left cnt∧Vis p V D left∧KMD Tryz.prog 63 D (NmK p)):=HALL.out.2.1
  have HKQ:Hid (KM Tryz.prog 9 wr mk qk (KdK p V)∧qk+cnt≤q):=HALL.out.2.2
  have HKK:Hid (KM Tryz.prog 9 wr mk qk (KdK p V)):=HKQ.out.1
  have hqk:qk+cnt≤q:=HKQ.out.2
  clear HALL HKQ
  rcases World.ranges.next HLW.out.1 aQ 0 with ⟨h0,hl0,hrun⟩|⟨key,vv,kl,yv,w3,cnt',hkey,hlk,hv,hat,hrun,hrg1,hlt,hgr1,hsz,hen⟩
  ·have HRUN:Hid ((Instr.next (.pointer (some ⟨r,0,none⟩)) false 0).run Tryz.prog wr=.ok (.tuple #[.bool false]) wr):=hrun
   have HDONE:Hid (∀x∈p,V x.1=true):=HLW.out.2.1.done HOK.out hl0
   clear hrun hl0 h0
   have hm:=HMM.out
   go_wp2_with (first
    | ((with_reducible refine ab (some 17) (.next (.tmp 16) false) ?_);go_must (refine aC HRUN.out rfl ?_)))
   go_ret
   exact ⟨mk,qk,V,rfl,hwm,HDONE.out,HKK.out,hm.below⟩
  ·have hx9:=HLW.out.2.2.val hkey (HLW.out.2.1.sub kl hlk) hv hat
   obtain ⟨x0,hx0,rfl,rfl⟩:=hx9
   obtain ⟨y0,a1,a2,a3,a4,a5,a6,hsp,hy0,ha1,ha2,ha3,ha4,ha5,ha6⟩:=cO x0
   have HSP:Hid (∀_:Unit,spw x0=[Value.string y0,.int .i64 a1,.int .i64 a2,.int .i64 a3,.int .i64 a4,.int .i64 a5,.int .i64 a6]):=fun _=>hsp
   have HE:Hid (∀_:Unit,y0=tx x0.1∧a1=lmB x0∧a2=lmE x0∧a3=usB x0∧a4=usE x0∧a5=owB x0∧a6=owE x0):=fun _=>⟨hy0,ha1,ha2,ha3,ha4,ha5,ha6⟩
   rw [hsp] at hrun hen
   have HX0:Hid (x0∈p):=hx0
   have HRUN:Hid ((Instr.next (.pointer (some ⟨r,0,none⟩)) false 0).run Tryz.prog wr=.ok (.tuple #[.bool true,.agg (pvv x0.1).toArray,.agg ([Value.string y0,.int .i64 a1,.int .i64 a2,.int .i64 a3,.int .i64 a4,.int .i64 a5,.int .i64 a6]).toArray]) w3):=hrun
   have HEN:Hid ((Instr.entry (.pointer (some ⟨r,0,none⟩))).run Tryz.prog w3=.ok (.tuple #[.agg (pvv x0.1).toArray,.agg ([Value.string y0,.int .i64 a1,.int .i64 a2,.int .i64 a3,.int .i64 a4,.int .i64 a5,.int .i64 a6]).toArray]) w3):=hen
   have HRG:Hid (w3.ranges Tryz.prog 63 rdV m r q D (fun z=>left z && !z.sameKey kl) cnt'):=hrg1
   have HKEY:Hid (keyOf Tryz.prog 63 (.agg (pvv x0.1).toArray)=some kl∧left kl=true):=⟨hkey,hlk⟩
   have HM3:Hid (Mem w [] w3 []):=HMM.out.updI (by obtain ⟨a,b,c,h⟩:=bV HLW.out.1;exact ⟨_,a,b,c,h⟩) (Or.inr hwr) (Upd.of_grown hgr1)
   have hm:=Mem.start w3
   have HKK3:KM Tryz.prog 9 w3 mk qk (KdK p V):=HKK.out.upd (Upd.of_grown hgr1) (fun e=>HRK.out (by rw [e]))
   clear hrun hen hrg1 hkey hlk hv hat hsz hsp hy0 ha1 ha2 ha3 ha4 ha5 ha6 hx0 hgr1
   have HX3:Hid (MaxL w3):=HM.out.below HM3.out.below
   have HVF:Hid (V x0.1=false):=HLW.out.2.1.fresh HX0.out HKEY.out.1 HKEY.out.2
   obtain ⟨t0,ht0⟩:∃t,t=tx x0.1.dropLast:=⟨_,rfl⟩
   obtain ⟨ok,hok⟩:∃z,z = !decide (x0.1=[]):=⟨_,rfl⟩
   have HPA:Hid (∀W,MaxL W→Calls Tryz.prog 25 #[.string y0] W fun e w'=>e=.returned (.tuple #[.string t0,.bool ok])∧Below W.heap.size W w'):=fun W hW=>by rw [(HE.out ()).1,ht0,hok];exact HPAR.out x0 HX0.out W hW
   have HT0:Hid (t0=tx x0.1.dropLast):=ht0
   have HK3:Hid (KM Tryz.prog 9 w3 mk qk (KdK p V)):=HKK3
   clear HKK3
   cases ok with
   | false =>
    have HZ:Hid (x0.1=[]):=by have h9:x0.1=[]:=(by simpa using hok);exact h9
    clear hok ht0
    go_wp2_with (first
     | ((with_reducible refine ab (some 17) (.next (.tmp 16) false) ?_);go_must (refine aC HRUN.out rfl ?_))
     | ((with_reducible refine ab (some 19) (.entry (.tmp 16)) ?_);go_must (refine aa (.tuple #[.agg (pvv x0.1).toArray,.agg ([Value.string y0,.int .i64 a1,.int .i64 a2,.int .i64 a3,.int .i64 a4,.int .i64 a5,.int .i64 a6]).toArray]) rfl (aN HEN.out rfl) ?_))
     | ((with_reducible refine ab (some 5) (.alloc 66) ?_);refine ae _ bu hm ?_;clear hm;intro w5 g5 hm)
     | ((with_reducible refine ab none (.store 66 (.tmp 5) (.tmp 20)) ?_);refine af 0 ([Value.string y0,.int .i64 a1,.int .i64 a2,.int .i64 a3,.int .i64 a4,.int .i64 a5,.int .i64 a6]) hm rfl rfl rfl 7 cy rfl rfl (bZ _ _ _ _ _ _ _) ?_;clear hm;intro w6 hm)
     | ((with_reducible refine ab (some 24) (.load 9 (.tmp 23)) ?_);refine aw 0 0 (.string y0) hm rfl rfl aj (rfl) ?_)
     | (go_at_call 25;refine (HPA.out _ (HX3.out.below hm.below)).mono ?_;rintro e w' ⟨he,hb⟩;subst he;replace hm:=hm.call hb;clear hb))
    try go_simp
    go_roundw
    case rel =>
     exact ⟨D,addV V x0.1,_,cnt',qk,HM3.out.call hm.below,⟨HRG.out.kept (an hm.below) (by simp) (by simp),HLW.out.2.1.next HOK.out HX0.out HKEY.out.1,HLW.out.2.2⟩,(HK3.out.below hm.below).same (kdK_root HZ.out),by omega⟩
    case measure =>
     rw [(HRG.out.kept (an hm.below) (by simp) (by simp)).left_eq,HLW.out.1.left_eq]
     exact hlt
   | true =>
    have HZ:Hid (x0.1≠[]):=by have h9:x0.1≠[]:=(by simpa using hok);exact h9
    obtain ⟨c1,hc1⟩:∃z,z=kS usB p V t0:=⟨_,rfl⟩
    obtain ⟨c2,hc2⟩:∃z,z=kS usE p V t0:=⟨_,rfl⟩
    have HC:Hid (∀_:Unit,c1=kS usB p V t0∧c2=kS usE p V t0):=fun _=>⟨hc1,hc2⟩
    have HT9:Hid (t0.size≤1000):=by have:=aX (HOK.out.ok x0 HX0.out).drop;rw [ht0];exact Nat.le_trans this (by omega)
    obtain ⟨⟨b1,b2⟩,b3,b4⟩:=HUS.out x0 HX0.out
    rw [←(HE.out ()).2.2.2.1] at b1 b2
    rw [←(HE.out ()).2.2.2.2.1] at b3 b4
    obtain ⟨⟨d1,d2⟩,d3,d4⟩:=HKB.out V t0
    rw [←hc1] at d1 d2
    rw [←hc2] at d3 d4
    have HPL:Hid (∀W,Calls Tryz.prog 48 #[.agg (sm c1 c2).toArray,.agg (sm a3 a4).toArray] W fun e_ w'=>e_=.returned (.agg (sm (c1+a3) (c2+a4)).toArray)∧Below W.heap.size W w'):=fun W=>plus_q c1 c2 a3 a4 _ _ (bt _ (by omega) (by omega)) (bt _ (by omega) (by omega)) W
    obtain ⟨kt,hkt⟩:=str_key HT9.out
    have HKT:Hid (keyOf Tryz.prog 9 (.string t0)=some kt):=hkt
    have HPUT:Hid (∀k v,putK (KdK p V) (.string t0) (.agg (sm (c1+a3) (c2+a4)).toArray) k v↔KdK p (addV V x0.1) k v):=fun k v=>by
     have h9:=kdK_put HOK.out HX0.out HVF.out HZ.out k v
     rw [←HT0.out,←hc1,←hc2,←(HE.out ()).2.2.2.1,←(HE.out ()).2.2.2.2.1] at h9
     exact h9
    clear hok ht0 hc1 hc2 hkt b1 b2 b3 b4 d1 d2 d3 d4
    go_wp2_with (first
     | ((with_reducible refine ab (some 17) (.next (.tmp 16) false) ?_);go_must (refine aC HRUN.out rfl ?_))
     | ((with_reducible refine ab (some 19) (.entry (.tmp 16)) ?_);go_must (refine aa (.tuple #[.agg (pvv x0.1).toArray,.agg ([Value.string y0,.int .i64 a1,.int .i64 a2,.int .i64 a3,.int .i64 a4,.int .i64 a5,.int .i64 a6]).toArray]) rfl (aN HEN.out rfl) ?_))
     | ((with_reducible refine ab (some 5) (.alloc 66) ?_);refine ae _ bu hm ?_;clear hm;intro w5 g5 hm)
     | ((with_reducible refine ab none (.store 66 (.tmp 5) (.tmp 20)) ?_);refine af 0 ([Value.string y0,.int .i64 a1,.int .i64 a2,.int .i64 a3,.int .i64 a4,.int .i64 a5,.int .i64 a6]) hm rfl rfl rfl 7 cy rfl rfl (bZ _ _ _ _ _ _ _) ?_;clear hm;intro w6 hm)
     | ((with_reducible refine ab (some 24) (.load 9 (.tmp 23)) ?_);refine aw 0 0 (.string y0) hm rfl rfl aj (rfl) ?_)
     | (go_at_call 25;refine (HPA.out _ (HX3.out.below hm.below)).mono ?_;rintro e w' ⟨he,hb⟩;subst he;replace hm:=hm.call hb;clear hb)
     | ((with_reducible refine ab (some 33) (.lookup 89 (.tmp 31) (.tmp 32) false) ?_);go_must (refine aa (.agg (sm c1 c2).toArray) rfl (co (by rw [(HC.out ()).1,(HC.out ()).2];exact kdK_look (HK3.out.below hm.below) HT9.out) rfl rfl) ?_))
     | ((with_reducible refine ab (some 36) (.load 3 (.tmp 35)) ?_);refine aw 0 3 (.int .i64 a3) hm rfl rfl ah (rfl) ?_)
     | ((with_reducible refine ab (some 39) (.load 3 (.tmp 38)) ?_);refine aw 0 4 (.int .i64 a4) hm rfl rfl ah (rfl) ?_)
     | ((with_reducible refine ab (some 40) (.build 75 #[(0,.tmp 36),(1,.tmp 39)]) ?_);refine az (sm a3 a4) [(0,.int .i64 a3),(1,.int .i64 a4)] rfl (bA _ _) ?_)
     | (go_at_call 48;refine (HPL.out _).mono ?_;rintro e w' ⟨he,hb⟩;subst he;replace hm:=hm.call hb;clear hb)
     | ((with_reducible refine ab none (.mapUpdate 89 (.tmp 29) (.tmp 30) (.tmp 41)) ?_);refine ed (HK3.out.below hm.below) str_law un_mk (by omega) HKT.out rfl rfl rfl ?_;intro w9 km9 hu9;have HK9:Hid (KM Tryz.prog 9 w9 mk (qk+1) (KdK p (addV V x0.1))):=km9.same HPUT.out;have HU9:Hid (Upd mk _ w9):=hu9;clear km9 hu9))
    try go_simp
    go_roundw
    case rel =>
     obtain ⟨es9,c9,hes9⟩:=(HK3.out.below hm.below).isMap
     refine ⟨D,addV V x0.1,_,cnt',qk+1,(HM3.out.call hm.below).updO hes9 (Or.inr hwm) HU9.out,⟨(HRG.out.kept (an hm.below) (by simp) (by simp)).kept (cY HU9.out) (HMK.out) (HRK.out),HLW.out.2.1.next HOK.out HX0.out HKEY.out.1,HLW.out.2.2⟩,HK9.out,by omega⟩
    case measure =>
     rw [((HRG.out.kept (an hm.below) (by simp) (by simp)).kept (cY HU9.out) (HMK.out) (HRK.out)).left_eq,HLW.out.1.left_eq]
     exact hlt
end Go.Proofs.YtdmohffogfbnbaaGreatDoor
