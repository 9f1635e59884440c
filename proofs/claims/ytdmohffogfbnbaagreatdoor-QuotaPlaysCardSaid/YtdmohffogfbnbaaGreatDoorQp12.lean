import Derived.Test.YtdmohffogfbnbaaGreatDoorQp11
import Derived.Test.YtdmohffogfbnbaaGreatDoorQp05
set_option maxRecDepth 100000
set_option maxHeartbeats 4000000
namespace Go.Proofs.YtdmohffogfbnbaaGreatDoor
open Go Go.RowKit Go.Maps
theorem beyond_l {w:World} {lb nb m c:Nat} {p:Nms} (h:LgAt w lb nb m c p) (hM:MaxL w) {ks:List ByteArray} (hk:PlOk ks) (s:ByteArray) (hs:s=tx ks) (b e:Int) (hb : -1000000≤b∧b≤1000000) (he : -1000000≤e∧e≤1000000) (hus:∀x∈p,(0≤usB x∧usB x≤1000000)∧0≤usE x∧usE x≤1000000) (r:Bool) (hr:r=p.any fun y=>undB ks y.1&&overS b e y) :
  Calls Tryz.prog 53 #[.pointer (some ⟨lb,0,none⟩),.string s,.agg (sm b e).toArray] w fun e_ w'=>e_=.returned (.bool r)∧Below w.heap.size w w':=by
 have hm:=Mem.start w
 have HM:Hid (MaxL w):=hM
 have HL:Hid (Row w lb [.pointer (some ⟨nb,0,none⟩)] 60):=h.row
 have HR:Hid (NmAt w nb m c p):=h.nm
 have HOK:Hid (NmOk p):=h.nm.ok
 obtain ⟨q,hq,km⟩:=h.nm.map
 have HKM:Hid (KM Tryz.prog 63 w m q (NmK p)):=km
 have HU:Hid (∀x∈p,∀W,MaxL W→Calls Tryz.prog 56 #[.string s,.string (tx x.1)] W fun e w'=>e=.returned (.bool (undB ks x.1))∧Below W.heap.size W w'):=fun x hx W hW=>by
  have h1:=ek s (tx x.1) W (by rw [hs];have:=aX hk;omega) (by have:=aX (h.nm.ok.ok x hx);omega) hW
  rw [hs,dg hk (h.nm.ok.ok x hx)] at h1
  rw [hs];exact h1
 obtain ⟨res,hres⟩:∃z,z=r:=⟨_,rfl⟩
 have HY:Hid (∀x∈p,undB ks x.1=true→overS b e x=true→res=true):=fun x hx h1 h2=>by
  rw [hres,hr,List.any_eq_true];exact ⟨x,hx,by rw [h1,h2];rfl⟩
 have HN:Hid ((∀x∈p,(undB ks x.1&&overS b e x)=false)→res=false):=fun h1=>by
  rw [hres,hr,List.any_eq_false];exact fun x hx=>by rw [h1 x hx];simp
 have HUS:Hid (∀x∈p,(0≤usB x∧usB x≤1000000)∧0≤usE x∧usE x≤1000000):=hus
 rw [←hres]
 clear h km hq hus hr hres hk hs hM r
 go_enter Tryz.func53,Tryz.ntmps53
 go_wp2_with (first
  | ((with_reducible refine ab (some 5) (.box 75 (.tmp 2)) ?_);refine aU (sm b e) rfl hm ?_;clear hm;intro w1 g5 hm)
  | ((with_reducible refine ab (some 12) (.load 26 (.tmp 11)) ?_);go_must (refine aa (.pointer (some ⟨nb,0,none⟩)) rfl (ad 0 (.pointer (some ⟨nb,0,none⟩)) (Row.bel HL.out hm.below) rfl c8 rfl) ?_))
  | ((with_reducible refine ab (some 15) (.load 67 (.tmp 14)) ?_);go_must (refine aa (.map (some m)) rfl (ad 0 (.map (some m)) ((HR.out.below hm.below).row) rfl cE rfl) ?_))
  | ((with_reducible refine ab (some 16) (.range 67 (.tmp 15)) ?_);go_must (refine cC (HKM.out.below hm.below) aQ bW rfl ?_);intro w2 r D hrg hD hb2 hr1 hr2))
 go_frame
 have hw1:=hm.size
 have hz2:=hb2.size
 have hrB:r<w2.heap.size:=hr2
 have hwr:w.heap.size≤r:=by omega
 have HM0:Hid (Mem w [] w2 [(g5,sm b e,75)]):=(hm.call hb2).weak
 have HLP:Hid (w2.ranges Tryz.prog 63 rdV m r q D (Maps.has D) (Maps.size D)∧Vis p (fun _=>false) D (Maps.has D)∧KMD Tryz.prog 63 D (NmK p)):=⟨hrg,Vis.start hD,hD⟩
 clear hm hb2 hrg hD hw1 hr1 hr2 hz2
 go_loopw [17] (fun _ wr=>∃(D:DataW Value) (V:List ByteArray→Bool) (left:Lit→Bool) (cnt:Nat),Hid (Mem w [] wr [(g5,sm b e,75)]∧(wr.ranges Tryz.prog 63 rdV m r q D left cnt∧Vis p V D left∧KMD Tryz.prog 63 D (NmK p))∧Past p V (ovT ks b e))) (fun _ wr=>wr.rangeLeft m r)
 case atStart=>exact ⟨D,_,_,_,HM0.out,HLP.out,Past.none p _⟩
 case round =>
  obtain ⟨D,V,left,cnt,HALL⟩:=hrel
  have HMM:Hid (Mem w [] wr [(g5,sm b e,75)]):=HALL.out.1
  have HLW:Hid (wr.ranges Tryz.prog 63 rdV m r q D left cnt∧Vis p V D left∧KMD Tryz.prog 63 D (NmK p)):=HALL.out.2.1
  have HNO:Hid (Past p V (ovT ks b e)):=HALL.out.2.2
  clear HALL
  rcases World.ranges.next HLW.out.1 aQ 0 with ⟨h0,hl0,hrun⟩|⟨key,vv,kl,yv,w3,cnt',hkey,hlk,hv,hat,hrun,hrg1,hlt,hgr1,hsz,hen⟩
  ·have HRUN:Hid ((Instr.next (.pointer (some ⟨r,0,none⟩)) false 0).run Tryz.prog wr=.ok (.tuple #[.bool false]) wr):=hrun
   have HDONE:Hid (∀x∈p,V x.1=true):=HLW.out.2.1.done HOK.out hl0
   clear hrun hl0 h0
   have e1:=HN.out (HNO.out.done HDONE.out)
   subst e1
   have hm:=HMM.out
   go_wp2_with (first
    | ((with_reducible refine ab (some 17) (.next (.tmp 16) false) ?_);go_must (refine aC HRUN.out rfl ?_)))
   go_ret
   exact ⟨rfl,hm.below⟩
  ·have hx9:=HLW.out.2.2.val hkey (HLW.out.2.1.sub kl hlk) hv hat
   obtain ⟨x0,hx0,rfl,rfl⟩:=hx9
   obtain ⟨y0,a1,a2,a3,a4,a5,a6,hsp,hy0,ha1,ha2,ha3,ha4,ha5,ha6⟩:=cO x0
   have HSP:Hid (∀_:Unit,spw x0=[Value.string y0,.int .i64 a1,.int .i64 a2,.int .i64 a3,.int .i64 a4,.int .i64 a5,.int .i64 a6]):=fun _=>hsp
   have HE:Hid (∀_:Unit,y0=tx x0.1∧a1=lmB x0∧a2=lmE x0∧a3=usB x0∧a4=usE x0∧a5=owB x0∧a6=owE x0):=fun _=>⟨hy0,ha1,ha2,ha3,ha4,ha5,ha6⟩
   rw [hsp] at hrun hen
   have HX0:Hid (x0∈p):=hx0
   have HRUN:Hid ((Instr.next (.pointer (some ⟨r,0,none⟩)) false 0).run Tryz.prog wr=.ok (.tuple #[.bool true,.agg (pvv x0.1).toArray,.agg ([Value.string y0,.int .i64 a1,.int .i64 a2,.int .i64 a3,.int .i64 a4,.int .i64 a5,.int .i64 a6]).toArray]) w3):=hrun
   have HEN:Hid ((Instr.entry (.pointer (some ⟨r,0,none⟩))).run Tryz.prog w3=.ok (.tuple #[.agg (pvv x0.1).toArray,.agg ([Value.string y0,.int .i64 a1,.int .i64 a2,.int .i64 a3,.int .i64 a4,.int .i64 a5,.int .i64 a6]).toArray]) w3):=hen
   have HRG:Hid (w3.ranges Tryz.prog 63 rdV m r q D (fun z=>left z && !z.sameKey kl) cnt'):=hrg1
   have HKEY:Hid (keyOf Tryz.prog 63 (.agg (pvv x0.1).toArray)=some kl∧left kl=true):=⟨hkey,hlk⟩
   have HM3:Hid (Mem w [] w3 [(g5,sm b e,75)]):=HMM.out.updI (by obtain ⟨a,b,c,h⟩:=bV HLW.out.1;exact ⟨_,a,b,c,h⟩) (Or.inr hwr) (Upd.of_grown hgr1)
   have hm:=Mem.start w3
   clear hrun hen hrg1 hkey hlk hv hat hsz hsp hy0 ha1 ha2 ha3 ha4 ha5 ha6 hx0 hgr1
   have HG3:Hid (Row w3 g5 (sm b e) 75):=HM3.out.get 0 rfl
   have HX3:Hid (MaxL w3):=HM.out.below HM3.out.below
   obtain ⟨u,hu⟩:∃u,u=undB ks x0.1:=⟨_,rfl⟩
   have HUX:Hid (∀W,MaxL W→Calls Tryz.prog 56 #[.string s,.string y0] W fun e w'=>e=.returned (.bool u)∧Below W.heap.size W w'):=fun W hW=>by rw [(HE.out ()).1,hu];exact HU.out x0 HX0.out W hW
   obtain ⟨⟨b1,b2⟩,b3,b4⟩:=HUS.out x0 HX0.out
   rw [←(HE.out ()).2.2.2.1] at b1 b2
   rw [←(HE.out ()).2.2.2.2.1] at b3 b4
   obtain ⟨r1,hr1⟩:∃z,z=(decide (0<b)&&decide (a1<a3+b)):=⟨_,rfl⟩
   obtain ⟨r2,hr2⟩:∃z,z=(decide (0<e)&&decide (a2<a4+e)):=⟨_,rfl⟩
   have HE1:Hid (∀W,Calls Tryz.prog 70 #[.int .i64 a3,.int .i64 b,.int .i64 a1] W fun e_ w'=>e_=.returned (.bool r1)∧Below W.heap.size W w'):=fun W=>exceeds_q a3 b a1 (a3+b) (bt _ (by omega) (by omega)) r1 hr1 W
   have HE2:Hid (∀W,Calls Tryz.prog 70 #[.int .i64 a4,.int .i64 e,.int .i64 a2] W fun e_ w'=>e_=.returned (.bool r2)∧Below W.heap.size W w'):=fun W=>exceeds_q a4 e a2 (a4+e) (bt _ (by omega) (by omega)) r2 hr2 W
   have HOV:Hid (∀_:Unit,overS b e x0=(r1||r2)):=fun _=>by
    obtain ⟨-,e1,e2,e3,e4, -⟩:=HE.out ()
    unfold overS
    rw [hr1,hr2,e1,e2,e3,e4]
   have HUE:Hid (∀_:Unit,u=undB ks x0.1):=fun _=>hu
   clear hu hr1 hr2 b1 b2 b3 b4
   cases u with
   | false =>
    have HNX:Hid ((undB ks x0.1&&overS b e x0)=false):=by rw [←HUE.out ()];rfl
    go_wp2_with (first
     | ((with_reducible refine ab (some 17) (.next (.tmp 16) false) ?_);go_must (refine aC HRUN.out rfl ?_))
     | ((with_reducible refine ab (some 19) (.entry (.tmp 16)) ?_);go_must (refine aa (.tuple #[.agg (pvv x0.1).toArray,.agg ([Value.string y0,.int .i64 a1,.int .i64 a2,.int .i64 a3,.int .i64 a4,.int .i64 a5,.int .i64 a6]).toArray]) rfl (aN HEN.out rfl) ?_))
     | ((with_reducible refine ab (some 8) (.alloc 66) ?_);refine ae _ bu hm ?_;clear hm;intro w5 g8 hm)
     | ((with_reducible refine ab none (.store 66 (.tmp 8) (.tmp 20)) ?_);refine af 0 ([Value.string y0,.int .i64 a1,.int .i64 a2,.int .i64 a3,.int .i64 a4,.int .i64 a5,.int .i64 a6]) hm rfl rfl rfl 7 cy rfl rfl (bZ _ _ _ _ _ _ _) ?_;clear hm;intro w6 hm)
     | ((with_reducible refine ab (some 24) (.load 9 (.tmp 23)) ?_);refine aw 0 0 (.string y0) hm rfl rfl aj (rfl) ?_)
     | (go_at_call 56;refine (HUX.out _ (HX3.out.below hm.below)).mono ?_;rintro e w' ⟨he,hb⟩;subst he;replace hm:=hm.call hb;clear hb))
    try go_simp
    go_roundw
    case rel =>
     exact ⟨D,addV V x0.1,_,cnt',HM3.out.call hm.below,⟨HRG.out.kept (an hm.below) (by simp) (by simp),HLW.out.2.1.next HOK.out HX0.out HKEY.out.1,HLW.out.2.2⟩,HNO.out.next HOK.out HX0.out HNX.out⟩
    case measure =>
     rw [(HRG.out.kept (an hm.below) (by simp) (by simp)).left_eq,HLW.out.1.left_eq]
     exact hlt
   | true =>
    cases r1 with
    | true =>
     have HYX:Hid (∀_:Unit,res=true):=fun _=>HY.out x0 HX0.out (HUE.out ()).symm (by rw [HOV.out ()];rfl)
     go_wp2_with (first
      | ((with_reducible refine ab (some 17) (.next (.tmp 16) false) ?_);go_must (refine aC HRUN.out rfl ?_))
      | ((with_reducible refine ab (some 19) (.entry (.tmp 16)) ?_);go_must (refine aa (.tuple #[.agg (pvv x0.1).toArray,.agg ([Value.string y0,.int .i64 a1,.int .i64 a2,.int .i64 a3,.int .i64 a4,.int .i64 a5,.int .i64 a6]).toArray]) rfl (aN HEN.out rfl) ?_))
      | ((with_reducible refine ab (some 8) (.alloc 66) ?_);refine ae _ bu hm ?_;clear hm;intro w5 g8 hm)
      | ((with_reducible refine ab none (.store 66 (.tmp 8) (.tmp 20)) ?_);refine af 0 ([Value.string y0,.int .i64 a1,.int .i64 a2,.int .i64 a3,.int .i64 a4,.int .i64 a5,.int .i64 a6]) hm rfl rfl rfl 7 cy rfl rfl (bZ _ _ _ _ _ _ _) ?_;clear hm;intro w6 hm)
      | ((with_reducible refine ab (some 24) (.load 9 (.tmp 23)) ?_);refine aw 0 0 (.string y0) hm rfl rfl aj (rfl) ?_)
      | (go_at_call 56;refine (HUX.out _ (HX3.out.below hm.below)).mono ?_;rintro e w' ⟨he,hb⟩;subst he;replace hm:=hm.call hb;clear hb)
      | ((with_reducible refine ax (some 29) (.load 3 (.tmp 28)) (some (5,true)) ?_);go_must (refine aa (.int .i64 a3) rfl (ad 3 (.int .i64 a3) (hm.get 0 rfl) rfl ah rfl) ?_))
      | ((with_reducible refine ax (some 31) (.load 3 (.tmp 30)) (some (5,true)) ?_);go_must (refine aa (.int .i64 b) rfl (ad 0 (.int .i64 b) (Row.bel HG3.out hm.below) rfl ah rfl) ?_))
      | ((with_reducible refine ax (some 34) (.load 3 (.tmp 33)) (some (5,true)) ?_);go_must (refine aa (.int .i64 a1) rfl (ad 1 (.int .i64 a1) (hm.get 0 rfl) rfl ah rfl) ?_))
      | (go_at_call 70;refine (HE1.out _).mono ?_;rintro e w' ⟨he,hb⟩;subst he;replace hm:=hm.call hb;clear hb))
     go_ret
     exact ⟨by rw [HYX.out ()];rfl,HM3.out.below.trans (hm.below.mono HM3.out.size)⟩
    | false =>
     have tk1:Nat:=0
     cases r2 with
     | true =>
      have HYX:Hid (∀_:Unit,res=true):=fun _=>HY.out x0 HX0.out (HUE.out ()).symm (by rw [HOV.out ()];rfl)
      go_wp2_with (first
       | ((with_reducible refine ab (some 17) (.next (.tmp 16) false) ?_);go_must (refine aC HRUN.out rfl ?_))
       | ((with_reducible refine ab (some 19) (.entry (.tmp 16)) ?_);go_must (refine aa (.tuple #[.agg (pvv x0.1).toArray,.agg ([Value.string y0,.int .i64 a1,.int .i64 a2,.int .i64 a3,.int .i64 a4,.int .i64 a5,.int .i64 a6]).toArray]) rfl (aN HEN.out rfl) ?_))
       | ((with_reducible refine ab (some 8) (.alloc 66) ?_);refine ae _ bu hm ?_;clear hm;intro w5 g8 hm)
       | ((with_reducible refine ab none (.store 66 (.tmp 8) (.tmp 20)) ?_);refine af 0 ([Value.string y0,.int .i64 a1,.int .i64 a2,.int .i64 a3,.int .i64 a4,.int .i64 a5,.int .i64 a6]) hm rfl rfl rfl 7 cy rfl rfl (bZ _ _ _ _ _ _ _) ?_;clear hm;intro w6 hm)
       | ((with_reducible refine ab (some 24) (.load 9 (.tmp 23)) ?_);refine aw 0 0 (.string y0) hm rfl rfl aj (rfl) ?_)
       | (go_at_call 56;refine (HUX.out _ (HX3.out.below hm.below)).mono ?_;rintro e w' ⟨he,hb⟩;subst he;replace hm:=hm.call hb;clear hb)
       | ((with_reducible refine ax (some 29) (.load 3 (.tmp 28)) (some (5,true)) ?_);go_must (refine aa (.int .i64 a3) rfl (ad 3 (.int .i64 a3) (hm.get 0 rfl) rfl ah rfl) ?_))
       | ((with_reducible refine ax (some 31) (.load 3 (.tmp 30)) (some (5,true)) ?_);go_must (refine aa (.int .i64 b) rfl (ad 0 (.int .i64 b) (Row.bel HG3.out hm.below) rfl ah rfl) ?_))
       | ((with_reducible refine ax (some 34) (.load 3 (.tmp 33)) (some (5,true)) ?_);go_must (refine aa (.int .i64 a1) rfl (ad 1 (.int .i64 a1) (hm.get 0 rfl) rfl ah rfl) ?_))
       | (clear tk1;go_at_call 70;refine (HE1.out _).mono ?_;rintro e w' ⟨he,hb⟩;subst he;replace hm:=hm.call hb;clear hb)
       | ((with_reducible refine ax (some 39) (.load 3 (.tmp 38)) (some (15,false)) ?_);go_must (refine aa (.int .i64 a4) rfl (ad 4 (.int .i64 a4) (hm.get 0 rfl) rfl ah rfl) ?_))
       | ((with_reducible refine ax (some 41) (.load 3 (.tmp 40)) (some (15,false)) ?_);go_must (refine aa (.int .i64 e) rfl (ad 1 (.int .i64 e) (Row.bel HG3.out hm.below) rfl ah rfl) ?_))
       | ((with_reducible refine ax (some 44) (.load 3 (.tmp 43)) (some (15,false)) ?_);go_must (refine aa (.int .i64 a2) rfl (ad 2 (.int .i64 a2) (hm.get 0 rfl) rfl ah rfl) ?_))
       | (go_at_call 70;refine (HE2.out _).mono ?_;rintro e w' ⟨he,hb⟩;subst he;replace hm:=hm.call hb;clear hb))
      go_ret
      exact ⟨by rw [HYX.out ()];rfl,HM3.out.below.trans (hm.below.mono HM3.out.size)⟩
     | false =>
      have HNX:Hid ((undB ks x0.1&&overS b e x0)=false):=by rw [HOV.out ()];cases undB ks x0.1<;>rfl
      go_wp2_with (first
       | ((with_reducible refine ab (some 17) (.next (.tmp 16) false) ?_);go_must (refine aC HRUN.out rfl ?_))
       | ((with_reducible refine ab (some 19) (.entry (.tmp 16)) ?_);go_must (refine aa (.tuple #[.agg (pvv x0.1).toArray,.agg ([Value.string y0,.int .i64 a1,.int .i64 a2,.int .i64 a3,.int .i64 a4,.int .i64 a5,.int .i64 a6]).toArray]) rfl (aN HEN.out rfl) ?_))
       | ((with_reducible refine ab (some 8) (.alloc 66) ?_);refine ae _ bu hm ?_;clear hm;intro w5 g8 hm)
       | ((with_reducible refine ab none (.store 66 (.tmp 8) (.tmp 20)) ?_);refine af 0 ([Value.string y0,.int .i64 a1,.int .i64 a2,.int .i64 a3,.int .i64 a4,.int .i64 a5,.int .i64 a6]) hm rfl rfl rfl 7 cy rfl rfl (bZ _ _ _ _ _ _ _) ?_;clear hm;intro w6 hm)
       | ((with_reducible refine ab (some 24) (.load 9 (.tmp 23)) ?_);refine aw 0 0 (.string y0) hm rfl rfl aj (rfl) ?_)
       | (go_at_call 56;refine (HUX.out _ (HX3.out.below hm.below)).mono ?_;rintro e w' ⟨he,hb⟩;subst he;replace hm:=hm.call hb;clear hb)
       | ((with_reducible refine ax (some 29) (.load 3 (.tmp 28)) (some (5,true)) ?_);go_must (refine aa (.int .i64 a3) rfl (ad 3 (.int .i64 a3) (hm.get 0 rfl) rfl ah rfl) ?_))
       | ((with_reducible refine ax (some 31) (.load 3 (.tmp 30)) (some (5,true)) ?_);go_must (refine aa (.int .i64 b) rfl (ad 0 (.int .i64 b) (Row.bel HG3.out hm.below) rfl ah rfl) ?_))
       | ((with_reducible refine ax (some 34) (.load 3 (.tmp 33)) (some (5,true)) ?_);go_must (refine aa (.int .i64 a1) rfl (ad 1 (.int .i64 a1) (hm.get 0 rfl) rfl ah rfl) ?_))
       | (clear tk1;go_at_call 70;refine (HE1.out _).mono ?_;rintro e w' ⟨he,hb⟩;subst he;replace hm:=hm.call hb;clear hb)
       | ((with_reducible refine ax (some 39) (.load 3 (.tmp 38)) (some (15,false)) ?_);go_must (refine aa (.int .i64 a4) rfl (ad 4 (.int .i64 a4) (hm.get 0 rfl) rfl ah rfl) ?_))
       | ((with_reducible refine ax (some 41) (.load 3 (.tmp 40)) (some (15,false)) ?_);go_must (refine aa (.int .i64 e) rfl (ad 1 (.int .i64 e) (Row.bel HG3.out hm.below) rfl ah rfl) ?_))
       | ((with_reducible refine ax (some 44) (.load 3 (.tmp 43)) (some (15,false)) ?_);go_must (refine aa (.int .i64 a2) rfl (ad 2 (.int .i64 a2) (hm.get 0 rfl) rfl ah rfl) ?_))
       | (go_at_call 70;refine (HE2.out _).mono ?_;rintro e w' ⟨he,hb⟩;subst he;replace hm:=hm.call hb;clear hb))
      try go_simp
      go_roundw
      case rel =>
       exact ⟨D,addV V x0.1,_,cnt',HM3.out.call hm.below,⟨HRG.out.kept (an hm.below) (by simp) (by simp),HLW.out.2.1.next HOK.out HX0.out HKEY.out.1,HLW.out.2.2⟩,HNO.out.next HOK.out HX0.out HNX.out⟩
      case measure =>
       rw [(HRG.out.kept (an hm.below) (by simp) (by simp)).left_eq,HLW.out.1.left_eq]
       exact hlt
open Go Go.RowKit Go.Maps
theorem QtOk.ownBd {p:Nms} {oB oE:List ByteArray→Int} (h:QtOk p oB oE) {x:Sp} (hx:x∈p):(0≤owB x∧owB x≤1000000)∧0≤owE x∧owE x≤1000000:=by
 obtain ⟨h1,h2⟩:=h.leftAll hx
 obtain ⟨h3,h4⟩:=h.ow x hx
 have h5:=h.leftB hx p.length
 have h6:=h.leftE hx p.length
 omega
theorem QtOk.use {p:Nms} {oB oE:List ByteArray→Int} (h:QtOk p oB oE):∀x∈p,(0≤usB x∧usB x≤1000000)∧0≤usE x∧usE x≤1000000:=fun x hx=>by have:=h.bounds hx;omega
def owV (o:List ByteArray→Int) (p:Nms) (s:ByteArray):Int:=if getB p s=true then o (segsB s) else 0
theorem eL {p:Nms} {oB oE:List ByteArray→Int} (h:QtOk p oB oE) (s:ByteArray):∀x∈p,tx x.1=s→getB p s=true∧owB x=owV oB p s∧owE x=owV oE p s:=fun x hx hs=>by
 have h1:getB p s=true:=(getB_tx h.tr.ok s).2 ⟨x,hx,hs⟩
 have h2:=((dq (h.tr.ok.ok x hx) s).1 hs).2
 obtain ⟨h3,h4⟩:=h.ow x hx
 unfold owV
 rw [if_pos h1,if_pos h1,h2]
 exact ⟨h1,h3,h4⟩
theorem own_not {p:Nms} {oB oE:List ByteArray→Int} (h:QtOk p oB oE) (s:ByteArray) (hn:∀x∈p,tx x.1≠s):getB p s=false∧owV oB p s=0∧owV oE p s=0:=by
 have h1:¬getB p s=true:=fun hc=>by
  obtain ⟨x,hx,e⟩:=(getB_tx h.tr.ok s).1 hc
  exact hn x hx e
 unfold owV
 rw [if_neg h1,if_neg h1]
 exact ⟨by simpa using h1,rfl,rfl⟩
theorem owV_bd {p:Nms} {oB oE:List ByteArray→Int} (h:QtOk p oB oE) (s:ByteArray):(0≤owV oB p s∧owV oB p s≤1000000)∧0≤owV oE p s∧owV oE p s≤1000000:=by
 by_cases hg:∃x∈p,tx x.1=s
 ·obtain ⟨x,hx,e⟩:=hg
  obtain ⟨_,h2,h3⟩:=eL h s x hx e
  rw [←h2,←h3]
  exact h.ownBd hx
 ·obtain ⟨_,h2,h3⟩:=own_not h s (fun x hx e=>hg ⟨x,hx,e⟩)
  rw [h2,h3];omega
theorem ownF_l {w:World} {lb nb m c:Nat} {p:Nms} {oB oE:List ByteArray→Int} (h:LgAt w lb nb m c p) (hQ:QtOk p oB oE) (s:ByteArray) :
  Calls Tryz.prog 20 #[.pointer (some ⟨lb,0,none⟩),.string s] w fun e w'=>e=.returned (.tuple #[.int .i64 (owV oB p s),.int .i64 (owV oE p s),.bool (getB p s)])∧Below w.heap.size w w':=by
 have hm:=Mem.start w
 obtain ⟨a,ha⟩:∃z,z=owV oB p s:=⟨_,rfl⟩
 obtain ⟨b,hb⟩:∃z,z=owV oE p s:=⟨_,rfl⟩
 obtain ⟨g,hg⟩:∃z,z=getB p s:=⟨_,rfl⟩
 have HO:Hid (∀W,Below w.heap.size w W→Calls Tryz.prog 45 #[.pointer (some ⟨lb,0,none⟩),.string s] W fun e w'=>e=.returned (.tuple #[.agg (sm a b).toArray,.bool g])∧Below W.heap.size W w'):=fun W hW=>own_l (h.below hW) s a b g (by rw [ha,hb,hg];exact eL hQ s) (by rw [ha,hb,hg];exact own_not hQ s)
 rw [←ha,←hb,←hg]
 clear h hQ ha hb hg
 go_enter Tryz.func20,Tryz.ntmps20
 go_wp2_with (first
  | (go_at_call 45;refine (HO.out _ hm.below).mono ?_;rintro e w' ⟨he,hb⟩;subst he;replace hm:=hm.call hb;clear hb)
  | ((with_reducible refine ab (some 7) (.alloc 75) ?_);refine ae _ bj hm ?_;clear hm;intro w2 g7 hm)
  | ((with_reducible refine ab none (.store 75 (.tmp 7) (.tmp 13)) ?_);refine af 0 (sm a b) hm rfl rfl rfl 2 a7 rfl rfl (bv _ _) ?_;clear hm;intro w3 hm))
 refine am ?_
 refine ag (T:=fun W=>Mem w [] W [(g7,sm a b,75)]) (by kernel_rfl) hm ?_
 intro wc hbw hmw
 clear hm
 have hm:=hmw
 clear hbw hmw
 refine aT 0 (v:=.pointer (some ⟨g7,0,none⟩)) rfl (by kernel_rfl) rfl (fun W _=>by go_simp) hm ?_
 go_simp
 refine aT 1 (v:=.int .i64 a) rfl (by kernel_rfl) rfl (fun W hW=>ad 0 (.int .i64 a) (Mem.get hW 0 rfl) rfl ah rfl) hm ?_
 go_simp
 refine aT 2 (v:=.pointer (some ⟨g7,1,none⟩)) rfl (by kernel_rfl) rfl (fun W _=>by go_simp) hm ?_
 go_simp
 refine aT 3 (v:=.int .i64 b) rfl (by kernel_rfl) rfl (fun W hW=>ad 1 (.int .i64 b) (Mem.get hW 0 rfl) rfl ah rfl) hm ?_
 go_simp
 refine aT 4 (v:=.bool g) rfl (by kernel_rfl) rfl (fun W _=>by go_simp) hm ?_
 go_simp
 refine aT 5 (v:=.int .i64 a) rfl (by kernel_rfl) rfl (fun W _=>by go_simp) hm ?_
 go_simp
 refine aT 6 (v:=.int .i64 b) rfl (by kernel_rfl) rfl (fun W _=>by go_simp) hm ?_
 go_simp
 refine aT 7 (v:=.bool g) rfl (by kernel_rfl) rfl (fun W _=>by go_simp) hm ?_
 go_simp
 refine wpAnyH_done (by kernel_rfl) ?_ _
 simp only [endsIn]
 go_wp2_with fail
 go_ret3
 exact ⟨rfl,hm.below⟩
theorem refusal_l {w:World} {lb nb m c:Nat} {p:Nms} {oB oE:List ByteArray→Int} (h:LgAt w lb nb m c p) (hM:MaxL w) (hQ:QtOk p oB oE) (s:ByteArray) (b0 e0:Int) (x y:Int) (hx:x=heldC b0) (hy:y=heldC e0) (r:Int) (hr:r=canE p oB oE s b0 e0) :
  Calls Tryz.prog 29 #[.pointer (some ⟨lb,0,none⟩),.string s,.agg (sm x y).toArray] w fun e w'=>e=.returned (.int .i64 r)∧Below w.heap.size w w':=by
 have hm:=Mem.start w
 have hbx:=bT b0
 have hby:=bT e0
 rw [←hx] at hbx
 rw [←hy] at hby
 obtain ⟨a,ha⟩:∃z,z=owV oB p s:=⟨_,rfl⟩
 obtain ⟨b,hb⟩:∃z,z=owV oE p s:=⟨_,rfl⟩
 obtain ⟨g,hg⟩:∃z,z=getB p s:=⟨_,rfl⟩
 obtain ⟨u,hu⟩:∃z,z=a+x:=⟨_,rfl⟩
 obtain ⟨v,hv⟩:∃z,z=b+y:=⟨_,rfl⟩
 obtain ⟨o,ho⟩:∃z,z=p.any fun z=>undB (segsB s) z.1&&overS x y z:=⟨_,rfl⟩
 have hab:=owV_bd hQ s
 rw [←ha,←hb] at hab
 have HO:Hid (∀W,Below w.heap.size w W→Calls Tryz.prog 45 #[.pointer (some ⟨lb,0,none⟩),.string s] W fun e w'=>e=.returned (.tuple #[.agg (sm a b).toArray,.bool g])∧Below W.heap.size W w'):=fun W hW=>own_l (h.below hW) s a b g (by rw [ha,hb,hg];exact eL hQ s) (by rw [ha,hb,hg];exact own_not hQ s)
 have HPL:Hid (∀W,Calls Tryz.prog 48 #[.agg (sm a b).toArray,.agg (sm x y).toArray] W fun e_ w'=>e_=.returned (.agg (sm u v).toArray)∧Below W.heap.size W w'):=fun W=>plus_q a b x y u v ((bt _ (by omega) (by omega)).trans hu.symm) ((bt _ (by omega) (by omega)).trans hv.symm) W
 have HBY0:Hid (g=true→∀W,Below w.heap.size w W→Calls Tryz.prog 53 #[.pointer (some ⟨lb,0,none⟩),.string s,.agg (sm x y).toArray] W fun e w'=>e=.returned (.bool o)∧Below W.heap.size W w'):=fun h1 W hW=>by
  have h2:isP (bs s)=true:=by
   rw [hg] at h1
   unfold getB at h1
   rw [Bool.and_eq_true] at h1
   exact h1.1
  exact beyond_l (h.below hW) (hM.below hW) (aR s) s (bE h2).symm x y hbx hby hQ.use o ho
 have HRE:Hid (∀_:Unit,r=if g=false then 100 else if u<0∨v<0 then 12 else if o=true then 170 else 0):=fun _=>by
  rw [hr]
  unfold canE
  rw [←hg,←hx,←hy,←ho]
  by_cases h1:g=false
  ·rw [if_pos h1,if_pos h1]
  ·have h2:getB p s=true:=by rw [←hg];simpa using h1
   have e1:a=oB (segsB s):=by rw [ha];unfold owV;rw [if_pos h2]
   have e2:b=oE (segsB s):=by rw [hb];unfold owV;rw [if_pos h2]
   rw [if_neg h1,if_neg h1,hu,hv,e1,e2]
 clear h hM hQ hx hy hr ha hb hg hu hv ho hab hbx hby
 cases g with
 | false =>
  have e1:r=100:=by rw [HRE.out ()];rfl
  subst e1
  go_enter Tryz.func29,Tryz.ntmps29
  go_wp2_with (first
   | ((with_reducible refine ab (some 5) (.box 75 (.tmp 2)) ?_);refine aU (sm x y) rfl hm ?_;clear hm;intro w1 g5 hm)
   | (go_at_call 45;refine (HO.out _ hm.below).mono ?_;rintro e_ w' ⟨he_,hb_⟩;subst he_;replace hm:=hm.call hb_;clear hb_)
   | ((with_reducible refine ab (some 7) (.alloc 75) ?_);refine ae _ bj hm ?_;clear hm;intro w2 g7 hm)
   | ((with_reducible refine ab none (.store 75 (.tmp 7) (.tmp 14)) ?_);refine af 0 (sm a b) hm rfl rfl rfl 2 a7 rfl rfl (bv _ _) ?_;clear hm;intro w3 hm)
   | ((with_reducible refine ab (some 16) (.load 75 (.tmp 7)) ?_);refine av 0 hm rfl rfl _ bM rfl 2 a7 (by rfl) ?_)
   | ((with_reducible refine ab (some 17) (.load 75 (.tmp 5)) ?_);refine av 1 hm rfl rfl _ bM rfl 2 a7 (by rfl) ?_)
   | (go_at_call 48;refine (HPL.out _).mono ?_;rintro e_ w' ⟨he_,hb_⟩;subst he_;replace hm:=hm.call hb_;clear hb_)
   | ((with_reducible refine ab (some 9) (.alloc 75) ?_);refine ae _ bj hm ?_;clear hm;intro w5 g9 hm)
   | ((with_reducible refine ab none (.store 75 (.tmp 9) (.tmp 18)) ?_);refine af 0 (sm u v) hm rfl rfl rfl 2 a7 rfl rfl (bv _ _) ?_;clear hm;intro w6 hm))
  go_ret
  exact ⟨rfl,hm.below⟩
 | true =>
  have HBY:Hid (∀W,Below w.heap.size w W→Calls Tryz.prog 53 #[.pointer (some ⟨lb,0,none⟩),.string s,.agg (sm x y).toArray] W fun e w'=>e=.returned (.bool o)∧Below W.heap.size W w'):=HBY0.out rfl
  by_cases h1:u<0
  ·have e1:r=12:=by rw [HRE.out (),if_neg (by simp),if_pos (Or.inl h1)]
   subst e1
   have h1b:decide (u<0)=true:=decide_eq_true h1
   go_enter Tryz.func29,Tryz.ntmps29
   go_wp2_with (first
    | ((with_reducible refine ab (some 5) (.box 75 (.tmp 2)) ?_);refine aU (sm x y) rfl hm ?_;clear hm;intro w1 g5 hm)
    | (go_at_call 45;refine (HO.out _ hm.below).mono ?_;rintro e_ w' ⟨he_,hb_⟩;subst he_;replace hm:=hm.call hb_;clear hb_)
    | ((with_reducible refine ab (some 7) (.alloc 75) ?_);refine ae _ bj hm ?_;clear hm;intro w2 g7 hm)
    | ((with_reducible refine ab none (.store 75 (.tmp 7) (.tmp 14)) ?_);refine af 0 (sm a b) hm rfl rfl rfl 2 a7 rfl rfl (bv _ _) ?_;clear hm;intro w3 hm)
    | ((with_reducible refine ab (some 16) (.load 75 (.tmp 7)) ?_);refine av 0 hm rfl rfl _ bM rfl 2 a7 (by rfl) ?_)
    | ((with_reducible refine ab (some 17) (.load 75 (.tmp 5)) ?_);refine av 1 hm rfl rfl _ bM rfl 2 a7 (by rfl) ?_)
    | (go_at_call 48;refine (HPL.out _).mono ?_;rintro e_ w' ⟨he_,hb_⟩;subst he_;replace hm:=hm.call hb_;clear hb_)
    | ((with_reducible refine ab (some 9) (.alloc 75) ?_);refine ae _ bj hm ?_;clear hm;intro w5 g9 hm)
    | ((with_reducible refine ab none (.store 75 (.tmp 9) (.tmp 18)) ?_);refine af 0 (sm u v) hm rfl rfl rfl 2 a7 rfl rfl (bv _ _) ?_;clear hm;intro w6 hm)
    | ((with_reducible refine ab (some 24) (.load 3 (.tmp 23)) ?_);refine aw 0 0 (.int .i64 u) hm rfl rfl ah (rfl) ?_))
   go_ret
   exact ⟨rfl,hm.below⟩
  ·have h1b:decide (u<0)=false:=decide_eq_false h1
   by_cases h2:v<0
   ·have e1:r=12:=by rw [HRE.out (),if_neg (by simp),if_pos (Or.inr h2)]
    subst e1
    go_enter Tryz.func29,Tryz.ntmps29
    go_wp2_with (first
     | ((with_reducible refine ab (some 5) (.box 75 (.tmp 2)) ?_);refine aU (sm x y) rfl hm ?_;clear hm;intro w1 g5 hm)
     | (go_at_call 45;refine (HO.out _ hm.below).mono ?_;rintro e_ w' ⟨he_,hb_⟩;subst he_;replace hm:=hm.call hb_;clear hb_)
     | ((with_reducible refine ab (some 7) (.alloc 75) ?_);refine ae _ bj hm ?_;clear hm;intro w2 g7 hm)
     | ((with_reducible refine ab none (.store 75 (.tmp 7) (.tmp 14)) ?_);refine af 0 (sm a b) hm rfl rfl rfl 2 a7 rfl rfl (bv _ _) ?_;clear hm;intro w3 hm)
     | ((with_reducible refine ab (some 16) (.load 75 (.tmp 7)) ?_);refine av 0 hm rfl rfl _ bM rfl 2 a7 (by rfl) ?_)
     | ((with_reducible refine ab (some 17) (.load 75 (.tmp 5)) ?_);refine av 1 hm rfl rfl _ bM rfl 2 a7 (by rfl) ?_)
     | (go_at_call 48;refine (HPL.out _).mono ?_;rintro e_ w' ⟨he_,hb_⟩;subst he_;replace hm:=hm.call hb_;clear hb_)
     | ((with_reducible refine ab (some 9) (.alloc 75) ?_);refine ae _ bj hm ?_;clear hm;intro w5 g9 hm)
     | ((with_reducible refine ab none (.store 75 (.tmp 9) (.tmp 18)) ?_);refine af 0 (sm u v) hm rfl rfl rfl 2 a7 rfl rfl (bv _ _) ?_;clear hm;intro w6 hm)
     | ((with_reducible refine ab (some 24) (.load 3 (.tmp 23)) ?_);refine aw 0 0 (.int .i64 u) hm rfl rfl ah (rfl) ?_)
     | ((with_reducible refine ax (some 28) (.load 3 (.tmp 27)) (some (3,false)) ?_);go_must (refine aa (.int .i64 v) rfl (ad 1 (.int .i64 v) (hm.get 0 rfl) rfl ah rfl) ?_)))
    go_ret
    exact ⟨rfl,hm.below⟩
   ·have HR1:Hid (∀_:Unit,r=if o=true then 170 else 0):=fun _=>by rw [HRE.out (),if_neg (by simp),if_neg (by omega)]
    cases o with
    | true =>
     have e1:r=170:=by rw [HR1.out ()];rfl
     subst e1
     go_enter Tryz.func29,Tryz.ntmps29
     go_wp2_with (first
      | ((with_reducible refine ab (some 5) (.box 75 (.tmp 2)) ?_);refine aU (sm x y) rfl hm ?_;clear hm;intro w1 g5 hm)
      | (go_at_call 45;refine (HO.out _ hm.below).mono ?_;rintro e_ w' ⟨he_,hb_⟩;subst he_;replace hm:=hm.call hb_;clear hb_)
      | ((with_reducible refine ab (some 7) (.alloc 75) ?_);refine ae _ bj hm ?_;clear hm;intro w2 g7 hm)
      | ((with_reducible refine ab none (.store 75 (.tmp 7) (.tmp 14)) ?_);refine af 0 (sm a b) hm rfl rfl rfl 2 a7 rfl rfl (bv _ _) ?_;clear hm;intro w3 hm)
      | ((with_reducible refine ab (some 16) (.load 75 (.tmp 7)) ?_);refine av 0 hm rfl rfl _ bM rfl 2 a7 (by rfl) ?_)
      | ((with_reducible refine ab (some 17) (.load 75 (.tmp 5)) ?_);refine av 1 hm rfl rfl _ bM rfl 2 a7 (by rfl) ?_)
      | (go_at_call 48;refine (HPL.out _).mono ?_;rintro e_ w' ⟨he_,hb_⟩;subst he_;replace hm:=hm.call hb_;clear hb_)
      | ((with_reducible refine ab (some 9) (.alloc 75) ?_);refine ae _ bj hm ?_;clear hm;intro w5 g9 hm)
      | ((with_reducible refine ab none (.store 75 (.tmp 9) (.tmp 18)) ?_);refine af 0 (sm u v) hm rfl rfl rfl 2 a7 rfl rfl (bv _ _) ?_;clear hm;intro w6 hm)
      | ((with_reducible refine ab (some 24) (.load 3 (.tmp 23)) ?_);refine aw 0 0 (.int .i64 u) hm rfl rfl ah (rfl) ?_)
      | ((with_reducible refine ax (some 28) (.load 3 (.tmp 27)) (some (3,false)) ?_);go_must (refine aa (.int .i64 v) rfl (ad 1 (.int .i64 v) (hm.get 0 rfl) rfl ah rfl) ?_))
      | ((with_reducible refine ab (some 34) (.load 75 (.tmp 5)) ?_);refine av 2 hm rfl rfl _ bM rfl 2 a7 (by rfl) ?_)
      | (go_at_call 53;refine (HBY.out _ hm.below).mono ?_;rintro e_ w' ⟨he_,hb_⟩;subst he_;replace hm:=hm.call hb_;clear hb_))
     go_ret
     exact ⟨rfl,hm.below⟩
    | false =>
     have e1:r=0:=by rw [HR1.out ()];rfl
     subst e1
     go_enter Tryz.func29,Tryz.ntmps29
     go_wp2_with (first
      | ((with_reducible refine ab (some 5) (.box 75 (.tmp 2)) ?_);refine aU (sm x y) rfl hm ?_;clear hm;intro w1 g5 hm)
      | (go_at_call 45;refine (HO.out _ hm.below).mono ?_;rintro e_ w' ⟨he_,hb_⟩;subst he_;replace hm:=hm.call hb_;clear hb_)
      | ((with_reducible refine ab (some 7) (.alloc 75) ?_);refine ae _ bj hm ?_;clear hm;intro w2 g7 hm)
      | ((with_reducible refine ab none (.store 75 (.tmp 7) (.tmp 14)) ?_);refine af 0 (sm a b) hm rfl rfl rfl 2 a7 rfl rfl (bv _ _) ?_;clear hm;intro w3 hm)
      | ((with_reducible refine ab (some 16) (.load 75 (.tmp 7)) ?_);refine av 0 hm rfl rfl _ bM rfl 2 a7 (by rfl) ?_)
      | ((with_reducible refine ab (some 17) (.load 75 (.tmp 5)) ?_);refine av 1 hm rfl rfl _ bM rfl 2 a7 (by rfl) ?_)
      | (go_at_call 48;refine (HPL.out _).mono ?_;rintro e_ w' ⟨he_,hb_⟩;subst he_;replace hm:=hm.call hb_;clear hb_)
      | ((with_reducible refine ab (some 9) (.alloc 75) ?_);refine ae _ bj hm ?_;clear hm;intro w5 g9 hm)
      | ((with_reducible refine ab none (.store 75 (.tmp 9) (.tmp 18)) ?_);refine af 0 (sm u v) hm rfl rfl rfl 2 a7 rfl rfl (bv _ _) ?_;clear hm;intro w6 hm)
      | ((with_reducible refine ab (some 24) (.load 3 (.tmp 23)) ?_);refine aw 0 0 (.int .i64 u) hm rfl rfl ah (rfl) ?_)
      | ((with_reducible refine ax (some 28) (.load 3 (.tmp 27)) (some (3,false)) ?_);go_must (refine aa (.int .i64 v) rfl (ad 1 (.int .i64 v) (hm.get 0 rfl) rfl ah rfl) ?_))
      | ((with_reducible refine ab (some 34) (.load 75 (.tmp 5)) ?_);refine av 2 hm rfl rfl _ bM rfl 2 a7 (by rfl) ?_)
      | (go_at_call 53;refine (HBY.out _ hm.below).mono ?_;rintro e_ w' ⟨he_,hb_⟩;subst he_;replace hm:=hm.call hb_;clear hb_))
     go_ret
     exact ⟨rfl,hm.below⟩
end Go.Proofs.YtdmohffogfbnbaaGreatDoor
