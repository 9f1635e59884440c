import Derived.Test.YtdmohffogfbnbaaDoorQx10
import Derived.Test.YtdmohffogfbnbaaDoorQx08
set_option maxRecDepth 100000
set_option maxHeartbeats 4000000
namespace Go.Proofs.YtdmohffogfbnbaaDoor
open Go Go.RowKit Go.Maps
theorem eg_qs:Tryd.prog.eqGuardType Tryd.prog.depth 59=false:=by kernel_rfl
theorem equal_sm (a b a' b':Int) (w:World):(Op.equalIn 10000 59 (.agg (sm a b).toArray) (.agg (sm a' b').toArray)).run Tryd.prog w=.ok (a==a'&&b==b') w:=by
 have u4:=Tryd.underlying3
 have a4:=Tryd.isAgg3
 have z4:=Tryd.sizeOf3
 have hS:Tryd.prog.underlying 59=some (.struct (Tryd.prog.fieldsOf 59)):=by kernel_rfl
 have hp:Tryd.prog.stoodInHeld 59=false:=by kernel_rfl
 show (Op.equalIn 10000 59 (.agg #[.int .i64 a,.int .i64 b]) (.agg #[.int .i64 a',.int .i64 b'])).run Tryd.prog w=_
 rw [show (10000:Nat)=9999+1 from rfl,run_equalIn_agg w 9999 59 _ _ hS hp]
 simp only [Program.fieldsOf,Tryd.underlying59]
 go_simp
 by_cases h1:a=a'<;>by_cases h2:b=b'<;>simp [h1,h2]
section
variable {a:Act} {w:World} {dst:Option Tmp} {typ:TypeId} {pos:String} {aft:Array Edge} {gd:Option (Nat×Bool)}
theorem exec_neQ {x y:Operand} {rt:TypeId} (u v:Int) (hx:a.eval x=.agg (sm u v).toArray) (hy:a.eval y=.agg (sm u v).toArray) :
  (execOp a.eval {dst:=dst,op:=.binOp .neq 59 x y rt,type:=typ,pos:=pos,after:=aft,guard:=gd}).run Tryd.prog w=.ok (.value (.bool false)) w:=by
 unfold execOp
 simp only [hx,hy,Sem.run_bind,run_eqGuard_agg w .neq 59 x y _ _ eg_qs,Sem.run_pure,Result.andThen_ok,run_neq_struct,equal_sm u v u v w,beq_self_eq_true,Bool.and_self]
 rfl
theorem exec_gtF {x y:Operand} {rt:TypeId} (u v:Int) (h:u≤v) (hx:a.eval x=.int .i64 u) (hy:a.eval y=.int .i64 v) :
  (execOp a.eval {dst:=dst,op:=.binOp .gtr 3 x y rt,type:=typ,pos:=pos,after:=aft,guard:=gd}).run Tryd.prog w=.ok (.value (.bool false)) w:=by
 unfold execOp
 simp only [hx,hy]
 simp [eqGuard,binOp,go_sem,h]
end
theorem check_l {w:World} {lb nb m c:Nat} {p:Nms} {oB oE:List ByteArray→Int} (h:LgAt w lb nb m c p) (hcc:c≤90000) (hM:MaxL w) (hQ:QtOk p oB oE) (hpl:p.length≤90000) :
  Calls Tryd.prog 12 #[.pointer (some ⟨lb,0,none⟩)] w fun e w'=>e=.returned (.bool true)∧Below w.heap.size w w':=by
 have hm:=Mem.start w
 have HUS:Hid (∀x∈p,(0≤usB x∧usB x≤1000000)∧0≤usE x∧usE x≤1000000):=fun x hx=>by have:=hQ.bounds hx;omega
 have HLIM:Hid (∀x∈p,usB x≤lmB x∧usE x≤lmE x):=hQ.lim
 have HKI:Hid (∀W,Below w.heap.size w W→Calls Tryd.prog 25 #[.pointer (some ⟨lb,0,none⟩)] W fun e w'=>∃mk qk V,e=.returned (.map (some mk))∧W.heap.size≤mk∧(∀x∈p,V x.1=true)∧KM Tryd.prog 9 w' mk qk (KdK p V)∧Below W.heap.size W w'):=fun W hW=>kids_l (h.below hW) hcc (hM.below hW) HUS.out hpl
 have HSU:Hid (∀V:List ByteArray→Bool,(∀x∈p,V x.1=true)→∀x∈p,usB x=owB x+kS usB p V (tx x.1)∧usE x=owE x+kS usE p V (tx x.1)):=fun V hV x hx=>by
  have hk:=h.nm.ok.ok x hx
  rw [kS_all h.nm.ok hV hk,kS_all h.nm.ok hV hk,(hQ.ow x hx).1,(hQ.ow x hx).2]
  exact hQ.own_is hx
 have HH:Hid (LgAt w lb nb m c p):=h
 clear h hM hQ hpl
 go_enter Tryd.func12,Tryd.ntmps12
 go_wp2_with (first
  | (go_at_call 25;refine (HKI.out _ hm.below).mono ?_;rintro e wk ⟨mk,qk,Vk,he,hmk,hV,hkm,hb⟩;subst he;have HKW:Hid (KM Tryd.prog 9 wk mk qk (KdK p Vk)):=hkm;have HSUM:Hid (∀x∈p,usB x=owB x+kS usB p Vk (tx x.1)∧usE x=owE x+kS usE p Vk (tx x.1)):=HSU.out Vk hV;have HB0:Hid (Below w.heap.size w wk):=hm.below.trans (hb.mono hm.size);have HL:Hid (Row wk lb [.pointer (some ⟨nb,0,none⟩)] 56):=(HH.out.below HB0.out).row;have HR:Hid (NmAt wk nb m c p):=(HH.out.below HB0.out).nm;have HOK:Hid (NmOk p):=HR.out.ok;obtain ⟨q,hq,km⟩:=HR.out.map;have HKM:Hid (KM Tryd.prog 42 wk m q (NmK p)):=km;clear hm;have hm:=Mem.start wk;clear hkm hV hb km hq hmk)
  | ((with_reducible refine aa (some 12) (.load 24 (.tmp 11)) ?_);go_must (refine ab (.pointer (some ⟨nb,0,none⟩)) rfl (ae 0 (.pointer (some ⟨nb,0,none⟩)) (Row.bel HL.out hm.below) rfl ag_pn rfl) ?_))
  | ((with_reducible refine aa (some 15) (.load 46 (.tmp 14)) ?_);go_must (refine ab (.map (some m)) rfl (ae 0 (.map (some m)) ((HR.out.below hm.below).row) rfl bR rfl) ?_))
  | ((with_reducible refine aa (some 16) (.range 46 (.tmp 15)) ?_);go_must (refine bt (HKM.out.below hm.below) ax bp rfl ?_);intro w2 r D hrg hD hb2 hr1 hr2))
 go_frame
 have hw1:=hm.size
 have hz2:=hb2.size
 have hrB:r<w2.heap.size:=hr2
 have hwr:wk.heap.size≤r:=by omega
 have HM0:Hid (Mem wk [] w2 []):=(hm.call hb2).weak
 have HLP:Hid (w2.ranges Tryd.prog 42 rdV m r q D (Maps.has D) (Maps.size D)∧Vis p (fun _=>false) D (Maps.has D)∧KMD Tryd.prog 42 D (NmK p)):=⟨hrg,Vis.start hD,hD⟩
 clear hm hb2 hrg hD hw1 hr1 hr2 hz2
 go_loopw [17] (fun _ wr=>∃(D:DataW Value) (V:List ByteArray→Bool) (left:Lit→Bool) (cnt:Nat),Hid (Mem wk [] wr []∧(wr.ranges Tryd.prog 42 rdV m r q D left cnt∧Vis p V D left∧KMD Tryd.prog 42 D (NmK p))∧True)) (fun _ wr=>wr.rangeLeft m r)
 case atStart=>exact ⟨D,_,_,_,HM0.out,HLP.out,trivial⟩
 case round =>
  obtain ⟨D,V,left,cnt,HALL⟩:=hrel
  have HMM:Hid (Mem wk [] wr []):=HALL.out.1
  have HLW:Hid (wr.ranges Tryd.prog 42 rdV m r q D left cnt∧Vis p V D left∧KMD Tryd.prog 42 D (NmK p)):=HALL.out.2.1
  clear HALL
  rcases World.ranges.next HLW.out.1 ax 0 with ⟨h0,hl0,hrun⟩|⟨key,vv,kl,yv,w3,cnt',hkey,hlk,hv,hat,hrun,hrg1,hlt,hgr1,hsz,hen⟩
  ·have HRUN:Hid ((Instr.next (.pointer (some ⟨r,0,none⟩)) false 0).run Tryd.prog wr=.ok (.tuple #[.bool false]) wr):=hrun
   have HDONE:Hid (∀x∈p,V x.1=true):=HLW.out.2.1.done HOK.out hl0
   clear hrun hl0 h0
   have hm:=HMM.out
   go_wp2_with (first
    | ((with_reducible refine aa (some 17) (.next (.tmp 16) false) ?_);go_must (refine ap HRUN.out rfl ?_)))
   go_ret
   exact ⟨rfl,HB0.out.trans (hm.below.mono HB0.out.size)⟩
  ·have hx9:=HLW.out.2.2.val hkey (HLW.out.2.1.sub kl hlk) hv hat
   obtain ⟨x0,hx0,rfl,rfl⟩:=hx9
   obtain ⟨y0,a1,a2,a3,a4,a5,a6,hsp,hy0,ha1,ha2,ha3,ha4,ha5,ha6⟩:=bI x0
   have HSP:Hid (∀_:Unit,spw x0=[Value.string y0,.int .i64 a1,.int .i64 a2,.int .i64 a3,.int .i64 a4,.int .i64 a5,.int .i64 a6]):=fun _=>hsp
   have HE:Hid (∀_:Unit,y0=tx x0.1∧a1=lmB x0∧a2=lmE x0∧a3=usB x0∧a4=usE x0∧a5=owB x0∧a6=owE x0):=fun _=>⟨hy0,ha1,ha2,ha3,ha4,ha5,ha6⟩
   rw [hsp] at hrun hen
   have HX0:Hid (x0∈p):=hx0
   have HRUN:Hid ((Instr.next (.pointer (some ⟨r,0,none⟩)) false 0).run Tryd.prog wr=.ok (.tuple #[.bool true,.agg (pvv x0.1).toArray,.agg ([Value.string y0,.int .i64 a1,.int .i64 a2,.int .i64 a3,.int .i64 a4,.int .i64 a5,.int .i64 a6]).toArray]) w3):=hrun
   have HEN:Hid ((Instr.entry (.pointer (some ⟨r,0,none⟩))).run Tryd.prog w3=.ok (.tuple #[.agg (pvv x0.1).toArray,.agg ([Value.string y0,.int .i64 a1,.int .i64 a2,.int .i64 a3,.int .i64 a4,.int .i64 a5,.int .i64 a6]).toArray]) w3):=hen
   have HRG:Hid (w3.ranges Tryd.prog 42 rdV m r q D (fun z=>left z && !z.sameKey kl) cnt'):=hrg1
   have HKEY:Hid (keyOf Tryd.prog 42 (.agg (pvv x0.1).toArray)=some kl∧left kl=true):=⟨hkey,hlk⟩
   have HM3:Hid (Mem wk [] w3 []):=HMM.out.updI (by obtain ⟨a,b,c,h⟩:=bl HLW.out.1;exact ⟨_,a,b,c,h⟩) (Or.inr hwr) (Upd.of_grown hgr1)
   have hm:=Mem.start w3
   clear hrun hen hrg1 hkey hlk hv hat hsz hsp hy0 ha1 ha2 ha3 ha4 ha5 ha6 hx0 hgr1
   obtain ⟨c1,hc1⟩:∃z,z=kS usB p Vk (tx x0.1):=⟨_,rfl⟩
   obtain ⟨c2,hc2⟩:∃z,z=kS usE p Vk (tx x0.1):=⟨_,rfl⟩
   have HLK:Hid (∀W,Below w3.heap.size w3 W→(Instr.lookup 64 (.map (some mk)) (.string y0) false).run Tryd.prog W=.ok (.agg (sm c1 c2).toArray) W):=fun W hW=>by
    rw [hc1,hc2,(HE.out ()).1]
    exact kdK_look ((HKW.out.below HM3.out.below).below hW) (by have:=bd (HOK.out.ok x0 HX0.out);omega)
   obtain ⟨s1,s2⟩:=HSUM.out x0 HX0.out
   obtain ⟨⟨b1,b2⟩,b3,b4⟩:=HUS.out x0 HX0.out
   obtain ⟨hl1,hl2⟩:=HLIM.out x0 HX0.out
   obtain ⟨-,f1,f2,f3,f4,f5,f6⟩:=HE.out ()
   rw [←f3,←f5,←hc1] at s1
   rw [←f4,←f6,←hc2] at s2
   rw [←f3] at b1 b2
   rw [←f4] at b3 b4
   rw [←f3,←f1] at hl1
   rw [←f4,←f2] at hl2
   have HPL:Hid (∀W,Calls Tryd.prog 26 #[.agg (sm a5 a6).toArray,.agg (sm c1 c2).toArray] W fun e_ w'=>e_=.returned (.agg (sm a3 a4).toArray)∧Below W.heap.size W w'):=fun W=>plus_q a5 a6 c1 c2 a3 a4 ((bw _ (by omega) (by omega)).trans s1.symm) ((bw _ (by omega) (by omega)).trans s2.symm) W
   clear hc1 hc2 s1 s2 b1 b2 b3 b4 f1 f2 f3 f4 f5 f6
   go_wp2_with (first
    | ((with_reducible refine aa (some 17) (.next (.tmp 16) false) ?_);go_must (refine ap HRUN.out rfl ?_))
    | ((with_reducible refine aa (some 19) (.entry (.tmp 16)) ?_);go_must (refine ab (.tuple #[.agg (pvv x0.1).toArray,.agg ([Value.string y0,.int .i64 a1,.int .i64 a2,.int .i64 a3,.int .i64 a4,.int .i64 a5,.int .i64 a6]).toArray]) rfl (av HEN.out rfl) ?_))
    | ((with_reducible refine aa (some 5) (.alloc 45) ?_);refine ad _ aR hm ?_;clear hm;intro w5 g5 hm)
    | ((with_reducible refine aa none (.store 45 (.tmp 5) (.tmp 20)) ?_);refine af 0 ([Value.string y0,.int .i64 a1,.int .i64 a2,.int .i64 a3,.int .i64 a4,.int .i64 a5,.int .i64 a6]) hm rfl rfl rfl 7 bq rfl rfl (bn _ _ _ _ _ _ _) ?_;clear hm;intro w6 hm)
    | ((with_reducible refine aa (some 22) (.load 3 (.tmp 21)) ?_);refine al 0 5 (.int .i64 a5) hm rfl rfl aj (rfl) ?_)
    | ((with_reducible refine aa (some 24) (.load 3 (.tmp 23)) ?_);refine al 0 6 (.int .i64 a6) hm rfl rfl aj (rfl) ?_)
    | ((with_reducible refine aa (some 25) (.build 59 #[(0,.tmp 22),(1,.tmp 24)]) ?_);refine an (sm a5 a6) [(0,.int .i64 a5),(1,.int .i64 a6)] rfl (be _ _) ?_)
    | ((with_reducible refine aa (some 6) (.alloc 59) ?_);refine ad _ aM hm ?_;clear hm;intro w7 g6 hm)
    | ((with_reducible refine aa none (.store 59 (.tmp 6) (.tmp 25)) ?_);refine af 0 (sm a5 a6) hm rfl rfl rfl 2 aC rfl rfl (aS _ _) ?_;clear hm;intro w8 hm))
   refine am ?_
   refine ag (T:=fun W=>Mem w3 [] W [(g6,sm a5 a6,59),(g5,[Value.string y0,.int .i64 a1,.int .i64 a2,.int .i64 a3,.int .i64 a4,.int .i64 a5,.int .i64 a6],45)]) (by kernel_rfl) hm ?_
   intro wc hbw hmw
   clear hm
   have hm:=hmw
   clear hbw hmw
   refine aT 0 (v:=.agg (sm a5 a6).toArray) rfl (by kernel_rfl) rfl (fun W hW=>ai 0 (sm a5 a6) (Mem.get hW 0 rfl) rfl _ bc rfl 2 aC (Nat.le_refl 2) rfl) hm ?_
   go_simp
   refine aT 1 (v:=.map (some mk)) rfl (by kernel_rfl) rfl (fun W _=>by go_simp) hm ?_
   go_simp
   refine aT 2 (v:=.pointer (some ⟨g5,0,none⟩)) rfl (by kernel_rfl) rfl (fun W _=>by go_simp) hm ?_
   go_simp
   refine aT 3 (v:=.pointer (some ⟨g5,0,none⟩)) rfl (by kernel_rfl) rfl (fun W _=>by go_simp) hm ?_
   go_simp
   refine aT 4 (v:=.string y0) rfl (by kernel_rfl) rfl (fun W hW=>ae 0 (.string y0) (Mem.get hW 1 rfl) rfl az rfl) hm ?_
   go_simp
   refine aT 5 (v:=.agg (sm c1 c2).toArray) rfl (by kernel_rfl) rfl (fun W hW=>bH (HLK.out W hW.below) rfl rfl) hm ?_
   go_simp
   refine aT 7 (v:=.pointer (some ⟨g5,0,none⟩)) rfl (by kernel_rfl) rfl (fun W _=>by go_simp) hm ?_
   go_simp
   refine aT 8 (v:=.pointer (some ⟨g5,3,none⟩)) rfl (by kernel_rfl) rfl (fun W _=>by go_simp) hm ?_
   go_simp
   refine aT 9 (v:=.int .i64 a3) rfl (by kernel_rfl) rfl (fun W hW=>ae 3 (.int .i64 a3) (Mem.get hW 1 rfl) rfl aj rfl) hm ?_
   go_simp
   refine aT 10 (v:=.pointer (some ⟨g5,0,none⟩)) rfl (by kernel_rfl) rfl (fun W _=>by go_simp) hm ?_
   go_simp
   refine aT 11 (v:=.pointer (some ⟨g5,4,none⟩)) rfl (by kernel_rfl) rfl (fun W _=>by go_simp) hm ?_
   go_simp
   refine aT 12 (v:=.int .i64 a4) rfl (by kernel_rfl) rfl (fun W hW=>ae 4 (.int .i64 a4) (Mem.get hW 1 rfl) rfl aj rfl) hm ?_
   go_simp
   refine aT 13 (v:=.agg (sm a3 a4).toArray) rfl (by kernel_rfl) rfl (fun W _=>bD _ [(0,.int .i64 a3),(1,.int .i64 a4)] (by go_simp) (be a3 a4)) hm ?_
   go_simp
   refine aO 6 (by kernel_rfl) rfl rfl ?_
   intro K hK
   go_wp2_with (go_at_call 26;refine (HPL.out _).mono ?_;rintro e w' ⟨he,hb⟩;subst he;replace hm:=hm.call hb;clear hb)
   refine hK _ _ hm ?_
   clear hK K
   go_simp
   refine aT 14 (v:=.bool false) rfl (by kernel_rfl) rfl (fun W _=>exec_neQ a3 a4 rfl rfl) hm ?_
   go_simp
   refine aT 15 (v:=.bool false) rfl (by kernel_rfl) rfl (fun W _=>by go_simp) hm ?_
   go_simp
   refine aG 16 (v:=.pointer (some ⟨g5,0,none⟩)) rfl (by kernel_rfl) rfl (fun W _=>by go_simp) hm ?_
   go_simp
   refine aG 17 (v:=.pointer (some ⟨g5,3,none⟩)) rfl (by kernel_rfl) rfl (fun W _=>by go_simp) hm ?_
   go_simp
   refine aG 18 (v:=.int .i64 a3) rfl (by kernel_rfl) rfl (fun W hW=>ae 3 (.int .i64 a3) (Mem.get hW 1 rfl) rfl aj rfl) hm ?_
   go_simp
   refine aG 19 (v:=.pointer (some ⟨g5,0,none⟩)) rfl (by kernel_rfl) rfl (fun W _=>by go_simp) hm ?_
   go_simp
   refine aG 20 (v:=.pointer (some ⟨g5,1,none⟩)) rfl (by kernel_rfl) rfl (fun W _=>by go_simp) hm ?_
   go_simp
   refine aG 21 (v:=.int .i64 a1) rfl (by kernel_rfl) rfl (fun W hW=>ae 1 (.int .i64 a1) (Mem.get hW 1 rfl) rfl aj rfl) hm ?_
   go_simp
   refine aG 22 (v:=.bool false) rfl (by kernel_rfl) rfl (fun W _=>exec_gtF a3 a1 hl1 rfl rfl) hm ?_
   go_simp
   refine aT 23 (v:=.bool false) rfl (by kernel_rfl) rfl (fun W _=>by go_simp) hm ?_
   go_simp
   refine aT 24 (v:=.bool false) rfl (by kernel_rfl) rfl (fun W _=>by go_simp) hm ?_
   go_simp
   refine aG 25 (v:=.pointer (some ⟨g5,0,none⟩)) rfl (by kernel_rfl) rfl (fun W _=>by go_simp) hm ?_
   go_simp
   refine aG 26 (v:=.pointer (some ⟨g5,4,none⟩)) rfl (by kernel_rfl) rfl (fun W _=>by go_simp) hm ?_
   go_simp
   refine aG 27 (v:=.int .i64 a4) rfl (by kernel_rfl) rfl (fun W hW=>ae 4 (.int .i64 a4) (Mem.get hW 1 rfl) rfl aj rfl) hm ?_
   go_simp
   refine aG 28 (v:=.pointer (some ⟨g5,0,none⟩)) rfl (by kernel_rfl) rfl (fun W _=>by go_simp) hm ?_
   go_simp
   refine aG 29 (v:=.pointer (some ⟨g5,2,none⟩)) rfl (by kernel_rfl) rfl (fun W _=>by go_simp) hm ?_
   go_simp
   refine aG 30 (v:=.int .i64 a2) rfl (by kernel_rfl) rfl (fun W hW=>ae 2 (.int .i64 a2) (Mem.get hW 1 rfl) rfl aj rfl) hm ?_
   go_simp
   refine aG 31 (v:=.bool false) rfl (by kernel_rfl) rfl (fun W _=>exec_gtF a4 a2 hl2 rfl rfl) hm ?_
   go_simp
   refine aT 32 (v:=.bool false) rfl (by kernel_rfl) rfl (fun W _=>by go_simp) hm ?_
   go_simp
   refine wpAnyH_done (by kernel_rfl) ?_ _
   simp only [endsIn]
   go_wp2_with fail
   skip
   go_roundw
   case rel =>
    exact ⟨D,addV V x0.1,_,cnt',HM3.out.call hm.below,⟨HRG.out.kept (ah hm.below) (by simp) (by simp),HLW.out.2.1.next HOK.out HX0.out HKEY.out.1,HLW.out.2.2⟩,trivial⟩
   case measure =>
    rw [(HRG.out.kept (ah hm.below) (by simp) (by simp)).left_eq,HLW.out.1.left_eq]
    exact hlt
open Go Go.RowKit Go.Maps
structure QtS (w:World) (lb nb m c:Nat) (p:Nms) (oB oE:List ByteArray→Int):Prop where
 lg:LgAt w lb nb m c p
 qt:QtOk p oB oE
 mx:MaxL w
 m0:0<m
theorem QtS.below {w w':World} {lb nb m c:Nat} {p:Nms} {oB oE:List ByteArray→Int} (h:QtS w lb nb m c p oB oE) (hb:Below w.heap.size w w'):QtS w' lb nb m c p oB oE:=⟨h.lg.below hb,h.qt,h.mx.below hb,h.m0⟩
theorem QtS.isMap {w:World} {lb nb m c:Nat} {p:Nms} {oB oE:List ByteArray→Int} (h:QtS w lb nb m c p oB oE):∃es n,w.heap[m]?=some (.map es n):=h.lg.nm.isMap
theorem aL {w:World} {lb nb m c:Nat} {p:Nms} {oB oE:List ByteArray→Int} (h:QtS w lb nb m c p oB oE) (hc:c≤80000) (s:ByteArray) (b e r:Int) (hr:canE p oB oE s b e=r) (p':Nms) (oB' oE':List ByteArray→Int) (hp:(if r=0 then (chgN p (segsB s) (heldC b) (heldC e),upO oB (segsB s) (heldC b),upO oE (segsB s) (heldC e)) else (p,oB,oE))=(p',oB',oE')) :
  Calls Tryd.prog 8 #[.pointer (some ⟨lb,0,none⟩),.string s,.int .i64 b,.int .i64 e] w fun e_ w'=>e_=.returned (.int .i64 r)∧QtS w' lb nb m c p' oB' oE'∧Upd m w w':=by
 refine (charge_l h.lg hc h.mx h.qt h.m0 s b e r hr.symm).mono ?_
 rintro e_ w' ⟨rfl,hn,hu⟩
 refine ⟨rfl,?_,hu⟩
 by_cases h0:r=0
 ·rw [if_pos h0] at hn hp
  simp only [Prod.mk.injEq] at hp
  obtain ⟨rfl,rfl,rfl⟩:=hp
  exact ⟨h.lg.turn hu hn,h.qt.chargeE (hr.trans h0),h.mx.upd0 h.m0 hu,h.m0⟩
 ·rw [if_neg h0] at hn hp
  simp only [Prod.mk.injEq] at hp
  obtain ⟨rfl,rfl,rfl⟩:=hp
  exact ⟨h.lg.turn hu hn,h.qt,h.mx.upd0 h.m0 hu,h.m0⟩
theorem newL_s {nb m c:Nat} {p:Nms} {oB oE:List ByteArray→Int} (w:World) (h:NmAt w nb m c p) (hQ:QtOk p oB oE) (hM:MaxL w) (hm0:0<m) :
  Calls Tryd.prog 7 #[.pointer (some ⟨nb,0,none⟩)] w fun e w'=>∃lb,e=.returned (.pointer (some ⟨lb,0,none⟩))∧QtS w' lb nb m c p oB oE∧Below w.heap.size w w':=by
 refine (newL_q w h).mono ?_
 rintro e w' ⟨lb,rfl,_,hl,hb⟩
 exact ⟨lb,rfl,⟨hl,hQ,hM.below hb,hm0⟩,hb⟩
open Go Go.RowKit Go.Maps
def oZ:List ByteArray→Int:=fun _=>0
def pK0:Nms:=newN 10 10
def pK1:Nms:=addN pK0 (segsB ⟨#[97]⟩,5,5,0,0,0,0)
def pK2:Nms:=chgN pK1 (segsB ⟨#[97]⟩) (heldC 5) (heldC 1)
def bK2:List ByteArray→Int:=upO oZ (segsB ⟨#[97]⟩) (heldC 5)
def eK2:List ByteArray→Int:=upO oZ (segsB ⟨#[97]⟩) (heldC 1)
def pK3:Nms:=chgN pK2 (segsB ⟨#[]⟩) (heldC 5) (heldC 0)
def bK3:List ByteArray→Int:=upO bK2 (segsB ⟨#[]⟩) (heldC 5)
def eK3:List ByteArray→Int:=upO eK2 (segsB ⟨#[]⟩) (heldC 0)
theorem kQ0:addE pK0 ⟨#[97]⟩ 5 5=0:=by decide +kernel
theorem kQ1:canE pK1 oZ oZ ⟨#[97]⟩ 6 1=170:=by decide +kernel
theorem kQ2:canE pK1 oZ oZ ⟨#[97]⟩ 5 1=0:=by decide +kernel
theorem kQ3:canE pK2 bK2 eK2 ⟨#[]⟩ 6 0=170:=by decide +kernel
theorem kQ4:canE pK2 bK2 eK2 ⟨#[]⟩ 5 0=0:=by decide +kernel
theorem kQ5:canE pK3 bK3 eK3 ⟨#[97]⟩ (-6) 0=12:=by decide +kernel
theorem kQ6:canE pK3 bK3 eK3 ⟨#[113]⟩ 1 1=100:=by decide +kernel
theorem kQ7:canE pK3 bK3 eK3 ⟨#[97]⟩ 1 0=170:=by decide +kernel
theorem kQ8:owV bK3 pK3 ⟨#[]⟩=5∧owV eK3 pK3 ⟨#[]⟩=0∧getB pK3 ⟨#[]⟩=true:=by decide +kernel
theorem kQ9:getV pK3 ⟨#[]⟩=[.string noStr,.int .i64 10,.int .i64 10,.int .i64 10,.int .i64 1]:=by kernel_rfl
theorem kQA:pK3.length=2:=by decide +kernel
theorem known17_any (w:World) (hM:MaxL w):Calls Tryd.prog 4 #[] w fun e w'=>e=.returned (.bool true)∧Below w.heap.size w w':=by
 have HM:Hid (MaxL w):=hM
 clear hM
 have tk0:Nat:=0
 have tk1:Nat:=0
 have tk2:Nat:=0
 have tk3:Nat:=0
 have tk4:Nat:=0
 go_enter Tryd.func4,Tryd.ntmps4
 go_wp2_with (first
  | (go_at_call 5;refine (new_n 10 10 _).mono ?_;rintro e w1 ⟨nb,m,he,hwn,hwm,hn,hb⟩;subst he;have hm0:0<m:=Nat.lt_of_lt_of_le HM.out.lt0 hwm;have HN:Hid (NmAt w1 nb m 1 pK0):=hn;have HB:Hid (Below w.heap.size w w1):=hb;clear hn hb)
  | (go_at_call 6;refine (add_k HN.out (by omega) ⟨#[97]⟩ (by decide) (HM.out.below HB.out) 5 5 0 pK1 kQ0 rfl).mono ?_;rintro e w2 ⟨he,hn,hu⟩;subst he;replace HN:Hid (NmAt w2 nb m 2 pK1):=hn;replace HB:Hid (Below w.heap.size w w2):=aQ HB.out hu hwm HB.out.size;clear hn hu)
  | (go_at_call 7;refine (newL_s _ HN.out ((QtOk.new 10 10).add kQ0) (HM.out.below HB.out) hm0).mono ?_;rintro e w3 ⟨lb,he,hs,hb⟩;subst he;have HS:Hid (QtS w3 lb nb m 2 pK1 oZ oZ):=hs;replace HB:Hid (Below w.heap.size w w3):=aV HB.out HB.out.size hb;clear hs hb HN)
  | (clear tk0;go_at_call 8;refine (aL HS.out (by omega) ⟨#[97]⟩ (6) (1) 170 kQ1 pK1 oZ oZ (by rw [if_neg (by decide)])).mono ?_;rintro e_ w' ⟨he_,hs_,hu_⟩;subst he_;replace HB:Hid (Below w.heap.size w w'):=aQ HB.out hu_ hwm HB.out.size;replace HS:Hid (QtS w' lb nb m 2 pK1 oZ oZ):=hs_;clear hs_ hu_)
  | (clear tk1;go_at_call 8;refine (aL HS.out (by omega) ⟨#[97]⟩ (5) (1) 0 kQ2 pK2 bK2 eK2 (by rw [if_pos rfl];rfl)).mono ?_;rintro e_ w' ⟨he_,hs_,hu_⟩;subst he_;replace HB:Hid (Below w.heap.size w w'):=aQ HB.out hu_ hwm HB.out.size;replace HS:Hid (QtS w' lb nb m 2 pK2 bK2 eK2):=hs_;clear hs_ hu_)
  | (clear tk2;go_at_call 8;refine (aL HS.out (by omega) ⟨#[]⟩ (6) (0) 170 kQ3 pK2 bK2 eK2 (by rw [if_neg (by decide)])).mono ?_;rintro e_ w' ⟨he_,hs_,hu_⟩;subst he_;replace HB:Hid (Below w.heap.size w w'):=aQ HB.out hu_ hwm HB.out.size;replace HS:Hid (QtS w' lb nb m 2 pK2 bK2 eK2):=hs_;clear hs_ hu_)
  | (clear tk3;go_at_call 8;refine (aL HS.out (by omega) ⟨#[]⟩ (5) (0) 0 kQ4 pK3 bK3 eK3 (by rw [if_pos rfl];rfl)).mono ?_;rintro e_ w' ⟨he_,hs_,hu_⟩;subst he_;replace HB:Hid (Below w.heap.size w w'):=aQ HB.out hu_ hwm HB.out.size;replace HS:Hid (QtS w' lb nb m 2 pK3 bK3 eK3):=hs_;clear hs_ hu_)
  | (go_at_call 11;refine (ownF_l HS.out.lg HS.out.qt ⟨#[]⟩).mono ?_;rintro e w4 ⟨he,hb⟩;rw [kQ8.1,kQ8.2.1,kQ8.2.2] at he;subst he;replace HS:Hid (QtS w4 lb nb m 2 pK3 bK3 eK3):=HS.out.below hb;replace HB:Hid (Below w.heap.size w w4):=aV HB.out HB.out.size hb;clear hb;have hm:=Mem.start w4)
  | (go_at_call 9;refine (ci _ (HS.out.below hm.below).lg).mono ?_;rintro e w' ⟨he,hb⟩;subst he;replace hm:=hm.call hb;clear hb)
  | (go_at_call 10;refine (get_k (HS.out.below hm.below).lg.nm ⟨#[]⟩ (by decide) (HS.out.below hm.below).mx _ _ kQ9 kQ8.2.2).mono ?_;rintro e w' ⟨he,hb⟩;subst he;replace hm:=hm.call hb;clear hb)
  | ((with_reducible refine aa (some 10) (.alloc 32) ?_);refine ad _ aN hm ?_;clear hm;intro w5 g10 hm)
  | ((with_reducible refine aa none (.store 32 (.tmp 10) (.tmp 36)) ?_);refine af 0 [.string noStr,.int .i64 10,.int .i64 10,.int .i64 10,.int .i64 1] hm rfl rfl rfl 5 aJ rfl rfl (by intro v hv;simp at hv;rcases hv with rfl|rfl|rfl<;>rfl) ?_;clear hm;intro w6 hm)
  | ((with_reducible refine ay (some 65) (.load 3 (.tmp 64)) (some (25,true)) ?_);go_must (refine ab (.int .i64 10) rfl (ae 3 (.int .i64 10) (hm.get 0 rfl) rfl aj (rfl)) ?_))
  | (go_at_call 12;refine (check_l (HS.out.below hm.below).lg (by omega) (HS.out.below hm.below).mx (HS.out.below hm.below).qt (by rw [kQA];omega)).mono ?_;rintro e w7 ⟨he,hb⟩;subst he;replace hm:=hm.call hb;replace HS:Hid (QtS w7 lb nb m 2 pK3 bK3 eK3):=HS.out.below hm.below;replace HB:Hid (Below w.heap.size w w7):=aV HB.out HB.out.size hm.below;clear hb hm)
  | (clear tk4;go_at_call 8;refine (aL HS.out (by omega) ⟨#[97]⟩ (-6) (0) 12 kQ5 pK3 bK3 eK3 (by rw [if_neg (by decide)])).mono ?_;rintro e_ w' ⟨he_,hs_,hu_⟩;subst he_;replace HB:Hid (Below w.heap.size w w'):=aQ HB.out hu_ hwm HB.out.size;replace HS:Hid (QtS w' lb nb m 2 pK3 bK3 eK3):=hs_;clear hs_ hu_)
  | (go_at_call 8;refine (aL HS.out (by omega) ⟨#[113]⟩ (1) (1) 100 kQ6 pK3 bK3 eK3 (by rw [if_neg (by decide)])).mono ?_;rintro e_ w' ⟨he_,hs_,hu_⟩;subst he_;replace HB:Hid (Below w.heap.size w w'):=aQ HB.out hu_ hwm HB.out.size;replace HS:Hid (QtS w' lb nb m 2 pK3 bK3 eK3):=hs_;clear hs_ hu_)
  | (go_at_call 13;refine (can_l HS.out.lg HS.out.mx HS.out.qt ⟨#[97]⟩ 1 0 170 kQ7.symm false rfl).mono ?_;rintro e w8 ⟨he,hb⟩;subst he;replace HB:Hid (Below w.heap.size w w8):=aV HB.out HB.out.size hb;clear hb))
 go_ret
 exact ⟨rfl,HB.out⟩
open Go Go.RowKit
def beyK (ks:List ByteArray) (b e:Int) (p:Nms):Bool:=p.any fun y=>undB ks y.1&&overS b e y
theorem canE_is {p:Nms} {oB oE:List ByteArray→Int} {s:ByteArray} {b e:Int} (hg:getB p s=true):canE p oB oE s b e=if oB (segsB s)+heldC b<0 then 12 else if oE (segsB s)+heldC e<0 then 12 else if beyK (segsB s) (heldC b) (heldC e) p=true then 170 else 0:=by
 unfold canE beyK
 rw [if_neg (by rw [hg];simp)]
 by_cases h1:oB (segsB s)+heldC b<0
 ·rw [if_pos (Or.inl h1),if_pos h1]
 ·rw [if_neg h1]
  by_cases h2:oE (segsB s)+heldC e<0
  ·rw [if_pos (Or.inr h2),if_pos h2]
  ·rw [if_neg (fun h=>h.elim h1 h2),if_neg h2]
open Go Go.RowKit Go.Maps
theorem un_au3:Tryd.prog.underlying 22=some (.array 3 5):=Tryd.underlying22
theorem bB:Tryd.prog.underlying 30=some (.array 3 9):=Tryd.underlying30
theorem info_as3:(Tryd.prog.info? 30).map (fun i=>(i.zero,i.size))=some (some (.agg [Value.string noStr,.string noStr,.string noStr].toArray),3):=by kernel_rfl
theorem zero_as3:∀w,(zeroValue 30).run Tryd.prog w=.ok (.agg [Value.string noStr,.string noStr,.string noStr].toArray) w:=(zero_of_info info_as3).1
theorem sz_as3:(Tryd.prog.info? 30).map (·.size)=some 3:=(zero_of_info info_as3).2
theorem built_as3 (x0 x1 x2:ByteArray):Tryd.prog.built 30 [(0,.string x0),(1,.string x1),(2,.string x2)]=some [Value.string x0,.string x1,.string x2].toArray:=by kernel_rfl
theorem one_as3 (x0 x1 x2:ByteArray):∀v∈[Value.string x0,.string x1,.string x2],v.oneCell'=true:=by intro v hv;simp at hv;rcases hv with rfl|rfl|rfl<;>rfl
theorem bg:(Tryd.prog.info? 9).map (·.size)=some 1:=by kernel_rfl
theorem sz_u8Q:(Tryd.prog.info? 5).map (·.size)=some 1:=by kernel_rfl
theorem ag_u8Q:∀w,(isAgg 5).run Tryd.prog w=.ok false w:=by intro w;simp [go_sem]
theorem bi:∀w,(isAgg 9).run Tryd.prog w=.ok false w:=by intro w;simp [go_sem]
structure NwS (w wr:World) (nb m c:Nat) (p:Nms) (ga:Nat) (A:List Value) (ta:TypeId) (gb:Nat) (E:List Value) (tb:TypeId):Prop where
 bel:Below w.heap.size w wr
 hw:w.heap.size≤m
 nm:NmAt wr nb m c p
 mx:MaxL wr
 m0:0<m
 ra:Row wr ga A ta
 rb:Row wr gb E tb
theorem NwS.below {w wr w':World} {nb m c:Nat} {p:Nms} {ga:Nat} {A:List Value} {ta:TypeId} {gb:Nat} {E:List Value} {tb:TypeId} (h:NwS w wr nb m c p ga A ta gb E tb) (hb:Below wr.heap.size wr w'):NwS w w' nb m c p ga A ta gb E tb :=
 ⟨aV h.bel h.bel.size hb,h.hw,h.nm.below hb,h.mx.below hb,h.m0,Row.bel h.ra hb,Row.bel h.rb hb⟩
theorem NwS.upd {w wr w':World} {nb m c c':Nat} {p p':Nms} {ga:Nat} {A:List Value} {ta:TypeId} {gb:Nat} {E:List Value} {tb:TypeId} (h:NwS w wr nb m c p ga A ta gb E tb) (hn:NmAt w' nb m c' p') (hu:Upd m wr w'):NwS w w' nb m c' p' ga A ta gb E tb:=by
 obtain ⟨es,cl,hes⟩:=h.nm.isMap
 exact ⟨aQ h.bel hu h.hw h.bel.size,h.hw,hn,h.mx.upd0 h.m0 hu,h.m0,hu.row h.ra (aq h.ra hes),hu.row h.rb (aq h.rb hes)⟩
theorem NwS.setB {w wr:World} {nb m c gb':Nat} {p:Nms} {E':List Value} {tb':TypeId} {ga:Nat} {A:List Value} {ta:TypeId} {gb:Nat} {E:List Value} {tb:TypeId} (h:NwS w wr nb m c p ga A ta gb E tb) (hr:Row wr gb' E' tb'):NwS w wr nb m c p ga A ta gb' E' tb':=⟨h.bel,h.hw,h.nm,h.mx,h.m0,h.ra,hr⟩
structure LwS (w wr:World) (lb nb m c:Nat) (p:Nms) (oB oE:List ByteArray→Int) (ga:Nat) (A:List Value) (ta:TypeId) (gb:Nat) (E:List Value) (tb:TypeId):Prop where
 bel:Below w.heap.size w wr
 hw:w.heap.size≤m
 st:QtS wr lb nb m c p oB oE
 ra:Row wr ga A ta
 rb:Row wr gb E tb
theorem LwS.below {w wr w':World} {lb nb m c:Nat} {p:Nms} {oB oE:List ByteArray→Int} {ga:Nat} {A:List Value} {ta:TypeId} {gb:Nat} {E:List Value} {tb:TypeId} (h:LwS w wr lb nb m c p oB oE ga A ta gb E tb) (hb:Below wr.heap.size wr w'):LwS w w' lb nb m c p oB oE ga A ta gb E tb :=
 ⟨aV h.bel h.bel.size hb,h.hw,h.st.below hb,Row.bel h.ra hb,Row.bel h.rb hb⟩
theorem LwS.upd {w wr w':World} {lb nb m c c':Nat} {p p':Nms} {oB oE oB' oE':List ByteArray→Int} {ga:Nat} {A:List Value} {ta:TypeId} {gb:Nat} {E:List Value} {tb:TypeId} (h:LwS w wr lb nb m c p oB oE ga A ta gb E tb) (hn:QtS w' lb nb m c' p' oB' oE') (hu:Upd m wr w'):LwS w w' lb nb m c' p' oB' oE' ga A ta gb E tb:=by
 obtain ⟨es,cl,hes⟩:=h.st.isMap
 exact ⟨aQ h.bel hu h.hw h.bel.size,h.hw,hn,hu.row h.ra (aq h.ra hes),hu.row h.rb (aq h.rb hes)⟩
theorem LwS.setB {w wr:World} {lb nb m c gb':Nat} {p:Nms} {oB oE:List ByteArray→Int} {E':List Value} {tb':TypeId} {ga:Nat} {A:List Value} {ta:TypeId} {gb:Nat} {E:List Value} {tb:TypeId} (h:LwS w wr lb nb m c p oB oE ga A ta gb E tb) (hr:Row wr gb' E' tb'):LwS w wr lb nb m c p oB oE ga A ta gb' E' tb':=⟨h.bel,h.hw,h.st,h.ra,hr⟩
theorem NwS.led {w wr w':World} {lb nb m c:Nat} {p:Nms} {oB oE:List ByteArray→Int} {ga:Nat} {A:List Value} {ta:TypeId} {gb:Nat} {E:List Value} {tb:TypeId} (h:NwS w wr nb m c p ga A ta gb E tb) (hn:QtS w' lb nb m c p oB oE) (hb:Below wr.heap.size wr w'):LwS w w' lb nb m c p oB oE ga A ta gb E tb :=
 ⟨aV h.bel h.bel.size hb,h.hw,hn,Row.bel h.ra hb,Row.bel h.rb hb⟩
section
variable {a:Act} {w:World} {dst:Option Tmp} {typ:TypeId} {pos:String} {aft:Array Edge} {gd:Option (Nat×Bool)}
theorem exec_ixArr {x ix:Operand} {b o n:Nat} {t e:TypeId} (i:Nat) {ii:Int} (ht:Tryd.prog.underlying t=some (.array n e)) (h3:(Tryd.prog.info? e).map (·.size)=some 1) (hx:a.eval x=.pointer (some ⟨b,o,none⟩)) (hix:a.eval ix=.int .i64 ii) (hii:ii=(i:Int)) (hi:i<n) :
  (execOp a.eval {dst:=dst,op:=.indexAddr t x ix,type:=typ,pos:=pos,after:=aft,guard:=gd}).run Tryd.prog w=.ok (.value (.pointer (some ⟨b,o+i,none⟩))) w:=by
 subst hii
 have h0:(0:Int)≤(i:Int)∧(i:Int)<(n:Int):=by omega
 cases hq:Tryd.prog.info? e with
 | none=>rw [hq] at h3;cases h3
 | some q =>
  have hs1:q.size=1:=by simpa [hq] using h3
  unfold execOp
  simp [hx,hix,Instr.indexAt,Instr.sureAddr,asIntOf,run_underlying ht,h0,sizeOf,typeInfo,hq,hs1,bO]
  intro h9
  omega
end
open Go Go.RowKit Go.Maps
def pthX:Nat→ByteArray
 | 0=>⟨#[]⟩
 | 1=>⟨#[97]⟩
 | _=>⟨#[97,47,98]⟩
def ksX:Nat→List ByteArray
 | 0=>[]
 | 1=>[⟨#[97]⟩]
 | _=>[⟨#[97]⟩,⟨#[98]⟩]
theorem segX:∀k,segsB (pthX k)=ksX k
 | 0=>by decide +kernel
 | 1=>by decide +kernel
 | k+2=>by show segsB ⟨#[97,47,98]⟩=[⟨#[97]⟩,⟨#[98]⟩];decide +kernel
theorem undX:∀i j,i<3→j<3→undB (ksX i) (ksX j)=decide (j≤i)
 | 0,0,_,_ | 0,1,_,_ | 0,2,_,_ | 1,0,_,_ | 1,1,_,_ | 1,2,_,_ | 2,0,_,_ | 2,1,_,_ | 2,2,_,_=>by decide +kernel
 | i+3,_,h,_=>absurd h (by omega)
 | _,j+3,_,h=>absurd h (by omega)
def pX (l:Nat→Int) (b e:Nat→Int) (c f:Nat→Int):Nms:=[0,1,2].map fun k=>(ksX k,l k,10,b k,e k,c k,f k)
def zX:Nat→Int:=fun _=>0
def leastX (l:Nat→Int):Nat→Int
 | 0=>l 0
 | k+1=>min (leastX l k) (l (k+1))
theorem cB (l:Nat→Int) (x:Int):∀k,x≤leastX l k↔∀j,j≤k→x≤l j
 | 0=>by
  constructor
  ·intro h j hj
   have e:j=0:=by omega
   subst e
   exact h
  ·intro h
   exact h 0 (Nat.le_refl 0)
 | k+1=>by
  have ih:=cB l x k
  constructor
  ·intro h j hj
   have h1:x≤leastX l k∧x≤l (k+1):=by show _∧_;unfold leastX at h;omega
   rcases Nat.lt_or_ge k j with h2|h2
   ·have:j=k+1:=by omega
    subst this;exact h1.2
   ·exact ih.1 h1.1 j h2
  ·intro h
   have h1:=ih.2 fun j hj=>h j (by omega)
   have h2:=h (k+1) (Nat.le_refl _)
   unfold leastX
   omega
theorem newX (a:Int) (h0:0≤a) (h1:a≤255):newN a 10=[([],a,10,0,0,0,0)]:=by
 have e1:heldI a=a:=by unfold heldI;omega
 have e2:heldI 10=10:=by decide
 unfold newN
 rw [e1,e2]
theorem adX1 (l:Nat→Int):addN [([],l 0,10,0,0,0,0)] (segsB (pthX 1),l 1,10,0,0,0,0)=[0,1].map fun k=>(ksX k,l k,10,0,0,0,0):=by kernel_rfl
theorem adX2 (l:Nat→Int):addN ([0,1].map fun k=>(ksX k,l k,10,0,0,0,0)) (segsB (pthX 2),l 2,10,0,0,0,0)=pX l zX zX zX zX:=by kernel_rfl
theorem adE1 (l:Nat→Int) (h:0≤l 1∧l 1≤255):addE [([],l 0,10,0,0,0,0)] (pthX 1) (l 1) 10=0:=by
 have h1:limOk (l 1) 10=true:=by unfold limOk;simp;omega
 unfold addE
 rw [h1]
 change _=_
 kernel_rfl
theorem adE2 (l:Nat→Int) (h:0≤l 2∧l 2≤255):addE ([0,1].map fun k=>(ksX k,l k,10,0,0,0,0)) (pthX 2) (l 2) 10=0:=by
 have h1:limOk (l 2) 10=true:=by unfold limOk;simp;omega
 unfold addE
 rw [h1]
 change _=_
 kernel_rfl
theorem chX (l b e c f:Nat→Int) (k:Nat) (hk:k<3) (x y:Int):chgN (pX l b e c f) (ksX k) x y=pX l (fun j=>if j≤k then b j+x else b j) (fun j=>if j≤k then e j+y else e j) (fun j=>if j=k then c j+x else c j) (fun j=>if j=k then f j+y else f j):=by
 have key:∀j,j<3→chg (ksX k) x y (ksX j,l j,10,b j,e j,c j,f j)=(ksX j,l j,10,(if j≤k then b j+x else b j),(if j≤k then e j+y else e j),(if j=k then c j+x else c j),(if j=k then f j+y else f j)):=fun j hj=>by
  have hu:=undX k j hk hj
  have hne:(ksX j=ksX k)↔j=k:=by
   constructor
   ·intro h
    have h1:=undX j k hj hk
    rw [h] at hu h1
    rw [hu] at h1
    have h2:decide (j≤k)=true:=by rw [←hu];exact cv _
    have h3:decide (k≤j)=true:=by rw [←h1];exact h2
    have:=of_decide_eq_true h2
    have:=of_decide_eq_true h3
    omega
   ·rintro rfl;rfl
  unfold chg
  show (if undB (ksX k) (ksX j)=true then _ else _)=_
  by_cases h1:j≤k
  ·rw [hu,if_pos (decide_eq_true h1),if_pos h1,if_pos h1]
   by_cases h2:j=k
   ·rw [if_pos (hne.2 h2),if_pos (hne.2 h2),if_pos h2,if_pos h2];rfl
   ·rw [if_neg (fun h=>h2 (hne.1 h)),if_neg (fun h=>h2 (hne.1 h)),if_neg h2,if_neg h2];rfl
  ·rw [hu,if_neg (by rw [decide_eq_false h1];simp),if_neg h1,if_neg h1,if_neg (by omega),if_neg (by omega)]
 unfold chgN pX
 simp only [List.map_cons,List.map_nil,key 0 (by omega),key 1 (by omega),key 2 (by omega)]
theorem beyX (l b e c f:Nat→Int) (k:Nat) (hk:k<3) (x y:Int) (g:Bool) (hg:g=true↔∃j,j≤k∧((0<x∧l j<b j+x)∨(0<y∧10<e j+y))):beyK (ksX k) x y (pX l b e c f)=g:=by
 rw [Bool.eq_iff_iff,hg]
 unfold beyK
 rw [List.any_eq_true]
 have ov:∀j,overS x y (ksX j,l j,10,b j,e j,c j,f j)=true↔((0<x∧l j<b j+x)∨(0<y∧10<e j+y)):=fun j=>by
  unfold overS
  rw [Bool.or_eq_true,Bool.and_eq_true,Bool.and_eq_true,decide_eq_true_iff,decide_eq_true_iff,decide_eq_true_iff,decide_eq_true_iff]
  exact Iff.rfl
 constructor
 ·rintro ⟨z,hz,h⟩
  obtain ⟨j,hj,rfl⟩:=List.mem_map.1 hz
  have hj3:j<3:=by simp at hj;omega
  rw [Bool.and_eq_true] at h
  have h1:undB (ksX k) (ksX j)=true:=h.1
  rw [undX k j hk hj3] at h1
  exact ⟨j,of_decide_eq_true h1,(ov j).1 h.2⟩
 ·rintro ⟨j,hj,h⟩
  refine ⟨(ksX j,l j,10,b j,e j,c j,f j),List.mem_map.2 ⟨j,?_,rfl⟩,?_⟩
  ·have:j<3:=by omega
   match j,this with
   | 0,_=>simp
   | 1,_=>simp
   | 2,_=>simp
   | n+3,h9=>exact absurd h9 (by omega)
  ·rw [Bool.and_eq_true]
   refine ⟨?_,(ov j).2 h⟩
   show undB (ksX k) (ksX j)=true
   rw [undX k j hk (by omega)]
   exact decide_eq_true hj
theorem getX (l b e c f:Nat→Int):∀k,k<3→getB (pX l b e c f) (pthX k)=true
 | 0,_=>by kernel_rfl
 | 1,_=>by kernel_rfl
 | 2,_=>by kernel_rfl
 | k+3,h=>absurd h (by omega)
theorem rootX (l b e c f:Nat→Int):getV (pX l b e c f) ⟨#[]⟩=[.string noStr,.int .i64 (l 0),.int .i64 10,.int .i64 (b 0),.int .i64 (e 0)]∧getB (pX l b e c f) ⟨#[]⟩=true:=⟨by kernel_rfl,by kernel_rfl⟩
theorem canX (l b e c f:Nat→Int) (oB oE:List ByteArray→Int) (k:Nat) (hk:k<3) (x y:Int) (hx : -1000≤x∧x≤1000) (hy : -1000≤y∧y≤1000) (h1:0≤oB (ksX k)+x) (h2:0≤oE (ksX k)+y) (g:Bool) (hg:g=true↔∃j,j≤k∧((0<x∧l j<b j+x)∨(0<y∧10<e j+y))):canE (pX l b e c f) oB oE (pthX k) x y=if g=true then 170 else 0:=by
 have e1:heldC x=x:=by unfold heldC;omega
 have e2:heldC y=y:=by unfold heldC;omega
 rw [canE_is (getX l b e c f k hk),e1,e2,segX,if_neg (by omega),if_neg (by omega),beyX l b e c f k hk x y g hg]
/-- The first charge, with the limits l: refused just where it is above the least of them. -/
theorem canX1 (l:Nat→Int) (k:Nat) (hk:k<3) (x:Int) (hx:0≤x∧x≤255) (hl:∀j,0≤l j):canE (pX l zX zX zX zX) (fun _=>0) (fun _=>0) (pthX k) x 1=if x≤leastX l k then 0 else 170:=by
 rw [canX l zX zX zX zX _ _ k hk x 1 (by omega) (by omega) (by show (0:Int)≤0+x;omega) (by show (0:Int)≤0+1;omega) (!decide (x≤leastX l k)) ?_]
 ·by_cases h:x≤leastX l k
  ·rw [decide_eq_true h,if_pos h];rfl
  ·rw [decide_eq_false h,if_neg h];rfl
 ·rw [Bool.not_eq_true',decide_eq_false_iff_not,cB]
  constructor
  ·intro h
   refine Classical.byContradiction fun hc=>h fun j hj=>?_
   have h1:¬((0<x∧l j<zX j+x)∨((0:Int)<1∧(10:Int)<zX j+1)):=fun h2=>hc ⟨j,hj,h2⟩
   have h2:zX j=0:=rfl
   have h3:=hl j
   rw [h2] at h1
   omega
  ·rintro ⟨j,hj,h⟩ hc
   have h1:=hc j hj
   have h2:zX j=0:=rfl
   rw [h2] at h
   omega
theorem zX0 (j:Nat):zX j=0:=rfl
def b1X (k:Nat) (x:Int):Nat→Int:=fun j=>if j≤k then zX j+x else zX j
def c1X (k:Nat) (x:Int):Nat→Int:=fun j=>if j=k then zX j+x else zX j
def o0X:List ByteArray→Int:=fun _=>0
theorem chX1 (l:Nat→Int) (k:Nat) (hk:k<3) (x:Int) (hx:0≤x∧x≤255):chgN (pX l zX zX zX zX) (segsB (pthX k)) (heldC x) (heldC 1)=pX l (b1X k x) (b1X k 1) (c1X k x) (c1X k 1):=by
 have e1:heldC x=x:=by unfold heldC;omega
 have e2:heldC 1=1:=by decide
 rw [e1,e2,segX]
 exact chX l zX zX zX zX k hk x 1
theorem upX (o:List ByteArray→Int) (ks:List ByteArray) (x:Int):upO o ks x ks=o ks+x:=by unfold upO;rw [if_pos rfl]
/-- The second charge. -/
theorem canX2 (l:Nat→Int) (k:Nat) (hk:k<3) (x y:Int) (hx:0≤x∧x≤255) (hy:0≤y∧y≤255) :
  canE (pX l (b1X k x) (b1X k 1) (c1X k x) (c1X k 1)) (upO o0X (segsB (pthX k)) (heldC x)) (upO o0X (segsB (pthX k)) (heldC 1)) (pthX k) y 0=if y=0∨x+y≤leastX l k then 0 else 170:=by
 have e1:heldC x=x:=by unfold heldC;omega
 have e2:heldC 1=1:=by decide
 have ho:∀ks,o0X ks=0:=fun _=>rfl
 have hb:∀j,j≤k→b1X k x j=x:=fun j hj=>by unfold b1X;rw [if_pos hj,zX0];omega
 have key:=canX l (b1X k x) (b1X k 1) (c1X k x) (c1X k 1) (upO o0X (segsB (pthX k)) (heldC x)) (upO o0X (segsB (pthX k)) (heldC 1)) k hk y 0 (by omega) (by omega) (by rw [segX,upX,ho,e1];omega) (by rw [segX,upX,ho,e2];omega) (!decide (y=0∨x+y≤leastX l k)) ?_
 ·rw [key]
  by_cases h:y=0∨x+y≤leastX l k
  ·rw [decide_eq_true h,if_pos h];rfl
  ·rw [decide_eq_false h,if_neg h];rfl
 ·rw [Bool.not_eq_true',decide_eq_false_iff_not,cB]
  constructor
  ·intro h
   refine Classical.byContradiction fun hc=>h ?_
   by_cases h0:y=0
   ·exact Or.inl h0
   ·refine Or.inr fun j hj=>?_
    have h2:¬((0<y∧l j<b1X k x j+y)∨((0:Int)<0∧(10:Int)<b1X k 1 j+0)):=fun h3=>hc ⟨j,hj,h3⟩
    rw [hb j hj] at h2
    omega
  ·rintro ⟨j,hj,h⟩ hc
   rw [hb j hj] at h
   rcases hc with h0|hc
   ·omega
   ·have:=hc j hj
    omega
/-- What was charged is given back. -/
theorem canX3 (l b e c f:Nat→Int) (oB oE:List ByteArray→Int) (k:Nat) (hk:k<3) (x:Int) (hx:0≤x∧x≤255) (h1:x≤oB (ksX k)) (h2:1≤oE (ksX k)):canE (pX l b e c f) oB oE (pthX k) (-x) (-1)=0:=by
 rw [canX l b e c f oB oE k hk (-x) (-1) (by omega) (by omega) (by omega) (by omega) false ?_]
 ·rfl
 ·constructor
  ·intro h;cases h
  ·rintro ⟨j,_,h⟩;omega
theorem back1 (k:Nat) (x:Int) (hx:0≤x∧x≤255):x≤upO o0X (segsB (pthX k)) (heldC x) (ksX k)∧1≤upO o0X (segsB (pthX k)) (heldC 1) (ksX k):=by
 have e1:heldC x=x:=by unfold heldC;omega
 have e2:heldC 1=1:=by decide
 have ho:∀ks,o0X ks=0:=fun _=>rfl
 rw [segX,upX,upX,ho,e1,e2]
 omega
theorem back2 (k:Nat) (x y:Int) (hx:0≤x∧x≤255) (hy:0≤y∧y≤255):x≤upO (upO o0X (segsB (pthX k)) (heldC x)) (segsB (pthX k)) (heldC y) (ksX k)∧1≤upO (upO o0X (segsB (pthX k)) (heldC 1)) (segsB (pthX k)) (heldC 0) (ksX k):=by
 have e1:heldC x=x:=by unfold heldC;omega
 have e2:heldC 1=1:=by decide
 have e3:heldC y=y:=by unfold heldC;omega
 have e4:heldC 0=0:=by decide
 have ho:∀ks,o0X ks=0:=fun _=>rfl
 rw [segX,upX,upX,upX,upX,ho,e1,e2,e3,e4]
 omega
theorem chX2 (l b e c f:Nat→Int) (k:Nat) (hk:k<3) (x y:Int):∃b' e' c' f',chgN (pX l b e c f) (segsB (pthX k)) x y=pX l b' e' c' f':=by
 rw [segX]
 exact ⟨_,_,_,_,chX l b e c f k hk x y⟩
theorem bX (y0:ByteArray) (a1 a2 a3 a4:Int):∀v∈[Value.string y0,.int .i64 a1,.int .i64 a2,.int .i64 a3,.int .i64 a4],v.oneCell'=true:=by
 intro v hv
 simp at hv
 rcases hv with rfl|rfl|rfl|rfl|rfl<;>rfl
theorem qtX (l:Nat→Int) (hl:∀j,0≤l j∧l j≤255):QtOk (pX l zX zX zX zX) o0X o0X:=by
 have h0:=QtOk.new (l 0) 10
 rw [newX (l 0) (hl 0).1 (hl 0).2] at h0
 have h1:=h0.add (adE1 l (hl 1))
 rw [adX1] at h1
 have h2:=h1.add (adE2 l (hl 2))
 rw [adX2] at h2
 exact h2
end Go.Proofs.YtdmohffogfbnbaaDoor
