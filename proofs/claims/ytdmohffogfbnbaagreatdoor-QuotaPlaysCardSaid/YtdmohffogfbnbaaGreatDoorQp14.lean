import Derived.Test.YtdmohffogfbnbaaGreatDoorQp13
import Derived.Test.YtdmohffogfbnbaaGreatDoorQp12
import Derived.Test.YtdmohffogfbnbaaGreatDoorQp10
import Derived.Test.YtdmohffogfbnbaaGreatDoorQp11
import Derived.Maps.AppendAt
set_option maxRecDepth 100000
set_option maxHeartbeats 4000000
namespace Go.Proofs.YtdmohffogfbnbaaGreatDoor
open Go Go.RowKit Go.Maps
theorem eg_qs:Tryz.prog.eqGuardType Tryz.prog.depth 75=false:=by kernel_rfl
theorem equal_sm (a b a' b':Int) (w:World):(Op.equalIn 10000 75 (.agg (sm a b).toArray) (.agg (sm a' b').toArray)).run Tryz.prog w=.ok (a==a'&&b==b') w:=by
 have u4:=Tryz.underlying3
 have a4:=Tryz.isAgg3
 have z4:=Tryz.sizeOf3
 have hS:Tryz.prog.underlying 75=some (.struct (Tryz.prog.fieldsOf 75)):=by kernel_rfl
 have hp:Tryz.prog.stoodInHeld 75=false:=by kernel_rfl
 show (Op.equalIn 10000 75 (.agg #[.int .i64 a,.int .i64 b]) (.agg #[.int .i64 a',.int .i64 b'])).run Tryz.prog w=_
 rw [show (10000:Nat)=9999+1 from rfl,run_equalIn_agg w 9999 75 _ _ hS hp]
 simp only [Program.fieldsOf,Tryz.underlying75]
 go_simp
 by_cases h1:a=a'<;>by_cases h2:b=b'<;>simp [h1,h2]
section
variable {a:Act} {w:World} {dst:Option Tmp} {typ:TypeId} {pos:String} {aft:Array Edge} {gd:Option (Nat×Bool)}
theorem exec_neQ {x y:Operand} {rt:TypeId} (u v:Int) (hx:a.eval x=.agg (sm u v).toArray) (hy:a.eval y=.agg (sm u v).toArray) :
  (execOp a.eval {dst:=dst,op:=.binOp .neq 75 x y rt,type:=typ,pos:=pos,after:=aft,guard:=gd}).run Tryz.prog w=.ok (.value (.bool false)) w:=by
 unfold execOp
 simp only [hx,hy,Sem.run_bind,run_eqGuard_agg w .neq 75 x y _ _ eg_qs,Sem.run_pure,Result.andThen_ok,run_neq_struct,equal_sm u v u v w,beq_self_eq_true,Bool.and_self]
 rfl
theorem exec_gtF {x y:Operand} {rt:TypeId} (u v:Int) (h:u≤v) (hx:a.eval x=.int .i64 u) (hy:a.eval y=.int .i64 v) :
  (execOp a.eval {dst:=dst,op:=.binOp .gtr 3 x y rt,type:=typ,pos:=pos,after:=aft,guard:=gd}).run Tryz.prog w=.ok (.value (.bool false)) w:=by
 unfold execOp
 simp only [hx,hy]
 simp [eqGuard,binOp,go_sem,h]
end
theorem eO {w:World} {lb nb m c:Nat} {p:Nms} {oB oE:List ByteArray→Int} (h:LgAt w lb nb m c p) (hcc:c≤90000) (hM:MaxL w) (hQ:QtOk p oB oE) (hpl:p.length≤90000) :
  Calls Tryz.prog 24 #[.pointer (some ⟨lb,0,none⟩)] w fun e w'=>e=.returned (.bool true)∧Below w.heap.size w w':=by
 have hm:=Mem.start w
 have HUS:Hid (∀x∈p,(0≤usB x∧usB x≤1000000)∧0≤usE x∧usE x≤1000000):=fun x hx=>by have:=hQ.bounds hx;omega
 have HLIM:Hid (∀x∈p,usB x≤lmB x∧usE x≤lmE x):=hQ.lim
 have HKI:Hid (∀W,Below w.heap.size w W→Calls Tryz.prog 47 #[.pointer (some ⟨lb,0,none⟩)] W fun e w'=>∃mk qk V,e=.returned (.map (some mk))∧W.heap.size≤mk∧(∀x∈p,V x.1=true)∧KM Tryz.prog 9 w' mk qk (KdK p V)∧Below W.heap.size W w'):=fun W hW=>kids_l (h.below hW) hcc (hM.below hW) HUS.out hpl
 have HSU:Hid (∀V:List ByteArray→Bool,(∀x∈p,V x.1=true)→∀x∈p,usB x=owB x+kS usB p V (tx x.1)∧usE x=owE x+kS usE p V (tx x.1)):=fun V hV x hx=>by
  have hk:=h.nm.ok.ok x hx
  rw [kS_all h.nm.ok hV hk,kS_all h.nm.ok hV hk,(hQ.ow x hx).1,(hQ.ow x hx).2]
  exact hQ.own_is hx
 have HH:Hid (LgAt w lb nb m c p):=h
 clear h hM hQ hpl
 go_enter Tryz.func24,Tryz.ntmps24
 go_wp2_with (first
  | (go_at_call 47;refine (HKI.out _ hm.below).mono ?_;rintro e wk ⟨mk,qk,Vk,he,hmk,hV,hkm,hb⟩;subst he;have HKW:Hid (KM Tryz.prog 9 wk mk qk (KdK p Vk)):=hkm;have HSUM:Hid (∀x∈p,usB x=owB x+kS usB p Vk (tx x.1)∧usE x=owE x+kS usE p Vk (tx x.1)):=HSU.out Vk hV;have HB0:Hid (Below w.heap.size w wk):=hm.below.trans (hb.mono hm.size);have HL:Hid (Row wk lb [.pointer (some ⟨nb,0,none⟩)] 60):=(HH.out.below HB0.out).row;have HR:Hid (NmAt wk nb m c p):=(HH.out.below HB0.out).nm;have HOK:Hid (NmOk p):=HR.out.ok;obtain ⟨q,hq,km⟩:=HR.out.map;have HKM:Hid (KM Tryz.prog 63 wk m q (NmK p)):=km;clear hm;have hm:=Mem.start wk;clear hkm hV hb km hq hmk)
  | ((with_reducible refine ab (some 12) (.load 26 (.tmp 11)) ?_);go_must (refine aa (.pointer (some ⟨nb,0,none⟩)) rfl (ad 0 (.pointer (some ⟨nb,0,none⟩)) (Row.bel HL.out hm.below) rfl c8 rfl) ?_))
  | ((with_reducible refine ab (some 15) (.load 67 (.tmp 14)) ?_);go_must (refine aa (.map (some m)) rfl (ad 0 (.map (some m)) ((HR.out.below hm.below).row) rfl cE rfl) ?_))
  | ((with_reducible refine ab (some 16) (.range 67 (.tmp 15)) ?_);go_must (refine cC (HKM.out.below hm.below) aQ bW rfl ?_);intro w2 r D hrg hD hb2 hr1 hr2))
 go_frame
 have hw1:=hm.size
 have hz2:=hb2.size
 have hrB:r<w2.heap.size:=hr2
 have hwr:wk.heap.size≤r:=by omega
 have HM0:Hid (Mem wk [] w2 []):=(hm.call hb2).weak
 have HLP:Hid (w2.ranges Tryz.prog 63 rdV m r q D (Maps.has D) (Maps.size D)∧Vis p (fun _=>false) D (Maps.has D)∧KMD Tryz.prog 63 D (NmK p)):=⟨hrg,Vis.start hD,hD⟩
 clear hm hb2 hrg hD hw1 hr1 hr2 hz2
 go_loopw [17] (fun _ wr=>∃(D:DataW Value) (V:List ByteArray→Bool) (left:Lit→Bool) (cnt:Nat),Hid (Mem wk [] wr []∧(wr.ranges Tryz.prog 63 rdV m r q D left cnt∧Vis p V D left∧KMD Tryz.prog 63 D (NmK p))∧True)) (fun _ wr=>wr.rangeLeft m r)
 case atStart=>exact ⟨D,_,_,_,HM0.out,HLP.out,trivial⟩
 case round =>
  obtain ⟨D,V,left,cnt,HALL⟩:=hrel
  have HMM:Hid (Mem wk [] wr []):=HALL.out.1
  have HLW:Hid (wr.ranges Tryz.prog 63 rdV m r q D left cnt∧Vis p V D left∧KMD Tryz.prog 63 D (NmK p)):=HALL.out.2.1
  clear HALL
  rcases World.ranges.next HLW.out.1 aQ 0 with ⟨h0,hl0,hrun⟩|⟨key,vv,kl,yv,w3,cnt',hkey,hlk,hv,hat,hrun,hrg1,hlt,hgr1,hsz,hen⟩
  ·have HRUN:Hid ((Instr.next (.pointer (some ⟨r,0,none⟩)) false 0).run Tryz.prog wr=.ok (.tuple #[.bool false]) wr):=hrun
   have HDONE:Hid (∀x∈p,V x.1=true):=HLW.out.2.1.done HOK.out hl0
   clear hrun hl0 h0
   have hm:=HMM.out
   go_wp2_with (first
    | ((with_reducible refine ab (some 17) (.next (.tmp 16) false) ?_);go_must (refine aC HRUN.out rfl ?_)))
   go_ret
   exact ⟨rfl,HB0.out.trans (hm.below.mono HB0.out.size)⟩
  ·have hx9:=HLW.out.2.2.val hkey (HLW.out.2.1.sub kl hlk) hv hat
   obtain ⟨x0,hx0,rfl,rfl⟩:=hx9
   obtain ⟨y0,a1,a2,a3,a4,a5,a6,hsp,hy0,ha1,ha2,ha3,ha4,ha5,ha6⟩:=cO x0
   have HSP:Hid (∀_:Unit,spw x0=[Value.string y0,.int .i64 a1,.int .i64 a2,.int .i64 a3,.int .i64 a4,.int .i64 a5,.int .i64 a6]):=fun _=>hsp
   have HE:Hid (∀_:Unit,y0=tx x0.1∧a1=lmB x0∧a2=lmE x0∧a3=usB x0∧a4=usE x0∧a5=owB x0∧a6=owE x0):=fun _=>⟨hy0,ha1,ha2,ha3,ha4,ha5,ha6⟩
   rw [hsp] at hrun hen
   have HX0:Hid (x0∈p):=hx0
   have HRUN:Hid ((Instr.next (.pointer (some ⟨r,0,none⟩)) false 0).run Tryz.prog wr=.ok (.tuple #[.bool true,.agg (pvv x0.1).toArray,.agg ([Value.string y0,.int .i64 a1,.int .i64 a2,.int .i64 a3,.int .i64 a4,.int .i64 a5,.int .i64 a6]).toArray]) w3):=hrun
   have HEN:Hid ((Instr.entry (.pointer (some ⟨r,0,none⟩))).run Tryz.prog w3=.ok (.tuple #[.agg (pvv x0.1).toArray,.agg ([Value.string y0,.int .i64 a1,.int .i64 a2,.int .i64 a3,.int .i64 a4,.int .i64 a5,.int .i64 a6]).toArray]) w3):=hen
   have HRG:Hid (w3.ranges Tryz.prog 63 rdV m r q D (fun z=>left z && !z.sameKey kl) cnt'):=hrg1
   have HKEY:Hid (keyOf Tryz.prog 63 (.agg (pvv x0.1).toArray)=some kl∧left kl=true):=⟨hkey,hlk⟩
   have HM3:Hid (Mem wk [] w3 []):=HMM.out.updI (by obtain ⟨a,b,c,h⟩:=bV HLW.out.1;exact ⟨_,a,b,c,h⟩) (Or.inr hwr) (Upd.of_grown hgr1)
   have hm:=Mem.start w3
   clear hrun hen hrg1 hkey hlk hv hat hsz hsp hy0 ha1 ha2 ha3 ha4 ha5 ha6 hx0 hgr1
   obtain ⟨c1,hc1⟩:∃z,z=kS usB p Vk (tx x0.1):=⟨_,rfl⟩
   obtain ⟨c2,hc2⟩:∃z,z=kS usE p Vk (tx x0.1):=⟨_,rfl⟩
   have HLK:Hid (∀W,Below w3.heap.size w3 W→(Instr.lookup 89 (.map (some mk)) (.string y0) false).run Tryz.prog W=.ok (.agg (sm c1 c2).toArray) W):=fun W hW=>by
    rw [hc1,hc2,(HE.out ()).1]
    exact kdK_look ((HKW.out.below HM3.out.below).below hW) (by have:=aX (HOK.out.ok x0 HX0.out);omega)
   obtain ⟨s1,s2⟩:=HSUM.out x0 HX0.out
   obtain ⟨⟨b1,b2⟩,b3,b4⟩:=HUS.out x0 HX0.out
   obtain ⟨hl1,hl2⟩:=HLIM.out x0 HX0.out
   obtain ⟨-,f1,f2,f3,f4,f5,f6⟩:=HE.out ()
   rw [←f3,←f5,←hc1] at s1
   rw [←f4,←f6,←hc2] at s2
   rw [←f3] at b1 b2
   rw [←f4] at b3 b4
   rw [←f3,←f1] at hl1
   rw [←f4,←f2] at hl2
   have HPL:Hid (∀W,Calls Tryz.prog 48 #[.agg (sm a5 a6).toArray,.agg (sm c1 c2).toArray] W fun e_ w'=>e_=.returned (.agg (sm a3 a4).toArray)∧Below W.heap.size W w'):=fun W=>plus_q a5 a6 c1 c2 a3 a4 ((bt _ (by omega) (by omega)).trans s1.symm) ((bt _ (by omega) (by omega)).trans s2.symm) W
   clear hc1 hc2 s1 s2 b1 b2 b3 b4 f1 f2 f3 f4 f5 f6
   go_wp2_with (first
    | ((with_reducible refine ab (some 17) (.next (.tmp 16) false) ?_);go_must (refine aC HRUN.out rfl ?_))
    | ((with_reducible refine ab (some 19) (.entry (.tmp 16)) ?_);go_must (refine aa (.tuple #[.agg (pvv x0.1).toArray,.agg ([Value.string y0,.int .i64 a1,.int .i64 a2,.int .i64 a3,.int .i64 a4,.int .i64 a5,.int .i64 a6]).toArray]) rfl (aN HEN.out rfl) ?_))
    | ((with_reducible refine ab (some 5) (.alloc 66) ?_);refine ae _ bu hm ?_;clear hm;intro w5 g5 hm)
    | ((with_reducible refine ab none (.store 66 (.tmp 5) (.tmp 20)) ?_);refine af 0 ([Value.string y0,.int .i64 a1,.int .i64 a2,.int .i64 a3,.int .i64 a4,.int .i64 a5,.int .i64 a6]) hm rfl rfl rfl 7 cy rfl rfl (bZ _ _ _ _ _ _ _) ?_;clear hm;intro w6 hm)
    | ((with_reducible refine ab (some 22) (.load 3 (.tmp 21)) ?_);refine aw 0 5 (.int .i64 a5) hm rfl rfl ah (rfl) ?_)
    | ((with_reducible refine ab (some 24) (.load 3 (.tmp 23)) ?_);refine aw 0 6 (.int .i64 a6) hm rfl rfl ah (rfl) ?_)
    | ((with_reducible refine ab (some 25) (.build 75 #[(0,.tmp 22),(1,.tmp 24)]) ?_);refine az (sm a5 a6) [(0,.int .i64 a5),(1,.int .i64 a6)] rfl (bA _ _) ?_)
    | ((with_reducible refine ab (some 6) (.alloc 75) ?_);refine ae _ bj hm ?_;clear hm;intro w7 g6 hm)
    | ((with_reducible refine ab none (.store 75 (.tmp 6) (.tmp 25)) ?_);refine af 0 (sm a5 a6) hm rfl rfl rfl 2 a7 rfl rfl (bv _ _) ?_;clear hm;intro w8 hm))
   refine am ?_
   refine ag (T:=fun W=>Mem w3 [] W [(g6,sm a5 a6,75),(g5,[Value.string y0,.int .i64 a1,.int .i64 a2,.int .i64 a3,.int .i64 a4,.int .i64 a5,.int .i64 a6],66)]) (by kernel_rfl) hm ?_
   intro wc hbw hmw
   clear hm
   have hm:=hmw
   clear hbw hmw
   refine aT 0 (v:=.agg (sm a5 a6).toArray) rfl (by kernel_rfl) rfl (fun W hW=>al 0 (sm a5 a6) (Mem.get hW 0 rfl) rfl _ bM rfl 2 a7 (Nat.le_refl 2) rfl) hm ?_
   go_simp
   refine aT 1 (v:=.map (some mk)) rfl (by kernel_rfl) rfl (fun W _=>by go_simp) hm ?_
   go_simp
   refine aT 2 (v:=.pointer (some ⟨g5,0,none⟩)) rfl (by kernel_rfl) rfl (fun W _=>by go_simp) hm ?_
   go_simp
   refine aT 3 (v:=.pointer (some ⟨g5,0,none⟩)) rfl (by kernel_rfl) rfl (fun W _=>by go_simp) hm ?_
   go_simp
   refine aT 4 (v:=.string y0) rfl (by kernel_rfl) rfl (fun W hW=>ad 0 (.string y0) (Mem.get hW 1 rfl) rfl aj rfl) hm ?_
   go_simp
   refine aT 5 (v:=.agg (sm c1 c2).toArray) rfl (by kernel_rfl) rfl (fun W hW=>co (HLK.out W hW.below) rfl rfl) hm ?_
   go_simp
   refine aT 7 (v:=.pointer (some ⟨g5,0,none⟩)) rfl (by kernel_rfl) rfl (fun W _=>by go_simp) hm ?_
   go_simp
   refine aT 8 (v:=.pointer (some ⟨g5,3,none⟩)) rfl (by kernel_rfl) rfl (fun W _=>by go_simp) hm ?_
   go_simp
   refine aT 9 (v:=.int .i64 a3) rfl (by kernel_rfl) rfl (fun W hW=>ad 3 (.int .i64 a3) (Mem.get hW 1 rfl) rfl ah rfl) hm ?_
   go_simp
   refine aT 10 (v:=.pointer (some ⟨g5,0,none⟩)) rfl (by kernel_rfl) rfl (fun W _=>by go_simp) hm ?_
   go_simp
   refine aT 11 (v:=.pointer (some ⟨g5,4,none⟩)) rfl (by kernel_rfl) rfl (fun W _=>by go_simp) hm ?_
   go_simp
   refine aT 12 (v:=.int .i64 a4) rfl (by kernel_rfl) rfl (fun W hW=>ad 4 (.int .i64 a4) (Mem.get hW 1 rfl) rfl ah rfl) hm ?_
   go_simp
   refine aT 13 (v:=.agg (sm a3 a4).toArray) rfl (by kernel_rfl) rfl (fun W _=>cL _ [(0,.int .i64 a3),(1,.int .i64 a4)] (by go_simp) (bA a3 a4)) hm ?_
   go_simp
   refine aO 6 (by kernel_rfl) rfl rfl ?_
   intro K hK
   go_wp2_with (go_at_call 48;refine (HPL.out _).mono ?_;rintro e w' ⟨he,hb⟩;subst he;replace hm:=hm.call hb;clear hb)
   refine hK _ _ hm ?_
   clear hK K
   go_simp
   refine aT 14 (v:=.bool false) rfl (by kernel_rfl) rfl (fun W _=>exec_neQ a3 a4 rfl rfl) hm ?_
   go_simp
   refine aT 15 (v:=.bool false) rfl (by kernel_rfl) rfl (fun W _=>by go_simp) hm ?_
   go_simp
   refine aG 16 (v:=.pointer (some ⟨g5,0,none⟩)) rfl (by kernel_rfl) rfl (fun W _=>by go_simp) hm ?_
   go_simp
   refine aG 17 (v:=.pointer (some ⟨g5,3,none⟩)) rfl (by kernel_rfl) rfl (fun W _=>by go_simp) hm ?_
   go_simp
   refine aG 18 (v:=.int .i64 a3) rfl (by kernel_rfl) rfl (fun W hW=>ad 3 (.int .i64 a3) (Mem.get hW 1 rfl) rfl ah rfl) hm ?_
   go_simp
   refine aG 19 (v:=.pointer (some ⟨g5,0,none⟩)) rfl (by kernel_rfl) rfl (fun W _=>by go_simp) hm ?_
   go_simp
   refine aG 20 (v:=.pointer (some ⟨g5,1,none⟩)) rfl (by kernel_rfl) rfl (fun W _=>by go_simp) hm ?_
   go_simp
   refine aG 21 (v:=.int .i64 a1) rfl (by kernel_rfl) rfl (fun W hW=>ad 1 (.int .i64 a1) (Mem.get hW 1 rfl) rfl ah rfl) hm ?_
   go_simp
   refine aG 22 (v:=.bool false) rfl (by kernel_rfl) rfl (fun W _=>exec_gtF a3 a1 hl1 rfl rfl) hm ?_
   go_simp
   refine aT 23 (v:=.bool false) rfl (by kernel_rfl) rfl (fun W _=>by go_simp) hm ?_
   go_simp
   refine aT 24 (v:=.bool false) rfl (by kernel_rfl) rfl (fun W _=>by go_simp) hm ?_
   go_simp
   refine aG 25 (v:=.pointer (some ⟨g5,0,none⟩)) rfl (by kernel_rfl) rfl (fun W _=>by go_simp) hm ?_
   go_simp
   refine aG 26 (v:=.pointer (some ⟨g5,4,none⟩)) rfl (by kernel_rfl) rfl (fun W _=>by go_simp) hm ?_
   go_simp
   refine aG 27 (v:=.int .i64 a4) rfl (by kernel_rfl) rfl (fun W hW=>ad 4 (.int .i64 a4) (Mem.get hW 1 rfl) rfl ah rfl) hm ?_
   go_simp
   refine aG 28 (v:=.pointer (some ⟨g5,0,none⟩)) rfl (by kernel_rfl) rfl (fun W _=>by go_simp) hm ?_
   go_simp
   refine aG 29 (v:=.pointer (some ⟨g5,2,none⟩)) rfl (by kernel_rfl) rfl (fun W _=>by go_simp) hm ?_
   go_simp
   refine aG 30 (v:=.int .i64 a2) rfl (by kernel_rfl) rfl (fun W hW=>ad 2 (.int .i64 a2) (Mem.get hW 1 rfl) rfl ah rfl) hm ?_
   go_simp
   refine aG 31 (v:=.bool false) rfl (by kernel_rfl) rfl (fun W _=>exec_gtF a4 a2 hl2 rfl rfl) hm ?_
   go_simp
   refine aT 32 (v:=.bool false) rfl (by kernel_rfl) rfl (fun W _=>by go_simp) hm ?_
   go_simp
   refine wpAnyH_done (by kernel_rfl) ?_ _
   simp only [endsIn]
   go_wp2_with fail
   skip
   go_roundw
   case rel =>
    exact ⟨D,addV V x0.1,_,cnt',HM3.out.call hm.below,⟨HRG.out.kept (an hm.below) (by simp) (by simp),HLW.out.2.1.next HOK.out HX0.out HKEY.out.1,HLW.out.2.2⟩,trivial⟩
   case measure =>
    rw [(HRG.out.kept (an hm.below) (by simp) (by simp)).left_eq,HLW.out.1.left_eq]
    exact hlt
open Go Go.RowKit Go.Maps
structure QtS (w:World) (lb nb m c:Nat) (p:Nms) (oB oE:List ByteArray→Int):Prop where
 lg:LgAt w lb nb m c p
 qt:QtOk p oB oE
 mx:MaxL w
 m0:0<m
theorem QtS.below {w w':World} {lb nb m c:Nat} {p:Nms} {oB oE:List ByteArray→Int} (h:QtS w lb nb m c p oB oE) (hb:Below w.heap.size w w'):QtS w' lb nb m c p oB oE:=⟨h.lg.below hb,h.qt,h.mx.below hb,h.m0⟩
theorem QtS.isMap {w:World} {lb nb m c:Nat} {p:Nms} {oB oE:List ByteArray→Int} (h:QtS w lb nb m c p oB oE):∃es n,w.heap[m]?=some (.map es n):=h.lg.nm.isMap
theorem cr {w:World} {lb nb m c:Nat} {p:Nms} {oB oE:List ByteArray→Int} (h:QtS w lb nb m c p oB oE) (hc:c≤80000) (s:ByteArray) (b e r:Int) (hr:canE p oB oE s b e=r) (p':Nms) (oB' oE':List ByteArray→Int) (hp:(if r=0 then (chgN p (segsB s) (heldC b) (heldC e),upO oB (segsB s) (heldC b),upO oE (segsB s) (heldC e)) else (p,oB,oE))=(p',oB',oE')) :
  Calls Tryz.prog 12 #[.pointer (some ⟨lb,0,none⟩),.string s,.int .i64 b,.int .i64 e] w fun e_ w'=>e_=.returned (.int .i64 r)∧QtS w' lb nb m c p' oB' oE'∧Upd m w w':=by
 refine (charge_l h.lg hc h.mx h.qt h.m0 s b e r hr.symm).mono ?_
 rintro e_ w' ⟨rfl,hn,hu⟩
 refine ⟨rfl,?_,hu⟩
 by_cases h0:r=0
 ·rw [if_pos h0] at hn hp
  simp only [Prod.mk.injEq] at hp
  obtain ⟨rfl,rfl,rfl⟩:=hp
  exact ⟨h.lg.turn hu hn,h.qt.chargeE (hr.trans h0),h.mx.upd0 h.m0 hu,h.m0⟩
 ·rw [if_neg h0] at hn hp
  simp only [Prod.mk.injEq] at hp
  obtain ⟨rfl,rfl,rfl⟩:=hp
  exact ⟨h.lg.turn hu hn,h.qt,h.mx.upd0 h.m0 hu,h.m0⟩
theorem add_s {w:World} {lb nb m c:Nat} {p:Nms} {oB oE:List ByteArray→Int} (h:QtS w lb nb m c p oB oE) (hc:c≤80000) (s:ByteArray) (hs:s.size≤1000) (b e r:Int) (hr:addE p s b e=r) (p':Nms) (hp:(if r=0 then addN p (segsB s,b,e,0,0,0,0) else p)=p') :
  Calls Tryz.prog 15 #[.pointer (some ⟨nb,0,none⟩),.string s,.int .i64 b,.int .i64 e] w fun e_ w'=>e_=.returned (.int .i64 r)∧QtS w' lb nb m (c+1) p' oB oE∧Upd m w w':=by
 refine (add_k h.lg.nm hc s hs h.mx b e r p' hr hp).mono ?_
 rintro e_ w' ⟨rfl,hn,hu⟩
 refine ⟨rfl,⟨h.lg.turn hu hn,?_,h.mx.upd0 h.m0 hu,h.m0⟩,hu⟩
 rw [←hp]
 by_cases h0:r=0
 ·rw [if_pos h0];exact h.qt.add (hr.trans h0)
 ·rw [if_neg h0];exact h.qt
theorem newL_s {nb m c:Nat} {p:Nms} {oB oE:List ByteArray→Int} (w:World) (h:NmAt w nb m c p) (hQ:QtOk p oB oE) (hM:MaxL w) (hm0:0<m) :
  Calls Tryz.prog 7 #[.pointer (some ⟨nb,0,none⟩)] w fun e w'=>∃lb,e=.returned (.pointer (some ⟨lb,0,none⟩))∧QtS w' lb nb m c p oB oE∧Below w.heap.size w w':=by
 refine (newL_q w h).mono ?_
 rintro e w' ⟨lb,rfl,_,hl,hb⟩
 exact ⟨lb,rfl,⟨hl,hQ,hM.below hb,hm0⟩,hb⟩
open Go Go.RowKit Go.Maps
theorem StN.updM {B:Nat} {w w':World} {v:Value} {L:List ByteArray} {m:Nat} (h:StN B w v L) (hm:∃es c,w.heap[m]?=some (.map es c)) (hu:Upd m w w'):StN B w' v L:=by
 obtain ⟨p,cap,hv,hc⟩:=h
 refine ⟨p,cap,hv,fun h0=>?_⟩
 obtain ⟨b,h1,h2,h3,h4⟩:=hc h0
 obtain ⟨es,cc,hes⟩:=hm
 have hbm:b≠m:=by
  rintro rfl
  have h5:=h4 0 L[0] (by simp [h0])
  rw [fl hes] at h5;cases h5
 exact ⟨b,h1,h2,Nat.lt_of_lt_of_le h3 hu.size,fun i x hx=>(hu.cell (p:=⟨b,i,none⟩) h3 hbm).trans (h4 i x hx)⟩
def dropP (p:Nms) (ks:List ByteArray):Nms:=match getN p ks with|some x=>dropN p x|none=>p
theorem eb {p:Nms} {s:ByteArray} (h:remE p s=0):isP (bs s)=true∧segsB s≠[]∧∃x,getN p (segsB s)=some x∧x∈p∧x.1=segsB s:=by
 unfold remE at h
 split at h;· cases h
 next h1 =>
 split at h;· cases h
 next h2 =>
 split at h;· cases h
 next h3 =>
 have h4:hasN p (segsB s)=true:=by simpa using h3
 rw [getN_has] at h4
 obtain ⟨x,hx⟩:=Option.isSome_iff_exists.1 h4
 exact ⟨by simpa using h1,h2,x,hx,(bp hx).1,(bp hx).2⟩
theorem spv_cells (x:Sp):∃(y:ByteArray) (a1 a2 a3 a4:Int),spv x=[.string y,.int .i64 a1,.int .i64 a2,.int .i64 a3,.int .i64 a4]∧a3=usB x∧a4=usE x:=⟨_,_,_,_,_,rfl,rfl,rfl⟩
theorem c5_one (y0:ByteArray) (a1 a2 a3 a4:Int):∀v∈[Value.string y0,.int .i64 a1,.int .i64 a2,.int .i64 a3,.int .i64 a4],v.oneCell'=true:=by
 intro v hv
 simp at hv
 rcases hv with rfl|rfl|rfl|rfl|rfl<;>rfl
theorem getV5 (p:Nms) (s:ByteArray):(getV p s).length=5∧∀v∈getV p s,v.oneCell'=true:=by
 unfold getV
 split
 ·exact ⟨lookV5 _ _,lookV_one _ _⟩
 ·exact ⟨rfl,bl [] 0 0⟩
theorem remove_l {w:World} {lb nb m c:Nat} {p:Nms} {oB oE:List ByteArray→Int} (h:LgAt w lb nb m c p) (hcc:c≤80000) (hM:MaxL w) (hQ:QtOk p oB oE) (hpl:p.length≤80000) (hm0:0<m) (s:ByteArray) (hs:s.size≤1000) (r:Int) (hr:r=remE p s) :
  Calls Tryz.prog 17 #[.pointer (some ⟨lb,0,none⟩),.string s] w fun e_ w'=>∃v,e_=.returned (.tuple #[v,.int .i64 r])∧StN w.heap.size w' v (remL p s r)∧NmAt w' nb m c (if r=0 then dropP p (segsB s) else p)∧Upd m w w':=by
 have hm:=Mem.start w
 have HL:Hid (Row w lb [.pointer (some ⟨nb,0,none⟩)] 60):=h.row
 have HR:Hid (NmAt w nb m c p):=h.nm
 have HLG:Hid (LgAt w lb nb m c p):=h
 have HX:Hid (MaxL w):=hM
 obtain ⟨V,hV⟩:∃z,z=getV p s:=⟨_,rfl⟩
 obtain ⟨g,hg⟩:∃z,z=getB p s:=⟨_,rfl⟩
 obtain ⟨L9,hL9⟩:∃z,z=remL p s r:=⟨_,rfl⟩
 obtain ⟨P9,hP9⟩:∃z,z=(if r=0 then delN p (segsB s) else p):=⟨_,rfl⟩
 have HGT:Hid (∀W,Below w.heap.size w W→Calls Tryz.prog 26 #[.pointer (some ⟨nb,0,none⟩),.string s] W fun e w'=>e=.returned (.tuple #[.agg V.toArray,.bool g])∧Below W.heap.size W w'):=fun W hW=>by rw [hV,hg];exact get_n (h.nm.below hW) s hs (hM.below hW)
 have HRM:Hid (∀W,Below w.heap.size w W→Calls Tryz.prog 43 #[.pointer (some ⟨nb,0,none⟩),.string s] W fun e_ w'=>∃v,e_=.returned (.tuple #[v,.int .i64 r])∧StN W.heap.size w' v L9∧NmAt w' nb m c P9∧Upd m W w'):=fun W hW=>by rw [hL9,hP9];exact rem_n (h.nm.below hW) hcc hpl s hs (hM.below hW) r hr
 rw [←hL9]
 by_cases h0:r=0
 ·obtain ⟨k1,k2,x,k3,k4,k5⟩:=eb (hr.symm.trans h0)
  obtain ⟨y0,a1,a2,a3,a4,hsp,ha3,ha4⟩:=spv_cells x
  have hVx:V=[.string y0,.int .i64 a1,.int .i64 a2,.int .i64 a3,.int .i64 a4]:=by
   rw [hV,(fk h.nm.ok k4 k1 k5.symm).1,hsp]
  have hPd:P9=delN p x.1:=by rw [hP9,if_pos h0,k5]
  have hDP:dropP p (segsB s)=dropN p x:=by unfold dropP;rw [k3]
  have hbd:=hQ.bounds k4
  rw [←ha3,←ha4] at hbd
  have hn3:IntKind.i64.wrap (-a3) = -a3:=bt _ (by omega) (by omega)
  have hn4:IntKind.i64.wrap (-a4) = -a4:=bt _ (by omega) (by omega)
  have HAD:Hid (∀W,LgAt W lb nb m c P9→MaxL W→Calls Tryz.prog 33 #[.pointer (some ⟨lb,0,none⟩),.string s,.agg (sm (-a3) (-a4)).toArray] W fun e_ w'=>e_=.returned (.tuple #[])∧NmAt w' nb m c (dropN p x)∧Upd m W w'):=fun W hL hX=>by
   have h9:=add_l hL (by omega) hX hm0 (aR s) s (bE k1).symm (-a3) (-a4) (by omega) (by omega) (fun z hz=>by
    rw [hPd] at hz
    have hz2:=(List.mem_filter.1 hz).1
    exact ⟨hQ.use z hz2,hQ.ownBd hz2⟩)
   rw [←k5,hPd,ha3,ha4] at h9
   rw [ha3,ha4]
   exact h9
  rw [if_pos h0,hDP]
  subst hVx h0
  clear h hM hQ hs hr hV hg hL9 hP9 k1 k2 k3 k4 k5 hsp ha3 ha4 hbd hPd hDP
  go_enter Tryz.func17,Tryz.ntmps17
  go_wp2_with (first
   | ((with_reducible refine ab (some 14) (.load 26 (.tmp 13)) ?_);go_must (refine aa (.pointer (some ⟨nb,0,none⟩)) rfl (ad 0 (.pointer (some ⟨nb,0,none⟩)) (Row.bel HL.out hm.below) rfl c8 rfl) ?_))
   | (go_at_call 26;refine (HGT.out _ hm.below).mono ?_;rintro e_ w' ⟨he_,hb_⟩;subst he_;replace hm:=hm.call hb_;clear hb_)
   | ((with_reducible refine ab (some 6) (.alloc 50) ?_);refine ae _ aS hm ?_;clear hm;intro w2 g6 hm)
   | ((with_reducible refine ab none (.store 50 (.tmp 6) (.tmp 17)) ?_);refine af 0 ([.string y0,.int .i64 a1,.int .i64 a2,.int .i64 a3,.int .i64 a4]) hm rfl rfl rfl 5 ao rfl rfl (c5_one _ _ _ _ _) ?_;clear hm;intro w3 hm)
   | ((with_reducible refine ab (some 23) (.load 26 (.tmp 22)) ?_);go_must (refine aa (.pointer (some ⟨nb,0,none⟩)) rfl (ad 0 (.pointer (some ⟨nb,0,none⟩)) (Row.bel HL.out hm.below) rfl c8 rfl) ?_))
   | (go_at_call 43;refine (HRM.out _ hm.below).mono ?_;rintro e_ w4 ⟨v,he_,hs_,hn_,hu_⟩;subst he_;have HS4:Hid (StN w.heap.size w4 v L9):=hs_.lower hm.size;have HN4:Hid (NmAt w4 nb m c P9):=hn_;obtain ⟨es,cc,hes⟩:=(HR.out.below hm.below).isMap;replace hm:=(hm.weak (S:=[m])).updO hes (Or.inl (by simp)) hu_;clear hs_ hn_ hu_ hes es cc)
   | ((with_reducible refine ab (some 33) (.load 3 (.tmp 32)) ?_);refine aw 0 3 (.int .i64 a3) hm rfl rfl ah (rfl) ?_)
   | ((with_reducible refine ab (some 36) (.load 3 (.tmp 35)) ?_);refine aw 0 4 (.int .i64 a4) hm rfl rfl ah (rfl) ?_)
   | ((with_reducible refine ab (some 38) (.build 75 #[(0,.tmp 34),(1,.tmp 37)]) ?_);refine az (sm (-a3) (-a4)) [(0,.int .i64 (-a3)),(1,.int .i64 (-a4))] rfl (bA _ _) ?_)
   | (go_at_call 33;refine (HAD.out _ (HLG.out.turn hm.toUpd HN4.out) (HX.out.upd0 hm0 hm.toUpd)).mono ?_;rintro e_ w7 ⟨he_,hn_,hu_⟩;subst he_;have HN7:Hid (NmAt w7 nb m c (dropN p x)):=hn_;have HU7:Hid (Upd m _ w7):=hu_;clear hn_ hu_))
  go_ret2
  exact ⟨v,rfl,HS4.out.updM HN4.out.isMap HU7.out,HN7.out,hm.toUpd.trans HU7.out⟩
 ·rw [if_neg h0] at hP9 ⊢
  have hP8:=hP9.symm
  subst hP8
  obtain ⟨HV5,HV1⟩:=getV5 p s
  rw [←hV] at HV5 HV1
  have HV51:Hid (V.length=5∧∀v∈V,v.oneCell'=true):=⟨HV5,HV1⟩
  clear h hM hQ hs hr hV hg hL9 hP9 HV5 HV1
  go_enter Tryz.func17,Tryz.ntmps17
  go_wp2_with (first
   | ((with_reducible refine ab (some 14) (.load 26 (.tmp 13)) ?_);go_must (refine aa (.pointer (some ⟨nb,0,none⟩)) rfl (ad 0 (.pointer (some ⟨nb,0,none⟩)) (Row.bel HL.out hm.below) rfl c8 rfl) ?_))
   | (go_at_call 26;refine (HGT.out _ hm.below).mono ?_;rintro e_ w' ⟨he_,hb_⟩;subst he_;replace hm:=hm.call hb_;clear hb_)
   | ((with_reducible refine ab (some 6) (.alloc 50) ?_);refine ae _ aS hm ?_;clear hm;intro w2 g6 hm)
   | ((with_reducible refine ab none (.store 50 (.tmp 6) (.tmp 17)) ?_);refine af 0 (V) hm rfl rfl rfl 5 ao rfl HV51.out.1 HV51.out.2 ?_;clear hm;intro w3 hm)
   | ((with_reducible refine ab (some 23) (.load 26 (.tmp 22)) ?_);go_must (refine aa (.pointer (some ⟨nb,0,none⟩)) rfl (ad 0 (.pointer (some ⟨nb,0,none⟩)) (Row.bel HL.out hm.below) rfl c8 rfl) ?_))
   | (go_at_call 43;refine (HRM.out _ hm.below).mono ?_;rintro e_ w4 ⟨v,he_,hs_,hn_,hu_⟩;subst he_;have HS4:Hid (StN w.heap.size w4 v L9):=hs_.lower hm.size;have HN4:Hid (NmAt w4 nb m c p):=hn_;obtain ⟨es,cc,hes⟩:=(HR.out.below hm.below).isMap;replace hm:=(hm.weak (S:=[m])).updO hes (Or.inl (by simp)) hu_;clear hs_ hn_ hu_ hes es cc))
  go_ret2
  exact ⟨v,rfl,HS4.out,HN4.out,hm.toUpd⟩
open Go Go.RowKit Go.Maps
def dropO (o:List ByteArray→Int) (p:Nms) (ks:List ByteArray):List ByteArray→Int:=match getN p ks with|some _=>ofO o ks|none=>o
theorem QtOk.dropE {p:Nms} {oB oE:List ByteArray→Int} (h:QtOk p oB oE) {s:ByteArray} (hr:remE p s=0):QtOk (dropP p (segsB s)) (dropO oB p (segsB s)) (dropO oE p (segsB s)):=by
 obtain ⟨_,h2,x,h3,h4,h5⟩:=eb hr
 unfold dropP dropO
 rw [h3]
 show QtOk (dropN p x) (ofO oB (segsB s)) (ofO oE (segsB s))
 rw [←h5]
 exact h.drop h4 (by rw [h5];exact h2)
theorem remove_s {w:World} {lb nb m c:Nat} {p:Nms} {oB oE:List ByteArray→Int} (h:QtS w lb nb m c p oB oE) (hc:c≤80000) (hpl:p.length≤80000) (s:ByteArray) (hs:s.size≤1000) (r:Int) (hr:remE p s=r) (p':Nms) (oB' oE':List ByteArray→Int) (hp:(if r=0 then (dropP p (segsB s),dropO oB p (segsB s),dropO oE p (segsB s)) else (p,oB,oE))=(p',oB',oE')) :
  Calls Tryz.prog 17 #[.pointer (some ⟨lb,0,none⟩),.string s] w fun e_ w'=>∃v,e_=.returned (.tuple #[v,.int .i64 r])∧StN w.heap.size w' v (remL p s r)∧QtS w' lb nb m c p' oB' oE'∧Upd m w w':=by
 refine (remove_l h.lg hc h.mx h.qt hpl h.m0 s hs r hr.symm).mono ?_
 rintro e_ w' ⟨v,rfl,hv,hn,hu⟩
 refine ⟨v,rfl,hv,?_,hu⟩
 by_cases h0:r=0
 ·rw [if_pos h0] at hn hp
  simp only [Prod.mk.injEq] at hp
  obtain ⟨rfl,rfl,rfl⟩:=hp
  exact ⟨h.lg.turn hu hn,h.qt.dropE (hr.trans h0),h.mx.upd0 h.m0 hu,h.m0⟩
 ·rw [if_neg h0] at hn hp
  simp only [Prod.mk.injEq] at hp
  obtain ⟨rfl,rfl,rfl⟩:=hp
  exact ⟨h.lg.turn hu hn,h.qt,h.mx.upd0 h.m0 hu,h.m0⟩
open Go Go.RowKit Go.Maps
theorem QtS.mono {w:World} {lb nb m c c':Nat} {p:Nms} {oB oE:List ByteArray→Int} (h:QtS w lb nb m c p oB oE) (hc:c≤c'):QtS w lb nb m c' p oB oE:=⟨⟨h.lg.row,h.lg.nm.mono hc⟩,h.qt,h.mx,h.m0⟩
theorem chgN_len (p:Nms) (ks:List ByteArray) (b e:Int):(chgN p ks b e).length=p.length:=List.length_map _
theorem dropP_len (p:Nms) (ks:List ByteArray):(dropP p ks).length≤p.length:=by
 unfold dropP
 split
 ·unfold dropN
  rw [chgN_len]
  exact List.length_filter_le _ _
 ·exact Nat.le_refl _
def sK (f:Sp→Int) (p:Nms) (x:Sp) (j:Nat):Int:=sumI (fun y=>if isKid y x.1=true then f y else 0) (p.take j)
open Go Go.RowKit
def beyK (ks:List ByteArray) (b e:Int) (p:Nms):Bool:=p.any fun y=>undB ks y.1&&overS b e y
theorem bey_yes {ks:List ByteArray} {b e:Int} {p:Nms} {k:Nat} {y:Sp} (hy:p[k]?=some y) (h:(undB ks y.1&&overS b e y)=true):beyK ks b e p=true:=List.any_eq_true.2 ⟨y,List.mem_of_getElem? hy,h⟩
theorem bey_not {ks:List ByteArray} {b e:Int} {p:Nms} (h:∀k y,k<p.length→p[k]?=some y→(undB ks y.1&&overS b e y)=false):beyK ks b e p=false:=by
 unfold beyK
 rw [List.any_eq_false]
 intro y hy
 obtain ⟨k,hk,e2⟩:=List.mem_iff_getElem.1 hy
 rw [h k y hk (by rw [←e2];simp [hk])]
 simp
theorem canE_is {p:Nms} {oB oE:List ByteArray→Int} {s:ByteArray} {b e:Int} (hg:getB p s=true):canE p oB oE s b e=if oB (segsB s)+heldC b<0 then 12 else if oE (segsB s)+heldC e<0 then 12 else if beyK (segsB s) (heldC b) (heldC e) p=true then 170 else 0:=by
 unfold canE beyK
 rw [if_neg (by rw [hg];simp)]
 by_cases h1:oB (segsB s)+heldC b<0
 ·rw [if_pos (Or.inl h1),if_pos h1]
 ·rw [if_neg h1]
  by_cases h2:oE (segsB s)+heldC e<0
  ·rw [if_pos (Or.inr h2),if_pos h2]
  ·rw [if_neg (fun h=>h.elim h1 h2),if_neg h2]
open Go Go.RowKit Go.Maps
theorem ak:∀w,(isAgg 46).run Tryz.prog w=.ok false w:=by intro w;simp [go_sem]
theorem sz_sps:(Tryz.prog.info? 46).map (·.size)=some 1:=by kernel_rfl
theorem built_rn (p:Option Addr) (n c:Nat):Tryz.prog.built 71 [(0,.slice p n c)]=some [Value.slice p n c].toArray:=by kernel_rfl
theorem cZ {w:World} {g:Nat} {l l':List Value} {t t':TypeId} (h:Row w g l t) (h2:Row w g l' t'):t=t':=by
 unfold Row at h h2
 rw [h] at h2
 simp only [Option.some.injEq,Obj.cells.injEq] at h2
 exact h2.2.1
def RfAt (B:Nat) (w:World) (rb:Nat) (p:Nms):Prop :=
 ∃b cap tl,B≤b∧Row w rb [.slice (some ⟨b,0,none⟩) p.length cap] 71∧p.length≤cap∧Row w b (p.flatMap spv++tl) 50
theorem row_flat {w:World} {b:Nat} {p:Nms} {tl:List Value} {t:TypeId} (h:Row w b (p.flatMap spv++tl) t):∀i x,p[i]?=some x→∀j u,(spv x)[j]?=some u→b<w.heap.size∧w.cell? ⟨b,i * 5+j,none⟩=some u:=fun i x hx j u hu=>by
 have h1:=flat_sp hx j u hu
 refine ⟨Row.lt h,?_⟩
 rw [h.cell,List.getElem?_append_left (List.getElem?_eq_some_iff.1 h1).1]
 exact h1
theorem RfAt.cells {B:Nat} {w:World} {rb:Nat} {p:Nms} (h:RfAt B w rb p):∃b cap,Row w rb [.slice (some ⟨b,0,none⟩) p.length cap] 71∧p.length≤cap∧∀i x,p[i]?=some x→∀j u,(spv x)[j]?=some u→b<w.heap.size∧w.cell? ⟨b,i * 5+j,none⟩=some u:=by
 obtain ⟨b,cap,tl,_,h1,h2,h3⟩:=h
 exact ⟨b,cap,h1,h2,row_flat h3⟩
theorem RfAt.below {B:Nat} {w w':World} {rb:Nat} {p:Nms} (h:RfAt B w rb p) (hb:Below w.heap.size w w'):RfAt B w' rb p:=by
 obtain ⟨b,cap,tl,h0,h1,h2,h3⟩:=h
 exact ⟨b,cap,tl,h0,Row.bel h1 hb,h2,Row.bel h3 hb⟩
theorem RfAt.base {B B':Nat} {w:World} {rb:Nat} {p:Nms} (h:RfAt B w rb p) (hb:B'≤B):RfAt B' w rb p:=by
 obtain ⟨b,cap,tl,h0,h1⟩:=h
 exact ⟨b,cap,tl,Nat.le_trans hb h0,h1⟩
theorem RfAt.updO {B:Nat} {w w':World} {rb m c:Nat} {es:Array MapEntry} {p:Nms} (h:RfAt B w rb p) (hes:w.heap[m]?=some (.map es c)) (hu:Upd m w w'):RfAt B w' rb p:=by
 obtain ⟨b,cap,tl,h0,h1,h2,h3⟩:=h
 exact ⟨b,cap,tl,h0,hu.row h1 (aB h1 hes),h2,hu.row h3 (aB h3 hes)⟩
theorem NmAt.updR {B:Nat} {w w':World} {nb m c rb:Nat} {p q:Nms} (h:NmAt w nb m c p) (hr:RfAt B w rb q) (hu:Upd rb w w'):NmAt w' nb m c p:=by
 obtain ⟨b,cap,tl,_,h1,_⟩:=hr
 obtain ⟨es,cl,hes⟩:=h.isMap
 refine h.updO hu (fun e=>?_) (aB h1 hes)
 subst e
 have:=cZ h1 h.row
 exact absurd this (by decide)
theorem RfAt.lt {B:Nat} {w:World} {rb:Nat} {p:Nms} (h:RfAt B w rb p):rb<w.heap.size:=by
 obtain ⟨b,cap,tl,_,h1,_⟩:=h
 exact Row.lt h1
def SpO (w:World) (v:Value) (l:Nms):Prop :=
 ∃p cap,v=.slice p l.length cap∧(0<l.length→∃b o,p=some ⟨b,o,none⟩∧∀i x,l[i]?=some x→∀j u,(spv x)[j]?=some u→w.cell? ⟨b,o+(i * 5+j),none⟩=some u)
theorem flat_at {l:Nms}:∀ {k:Nat} {u:Value},(l.flatMap spv)[k]?=some u→∃i x j,l[i]?=some x∧(spv x)[j]?=some u∧k=i * 5+j:=by
 induction l with
 | nil=>intro k u h;simp at h
 | cons y l ih =>
  intro k u h
  rw [List.flatMap_cons] at h
  have h5:(spv y).length=5:=rfl
  rcases Nat.lt_or_ge k 5 with hk|hk
  ·rw [List.getElem?_append_left (by omega)] at h
   exact ⟨0,y,k,rfl,h,by omega⟩
  ·rw [List.getElem?_append_right (by omega),h5] at h
   obtain ⟨i,x,j,h1,h2,h3⟩:=ih h
   exact ⟨i+1,x,j,by simpa using h1,h2,by omega⟩
theorem flat_len (l:Nms):(l.flatMap spv).length=l.length * 5:=by
 induction l with
 | nil=>rfl
 | cons y l ih=>rw [List.flatMap_cons,List.length_append,ih,List.length_cons,show (spv y).length=5 from rfl];omega
theorem flat_one (l:Nms):∀u∈l.flatMap spv,u.oneCell'=true:=by
 intro u hu
 obtain ⟨x,_,h⟩:=List.mem_flatMap.1 hu
 exact bS x u h
theorem own_formS {w:World} {B n:Nat} {v:Value} {cs:List Value} (h:w.ownsRow B 50 5 v n cs):∃p c,v=.slice p n c:=by
 rcases h.2 with ⟨rfl,rfl⟩|⟨g,cap,_,rfl,_⟩
 ·exact ⟨_,_,rfl⟩
 ·exact ⟨_,_,rfl⟩
theorem own_atS {w:World} {B:Nat} {v:Value} {l:Nms} {N:Nat} (h:w.ownsRow B 50 5 v N (l.flatMap spv)) (hN:N=l.length) (h0:0<l.length) :
  ∃b cap tl,v=.slice (some ⟨b,0,none⟩) l.length cap∧l.length≤cap∧B≤b∧Row w b (l.flatMap spv++tl) 50:=by
 obtain ⟨_,h2⟩:=h
 rcases h2 with ⟨rfl,h3⟩|⟨g,cap,cur,rfl,hb,hg,hn,_,_,ht⟩
 ·omega
 ·refine ⟨g,cap,cur.toList.drop (N * 5),by rw [hN],by omega,hb,?_⟩
  rw [←ht,List.take_append_drop]
  unfold Row
  rw [hg]
def hiS (p:Option Addr) (cap:Nat):Option Addr:=if cap=0 then p else p.map (·.add 0)
def loS (p:Option Addr) (cap k:Nat):Option Addr:=if cap=k then p else p.map (·.add (k * 5))
theorem hiS_is (b cap:Nat):hiS (some ⟨b,0,none⟩) cap=some ⟨b,0,none⟩:=by unfold hiS;split<;>simp [bn]
theorem loS_is {b cap k:Nat} (h:k<cap):loS (some ⟨b,0,none⟩) cap k=some ⟨b,k * 5,none⟩:=by unfold loS;rw [if_neg (by omega)];simp [bn]
section
variable {P:Program} {kT:TypeId} {ops:Array Oper} {rest:List Oper} {a:Act} {w w0 w1:World} {Q:Exit→Act→World→Prop} {dst:Option Tmp} {typ:TypeId} {pos:String} {aft:Array Edge} {gd:Option (Nat×Bool)} {S:List Nat} {rows:List (Nat×List Value×TypeId)}
theorem cJ {t e:TypeId} {x ix:Operand} {b o n cap:Nat} (K i:Nat) {ii:Int} (hu:P.underlying t=some (.slice e)) (hs:(P.info? e).map (·.size)=some K) (hx:a.eval x=.slice (some ⟨b,o,none⟩) n cap) (hix:a.eval ix=.int .i64 ii) (hii:ii=(i:Int)) (hi:i<n) :
  (execOp a.eval {dst:=dst,op:=.indexAddr t x ix,type:=typ,pos:=pos,after:=aft,guard:=gd}).run P w=.ok (.value (.pointer (some ⟨b,o+i * K,none⟩))) w:=by
 subst hii
 have h0:(0:Int)≤(i:Int)∧(i:Int)<(n:Int):=by omega
 have hsz:(sizeOf e).run P w=.ok K w:=by
  cases hq:P.info? e with
  | none=>simp [hq] at hs
  | some q =>
   have hs1:q.size=K:=by simpa [hq] using hs
   simp [sizeOf,typeInfo,hq,hs1]
 unfold execOp
 simp [hx,hix,Instr.indexAt,asIntOf,run_underlying hu,hsz,h0,bn]
 omega
end
section
variable {a:Act} {w:World} {dst:Option Tmp} {typ:TypeId} {pos:String} {aft:Array Edge} {gd:Option (Nat×Bool)}
theorem exec_hiS {x hi:Operand} {p:Option Addr} {len cap:Nat} (m:Nat) {ih:Int} (hm:m≤cap) (hx:a.eval x=.slice p len cap) (hhi:a.eval hi=.int .i64 ih) (hih:ih=(m:Int)) :
  (execOp a.eval {dst:=dst,op:=.slice 46 x none (some hi) none,type:=typ,pos:=pos,after:=aft,guard:=gd}).run Tryz.prog w=.ok (.value (.slice (hiS p cap) m cap)) w:=by
 subst hih
 cases hq:Tryz.prog.info? 50 with
 | none=>have:=ao;rw [hq] at this;cases this
 | some q =>
  have hs1:q.size=5:=by have:=ao;rw [hq] at this;simpa using this
  have bnd:∀code,(Instr.sliceBound (.int .i64 (m:Int)) cap code).run Tryz.prog w=.ok m w:=by
   intro code
   rw [run_sliceBound (P:=Tryz.prog) w .i64 (m:Int) cap code (by omega) (by omega)]
   simp
  have hb:(Instr.sliceBounds true len cap none (some (.int .i64 (m:Int))) none).run Tryz.prog w=.ok (0,m,cap) w:=by
   simp [Instr.sliceBounds,bnd]
  have hr:(Instr.sliceAt 46 (.slice p len cap) none (some (.int .i64 (m:Int))) none).run Tryz.prog w=.ok (.slice (hiS p cap) m cap) w:=by
   simp [Instr.sliceAt,Instr.slice,run_underlying ay,hb,hiS]
  unfold execOp
  simp only [hx,hhi,Option.map_some,Option.map_none,hr,Sem.run_bind,Sem.run_pure,Result.andThen_ok]
theorem exec_loS {x lo:Operand} {p:Option Addr} {len cap:Nat} (l:Nat) {il:Int} (hl:l≤len) (hx:a.eval x=.slice p len cap) (hlo:a.eval lo=.int .i64 il) (hil:il=(l:Int)) :
  (execOp a.eval {dst:=dst,op:=.slice 46 x (some lo) none none,type:=typ,pos:=pos,after:=aft,guard:=gd}).run Tryz.prog w=.ok (.value (.slice (loS p cap l) (len - l) (cap - l))) w:=by
 subst hil
 cases hq:Tryz.prog.info? 50 with
 | none=>have:=ao;rw [hq] at this;cases this
 | some q =>
  have hs1:q.size=5:=by have:=ao;rw [hq] at this;simpa using this
  have hb:(Instr.sliceBounds true len cap (some (.int .i64 (l:Int))) none none).run Tryz.prog w=.ok (l,len,cap) w:=by
   have:=run_sliceBound (P:=Tryz.prog) w .i64 (l:Int) len .sliceB (by omega) (by omega)
   simp [Instr.sliceBounds,this]
  have hr:(Instr.sliceAt 46 (.slice p len cap) (some (.int .i64 (l:Int))) none none).run Tryz.prog w=.ok (.slice (loS p cap l) (len - l) (cap - l)) w:=by
   simp [Instr.sliceAt,Instr.slice,run_underlying ay,hb,loS,Nat.mul_comm]
  unfold execOp
  simp only [hx,hlo,Option.map_some,Option.map_none,hr,Sem.run_bind,Sem.run_pure,Result.andThen_ok]
end
section
variable {ops:Array Oper} {rest:List Oper} {a:Act} {w:World} {Q:Exit→Act→World→Prop} {dst:Option Tmp} {typ:TypeId} {pos:String} {aft:Array Edge} {gd:Option (Nat×Bool)}
theorem dz {s x:Operand} (hw:Region.wanted {dst:=dst,op:=.call {callee:=.builtin .append,args:=#[s,x],argTypes:=#[46,46]},type:=typ,pos:=pos,after:=aft,guard:=gd} (yielded ops a.tmps)=true)
  {base n m c N:Nat} {v:Value} {ps:Option Addr} {F ls:Nms} (out:Nms) (hown:w.ownsRow base 50 5 v n (F.flatMap spv)) (hbase:base≤w.heap.size) (hs:a.eval s=v) (hx:a.eval x=.slice ps m c) (hv:SpO w (.slice ps m c) ls) (hml:ls.length=m) (hN:n+m=N) (h1k:N≤100000) (ho:F++ls=out)
  (h:∀p' c' w',w'.ownsRow base 50 5 (.slice p' N c') N (out.flatMap spv)→w.grownBy w' v.ownBlock→wpList Tryz.prog ops Q rest (a.put dst (.slice p' N c')) w') :
  wpList Tryz.prog ops Q ({dst:=dst,op:=.call {callee:=.builtin .append,args:=#[s,x],argTypes:=#[46,46]},type:=typ,pos:=pos,after:=aft,guard:=gd}::rest) a w:=by
 subst ho hN
 have hi:=dn
 have key:∃v' w',(Builtin.append_ #[46,46] typ #[v,.slice ps m c]).run Tryz.prog w=.ok v' w'∧w'.ownsRow base 50 5 v' (n+m) ((F++ls).flatMap spv)∧w.grownBy w' v.ownBlock:=by
  cases hq:Tryz.prog.info? 50 with
  | none=>simp [hq] at hi
  | some i =>
   simp only [hq,Option.map_some,Option.some.injEq,Prod.mk.injEq] at hi
   obtain ⟨hz1,h2,h3⟩:=hi
   rcases Nat.eq_zero_or_pos m with h0|h0
   ·subst h0
    have hl:=List.length_eq_zero_iff.1 hml
    subst hl
    refine ⟨v,w,?_,by rw [List.append_nil];exact hown,⟨rfl,rfl,rfl,Nat.le_refl _,fun _ _ _=>rfl⟩⟩
    have hld:∀a:Addr,(loadCells a 0).run Tryz.prog w=.ok #[] w:=fun a=>rfl
    rcases hown.2 with ⟨rfl,_⟩|⟨g,cap,cur,rfl,_,_,hn,_⟩
    ·cases ps<;>simp [Builtin.append_,run_underlying ay,sizeOf,typeInfo,hq,Builtin.lenOf,Builtin.firstCells,hld]
    ·cases ps<;>simp [Builtin.append_,run_underlying ay,sizeOf,typeInfo,hq,Builtin.lenOf,Builtin.firstCells,hld,hn,storeCells]
   ·obtain ⟨p',c',he,hcc⟩:=hv
    cases he
    obtain ⟨b,o,rfl,hseg⟩:=hcc h0
    obtain ⟨v',w',hrun,ho,hg,_,hb⟩:=run_append_own_at (P:=Tryz.prog) w base 46 typ 50 i (.agg spZ.toArray) 5 48 ay hq hz1 h2 h3 rfl (by omega) v n (F.flatMap spv) hown ⟨b,o,none⟩ ls.length c (ls.flatMap spv) (flat_len ls) (fun j u hu=>by
     rw [bn]
     obtain ⟨k,x,j2,e1,e2,rfl⟩:=flat_at hu
     exact hseg k x e1 j2 u e2) (flat_one ls) (by unfold maxLen;omega) (by omega) hbase
    exact ⟨v',w',hrun,by rw [List.flatMap_append];exact ho,hg⟩
 obtain ⟨v',w',hrun,ho,hg⟩:=key
 obtain ⟨p',c',rfl⟩:=own_formS ho
 refine wpList_step fun K hK=>?_
 rw [if_pos hw]
 have hh:=hK _ _ (h p' c' w' ho hg)
 unfold Oper.wp execOp
 simp only [resolve,invoke,builtin,Sem.run_bind,Sem.run_pure,Result.andThen_ok,List.map_toArray,List.map_cons,List.map_nil,hs,hx,hrun]
 exact hh
end
def atN (p:Nms) (s:ByteArray):Int:=match p.findIdx? (fun x=>decide (tx x.1=s)) with|some i=>(i:Int)|none => -1
theorem atN_yes {p:Nms} {s:ByteArray} {i:Nat} {x:Sp} (hx:p[i]?=some x) (he:tx x.1=s) (hn:∀k y,k<i→p[k]?=some y→tx y.1≠s):atN p s=(i:Int):=by
 obtain ⟨hi,e⟩:=List.getElem?_eq_some_iff.1 hx
 have h:p.findIdx? (fun x=>decide (tx x.1=s))=some i:=by
  rw [List.findIdx?_eq_some_iff_getElem]
  refine ⟨hi,by rw [e];simpa using he,fun j hj=>?_⟩
  have h2:=hn j p[j] hj (by simp)
  simpa using h2
 unfold atN
 rw [h]
theorem atN_no {p:Nms} {s:ByteArray} (hn:∀y∈p,tx y.1≠s):atN p s = -1:=by
 have h:p.findIdx? (fun x=>decide (tx x.1=s))=none:=by
  rw [List.findIdx?_eq_none_iff]
  intro y hy
  simpa using hn y hy
 unfold atN
 rw [h]
theorem cV {p:Nms} (hp:NmOk p) (s:ByteArray):(getB p s=false∧atN p s = -1)∨(getB p s=true∧∃(i:Nat) (x:Sp),p[i]?=some x∧atN p s=(i:Int)∧getV p s=spv x):=by
 by_cases h:∃x∈p,tx x.1=s
 ·right
  obtain ⟨x,hx,e⟩:=h
  have ok:=hp.ok x hx
  have hP:isP (bs s)=true:=by rw [←e];exact dH ok
  have hS:segsB s=x.1:=by rw [←e];exact cF ok
  obtain ⟨h1,h2⟩:=fk hp hx hP hS
  refine ⟨h2,?_⟩
  obtain ⟨i,hi,e2⟩:=List.mem_iff_getElem.1 hx
  refine ⟨i,x,by rw [←e2];simp [hi],atN_yes (x:=x) (by rw [←e2];simp [hi]) e (fun k y hk hy he2=>?_),h1⟩
  obtain ⟨hk2,e3⟩:=List.getElem?_eq_some_iff.1 hy
  have:=List.pairwise_iff_getElem.1 hp.srt k i hk2 hi hk
  rw [e3,e2] at this
  have:x.1=y.1:=tx_inj ok (hp.ok y (List.mem_of_getElem? hy)) (e.trans he2.symm)
  rename_i h9
  rw [this] at h9
  exact List.lt_irrefl _ h9
 ·left
  have hn:∀y∈p,tx y.1≠s:=fun y hy he=>h ⟨y,hy,he⟩
  refine ⟨?_,atN_no hn⟩
  cases hb:getB p s with
  | false=>rfl
  | true =>
   unfold getB at hb
   rw [Bool.and_eq_true] at hb
   obtain ⟨y,hy,e⟩:=aE.1 hb.2
   exact absurd (by rw [e];exact bE hb.1) (hn y hy)
theorem cut_srt {p:Nms} (h:p.Pairwise fun x y=>cd x.1<cd y.1) (c:List UInt8):p=(p.filter fun y=>decide (cd y.1<c))++p.filter fun y => !decide (cd y.1<c):=by
 induction p with
 | nil=>rfl
 | cons x p ih =>
  obtain ⟨h1,h2⟩:=List.pairwise_cons.1 h
  by_cases hx:cd x.1<c
  ·rw [List.filter_cons_of_pos (by simpa using hx),List.filter_cons_of_neg (by simpa using hx),List.cons_append,←ih h2]
  ·have e1:(p.filter fun y=>decide (cd y.1<c))=[]:=by
    rw [List.filter_eq_nil_iff]
    intro y hy hc
    exact hx (List.lt_trans (h1 y hy) (by simpa using hc))
   rw [List.filter_cons_of_neg (by simpa using hx),List.filter_cons_of_pos (by simpa using hx),e1,List.nil_append]
   congr 1
   conv=>lhs;rw [ih h2,e1,List.nil_append]
open Go Go.RowKit
def chK (f:Sp→Sp) (p:Nms) (k:Nat):Nms:=(p.take k).map f++p.drop k
theorem chK_zero (f:Sp→Sp) (p:Nms):chK f p 0=p:=by simp [chK]
theorem chK_all (f:Sp→Sp) (p:Nms):chK f p p.length=p.map f:=by simp [chK]
theorem chK_split (f:Sp→Sp) {p:Nms} {k:Nat} {x:Sp} (hx:p[k]?=some x):chK f p k=(p.take k).map f++x::p.drop (k+1):=by
 obtain ⟨hk,e⟩:=List.getElem?_eq_some_iff.1 hx
 unfold chK
 rw [List.drop_eq_getElem_cons hk,e]
theorem eN (f:Sp→Sp) {p:Nms} {k:Nat} {x:Sp} (hx:p[k]?=some x):(chK f p k)[k]?=some x:=by
 obtain ⟨hk,_⟩:=List.getElem?_eq_some_iff.1 hx
 have hl:((p.take k).map f).length=k:=by rw [List.length_map,List.length_take];omega
 rw [chK_split f hx,List.getElem?_append_right (by omega),hl,Nat.sub_self]
 rfl
theorem chK_succ (f:Sp→Sp) {p:Nms} {k:Nat} {x:Sp} (hx:p[k]?=some x):chK f p (k+1)=(chK f p k).set k (f x):=by
 obtain ⟨hk,_⟩:=List.getElem?_eq_some_iff.1 hx
 have hl:((p.take k).map f).length=k:=by rw [List.length_map,List.length_take];omega
 rw [chK_split f hx]
 unfold chK
 rw [List.set_append_right _ _ (by omega),hl,Nat.sub_self,List.set_cons_zero,List.take_add_one,hx]
 simp
theorem chK_keep (f:Sp→Sp) {p:Nms} {k:Nat} {x:Sp} (hx:p[k]?=some x) (h:f x=x):chK f p (k+1)=chK f p k:=by
 rw [chK_succ f hx,h]
 obtain ⟨h1,h2⟩:=List.getElem?_eq_some_iff.1 (eN f hx)
 conv=>lhs;rw [←h2]
 exact List.set_getElem_self h1
theorem flat_set {L:Nms}:∀ {i:Nat} {x x':Sp} {j:Nat} {v:Value},L[i]?=some x→j<5→spv x'=(spv x).set j v→∀tl:List Value,(L.flatMap spv++tl).set (i * 5+j) v=(L.set i x').flatMap spv++tl:=by
 induction L with
 | nil=>intro i x x' j v h;simp at h
 | cons y L ih =>
  intro i x x' j v h hj he tl
  have h5:(spv y).length=5:=rfl
  cases i with
  | zero =>
   rw [List.getElem?_cons_zero] at h
   cases h
   rw [List.set_cons_zero,List.flatMap_cons,List.flatMap_cons,he,List.append_assoc,List.append_assoc,List.set_append_left _ _ (by omega),Nat.zero_mul,Nat.zero_add]
  | succ i =>
   rw [List.getElem?_cons_succ] at h
   rw [List.set_cons_succ,List.flatMap_cons,List.flatMap_cons,List.append_assoc,List.append_assoc,List.set_append_right _ _ (by omega),h5,show (i+1) * 5+j - 5=i * 5+j by omega,ih h hj he]
def moB (x:Sp) (b:Int):Sp:=(x.1,lmB x,lmE x,usB x+b,usE x,owB x,owE x)
theorem moB_set (x:Sp) (b v:Int) (hv:v=usB x+b):spv (moB x b)=(spv x).set 3 (.int .i64 v):=by subst hv;rfl
theorem chg_set {ks:List ByteArray} {x:Sp} (hu:undB ks x.1=true) (b e v:Int) (hv:v=usE x+e):spv (chg ks b e x)=(spv (moB x b)).set 4 (.int .i64 v):=by
 subst hv
 unfold chg
 rw [if_pos hu]
 rfl
theorem chg_not {ks:List ByteArray} {x:Sp} (hu:undB ks x.1=false) (b e:Int):chg ks b e x=x:=by unfold chg;rw [if_neg (by rw [hu];simp)]
theorem left_kid {f:Sp→Int} {p:Nms} {x y:Sp} {k:Nat} (hy:p[k]?=some y) (h:isKid y x.1=true):leftK f p x (k+1)=leftK f p x k - f y:=by rw [eX hy,if_pos h]
theorem dL {f:Sp→Int} {p:Nms} {x y:Sp} {k:Nat} (hy:p[k]?=some y) (h:isKid y x.1=false):leftK f p x (k+1)=leftK f p x k:=by rw [eX hy,if_neg (by rw [h];simp)];omega
open Go Go.RowKit Go.Maps
theorem newR_n (b e:Int) (w:World) :
  Calls Tryz.prog 9 #[.int .i64 b,.int .i64 e] w fun e_ w'=>∃rb,e_=.returned (.pointer (some ⟨rb,0,none⟩))∧w.heap.size≤rb∧RfAt w.heap.size w' rb (newN b e)∧Below w.heap.size w w':=by
 have hm:=Mem.start w
 go_enter Tryz.func9,Tryz.ntmps9
 go_wp2_with (first
  | ((with_reducible refine ab (some 11) (.build 50 #[(1,.tmp 7),(2,.tmp 10)]) ?_);refine az (spc [] (heldI b) (heldI e)) [(1,.int .i64 (heldI b)),(2,.int .i64 (heldI e))] rfl (built_sp _ _) ?_)
  | ((with_reducible refine ab (some 12) (.buildSlice 46 1 #[(0,.tmp 11)]) ?_);go_must (refine cn (spc [] (heldI b) (heldI e)) rfl rfl rfl hm ?_);clear hm;intro w6 g8 hm hb8)
  | ((with_reducible refine ab (some 13) (.build 71 #[(0,.tmp 12)]) ?_);refine az [Value.slice (some ⟨g8,0,none⟩) 1 1] [(0,.slice (some ⟨g8,0,none⟩) 1 1)] rfl (built_rn _ _ _) ?_)
  | ((with_reducible refine ab (some 14) (.box 71 (.tmp 13)) ?_);refine dW [Value.slice (some ⟨g8,0,none⟩) 1 1] rfl hm ?_;clear hm;intro w7 rb hm hb7))
 go_ret
 refine ⟨rb,rfl,(hm.fresh _ (List.mem_cons_self ..)).resolve_left (by simp),⟨g8,1,[],(hm.fresh _ (List.mem_cons_of_mem _ (List.mem_cons_self ..))).resolve_left (by simp),hm.get 0 rfl,Nat.le_refl _,?_⟩,hm.below⟩
 exact hm.get 1 rfl
theorem atR_n {w:World} {B rb:Nat} {p:Nms} (h:RfAt B w rb p) (hpl:p.length≤90000) (s:ByteArray) (z:Int) (hz:z=atN p s) :
  Calls Tryz.prog 40 #[.pointer (some ⟨rb,0,none⟩),.string s] w fun e w'=>e=.returned (.int .i64 z)∧Below w.heap.size w w':=by
 obtain ⟨N,hN⟩:∃N,N=p.length:=⟨_,rfl⟩
 have HNP:Hid (N=p.length):=hN
 have hN9:N≤90000:=by omega
 obtain ⟨b,cap,hrow,hcap,hcell⟩:=h.cells
 rw [←hN] at hrow hcap
 have HROW:Hid (Row w rb [.slice (some ⟨b,0,none⟩) N cap] 71):=hrow
 have HCELL:Hid (∀i x,p[i]?=some x→∀j u,(spv x)[j]?=some u→b<w.heap.size∧w.cell? ⟨b,i * 5+j,none⟩=some u):=hcell
 have HZ:Hid (z=atN p s):=hz
 clear hrow hcell hN hpl hz
 go_enter Tryz.func40,Tryz.ntmps40
 go_wp2_with fail
 go_loopw [5] (fun vi wr=>∃i:Nat,i≤N∧vi=.int .i64 (i:Int)∧Hid (Below w.heap.size w wr)∧Hid (∀k y,k<i→p[k]?=some y→tx y.1≠s)) (fun vi _=>match vi with | .int _ q=>N - q.toNat|_=>0)
 case atStart=>exact ⟨0,by omega,rfl,Below.refl _ _,fun k _ hk=>absurd hk (Nat.not_lt_zero k)⟩
 case round =>
  obtain ⟨i,hi,rfl,HB,HNO⟩:=hrel
  by_cases hlt:i<N
  ·have hki:(i:Int)<(N:Int):=by omega
   have hw:IntKind.i64.wrap ((i:Int)+1)=(i:Int)+1:=bO _ (by omega) (by omega)
   obtain ⟨x,hx⟩:∃x,p[i]?=some x:=⟨p[i]'(by have:=HNP.out;omega),by simp [show i<p.length by have:=HNP.out;omega]⟩
   have HX:Hid (p[i]?=some x):=hx
   obtain ⟨y,hy⟩:∃y,y=tx x.1:=⟨_,rfl⟩
   have HYT:Hid (y=tx x.1):=hy
   have HY:Hid (wr.cell? ⟨b,i * 5,none⟩=some (.string y)):=by
    have h1:=HCELL.out i x hx 0 (.string y) (by rw [hy];rfl)
    exact (HB.out.cell (p:=⟨b,i * 5,none⟩) h1.1).trans h1.2
   have HRW:Hid (Row wr rb [.slice (some ⟨b,0,none⟩) N cap] 71):=Row.bel HROW.out HB.out
   by_cases hys:y=s
   ·have HE:Hid ((y==s)=true):=by rw [hys];exact ci s
    have HZI:Hid (z=(i:Int)):=by rw [HZ.out];exact atN_yes hx (by rw [←hy];exact hys) HNO.out
    clear hx hy hys
    go_wp2_with (first
     | ((with_reducible refine ab (some 10) (.load 46 (.tmp 9)) ?_);go_must (refine aa (.slice (some ⟨b,0,none⟩) N cap) rfl (ad 0 (.slice (some ⟨b,0,none⟩) N cap) HRW.out rfl ak rfl) ?_))
     | ((with_reducible refine ab (some 18) (.load 46 (.tmp 17)) ?_);go_must (refine aa (.slice (some ⟨b,0,none⟩) N cap) rfl (ad 0 (.slice (some ⟨b,0,none⟩) N cap) HRW.out rfl ak rfl) ?_))
     | ((with_reducible refine ab (some 20) (.indexAddr 46 (.tmp 18) (.tmp 19)) ?_);go_must (refine aa (.pointer (some ⟨b,i * 5,none⟩)) rfl (ap 5 i ay ao rfl rfl rfl hlt) ?_))
     | ((with_reducible refine ab (some 22) (.load 9 (.tmp 21)) ?_);go_must (refine aa (.string y) rfl (ar (.string y) HY.out rfl aj) ?_))
     | ((with_reducible refine ab (some 24) (.binOp .eql 9 (.tmp 22) (.tmp 23) 9) ?_);go_must (refine aa (.bool true) rfl (aM y s true rfl rfl HE.out) ?_)))
    go_ret
    exact ⟨by rw [HZI.out];rfl,HB.out⟩
   ·have HE:Hid ((y==s)=false):=cv hys
    have HNO2:Hid (∀k y,k<i+1→p[k]?=some y→tx y.1≠s):=fun k v hk hv=>by
     rcases Nat.lt_or_ge k i with h1|h1
     ·exact HNO.out k v h1 hv
     ·have hk2:k=i:=by omega
      subst hk2
      rw [hx] at hv
      cases hv
      rw [←hy];exact hys
    clear hx hy hys
    go_wp2_with (first
     | ((with_reducible refine ab (some 10) (.load 46 (.tmp 9)) ?_);go_must (refine aa (.slice (some ⟨b,0,none⟩) N cap) rfl (ad 0 (.slice (some ⟨b,0,none⟩) N cap) HRW.out rfl ak rfl) ?_))
     | ((with_reducible refine ab (some 18) (.load 46 (.tmp 17)) ?_);go_must (refine aa (.slice (some ⟨b,0,none⟩) N cap) rfl (ad 0 (.slice (some ⟨b,0,none⟩) N cap) HRW.out rfl ak rfl) ?_))
     | ((with_reducible refine ab (some 20) (.indexAddr 46 (.tmp 18) (.tmp 19)) ?_);go_must (refine aa (.pointer (some ⟨b,i * 5,none⟩)) rfl (ap 5 i ay ao rfl rfl rfl hlt) ?_))
     | ((with_reducible refine ab (some 22) (.load 9 (.tmp 21)) ?_);go_must (refine aa (.string y) rfl (ar (.string y) HY.out rfl aj) ?_))
     | ((with_reducible refine ab (some 24) (.binOp .eql 9 (.tmp 22) (.tmp 23) 9) ?_);go_must (refine aa (.bool false) rfl (aM y s false rfl rfl HE.out) ?_)))
    go_roundw
    case rel=>exact ⟨i+1,by omega,by go_num,HB,HNO2⟩
    case measure=>show N - ((i:Int)+1).toNat<N - (i:Int).toNat;omega
  ·have hin:i=N:=by omega
   have hki:¬(i:Int)<(N:Int):=by omega
   have HRW:Hid (Row wr rb [.slice (some ⟨b,0,none⟩) N cap] 71):=Row.bel HROW.out HB.out
   have HZI:Hid (z = -1):=by
    rw [HZ.out]
    refine atN_no fun y hy=>?_
    obtain ⟨k,hk,e⟩:=List.mem_iff_getElem.1 hy
    exact HNO.out k y (by have:=HNP.out;omega) (by rw [←e];simp [hk])
   go_wp2_with (first
    | ((with_reducible refine ab (some 10) (.load 46 (.tmp 9)) ?_);go_must (refine aa (.slice (some ⟨b,0,none⟩) N cap) rfl (ad 0 (.slice (some ⟨b,0,none⟩) N cap) HRW.out rfl ak rfl) ?_)))
   go_ret
   exact ⟨by rw [HZI.out];rfl,HB.out⟩
end Go.Proofs.YtdmohffogfbnbaaGreatDoor
