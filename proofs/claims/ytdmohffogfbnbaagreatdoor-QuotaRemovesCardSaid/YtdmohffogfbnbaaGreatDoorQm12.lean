import Derived.StringKeys
import Derived.Test.YtdmohffogfbnbaaGreatDoorQm10
import Derived.Test.YtdmohffogfbnbaaGreatDoorQm04
import Derived.Test.YtdmohffogfbnbaaGreatDoorQm11
import Derived.Test.YtdmohffogfbnbaaGreatDoorQm09
set_option maxRecDepth 100000
set_option maxHeartbeats 4000000
namespace Go.Proofs.YtdmohffogfbnbaaGreatDoor
open Go Go.RowKit Go.Maps
theorem un_mk:Tryz.prog.underlying 89=some (.map 9 75):=Tryz.underlying89
theorem str_law:Keyed Tryz.prog 9:=string_keyed Tryz.underlying9
theorem str_key {t:ByteArray} (ht:t.size≤1000):∃kl,keyOf Tryz.prog 9 (.string t)=some kl:=by
 exact ⟨_,Go.WideMaps.keyOf_string_mk cr (by unfold maxLen;omega)⟩
theorem par_all {ks:List ByteArray} (h:PlOk ks):parOk (bs (tx ks)) = !decide (ks=[])∧mkS (parOf (bs (tx ks)))=tx ks.dropLast:=by
 by_cases h0:ks=[]
 ·subst h0
  exact ⟨by decide +kernel,by decide +kernel⟩
 ·obtain ⟨h1,h2⟩:=par_tx h h0
  exact ⟨by rw [h1,decide_eq_false h0];rfl,h2⟩
theorem kdK_look {w:World} {mk q:Nat} {p:Nms} {V:List ByteArray→Bool} (km:KM Tryz.prog 9 w mk q (KdK p V)) {t:ByteArray} (ht:t.size≤1000) :
  (Instr.lookup 89 (.map (some mk)) (.string t) false).run Tryz.prog w=.ok (.agg (sm (kS usB p V t) (kS usE p V t)).toArray) w:=by
 obtain ⟨kl,hk⟩:=str_key ht
 by_cases hc:∃y∈p,kC V t y=true
 ·exact km.look1 str_law un_mk (aM w) hk ⟨t,ht,hc,rfl,rfl⟩
 ·rw [kS_zero hc,kS_zero hc]
  refine km.look1No str_law un_mk (aM w) hk (fun v hv=>?_)
  obtain ⟨t',_,hc',e,_⟩:=hv
  simp only [Value.string.injEq] at e
  subst e
  exact hc hc'
theorem kids_l {w:World} {lb nb m c:Nat} {p:Nms} (h:LgAt w lb nb m c p) (hcc:c≤90000) (hM:MaxL w) (hus:∀x∈p,(0≤usB x∧usB x≤1000000)∧0≤usE x∧usE x≤1000000) (hpl:p.length≤90000) :
  Calls Tryz.prog 47 #[.pointer (some ⟨lb,0,none⟩)] w fun e w'=>∃mk qk V,e=.returned (.map (some mk))∧w.heap.size≤mk∧(∀x∈p,V x.1=true)∧KM Tryz.prog 9 w' mk qk (KdK p V)∧Below w.heap.size w w':=by
 have hm:=Mem.start w
 have HM:Hid (MaxL w):=hM
 have HL:Hid (Row w lb [.pointer (some ⟨nb,0,none⟩)] 60):=h.row
 have HR:Hid (NmAt w nb m c p):=h.nm
 have HOK:Hid (NmOk p):=h.nm.ok
 obtain ⟨q,hq,km⟩:=h.nm.map
 have hq9:q≤90000:=by omega
 have HKM:Hid (KM Tryz.prog 63 w m q (NmK p)):=km
 have HUS:Hid (∀x∈p,(0≤usB x∧usB x≤1000000)∧0≤usE x∧usE x≤1000000):=hus
 have HKB:Hid (∀V t,(0≤kS usB p V t∧kS usB p V t≤1000000 * 90000)∧0≤kS usE p V t∧kS usE p V t≤1000000 * 90000):=fun V t=>by
  have h1:=kS_bound (f:=usB) (fun x hx=>(hus x hx).1) V t
  have h2:=kS_bound (f:=usE) (fun x hx=>(hus x hx).2) V t
  omega
 have HPAR:Hid (∀x∈p,∀W,MaxL W→Calls Tryz.prog 25 #[.string (tx x.1)] W fun e w'=>e=.returned (.tuple #[.string (tx x.1.dropLast),.bool (!decide (x.1=[]))])∧Below W.heap.size W w'):=fun x hx W hW=>by
  have h1:=parentP_any (tx x.1) W (by have:=aU (h.nm.ok.ok x hx);omega) hW
  obtain ⟨e1,e2⟩:=par_all (h.nm.ok.ok x hx)
  rw [e1,e2] at h1
  exact h1
 clear h km hus hq hM hpl
 go_enter Tryz.func47,Tryz.ntmps47
 go_wp2_with (first
  | ((with_reducible refine aa (some 8) (.makeMap 89 none) ?_);refine cq hm ?_;clear hm;intro w1 mk hmap hwm hm;have HK1:Hid (KM Tryz.prog 9 w1 mk 0 (KdK p (fun _=>false))):=(KM.new hmap).same (kdK_start p);clear hmap)
  | ((with_reducible refine aa (some 12) (.load 26 (.tmp 11)) ?_);go_must (refine ab (.pointer (some ⟨nb,0,none⟩)) rfl (ae 0 (.pointer (some ⟨nb,0,none⟩)) (Row.bel HL.out hm.below) rfl cb rfl) ?_))
  | ((with_reducible refine aa (some 15) (.load 67 (.tmp 14)) ?_);go_must (refine ab (.map (some m)) rfl (ae 0 (.map (some m)) ((HR.out.below hm.below).row) rfl bS rfl) ?_))
  | ((with_reducible refine aa (some 16) (.range 67 (.tmp 15)) ?_);go_must (refine bH (HKM.out.below hm.below) az bw rfl ?_);intro w2 r D hrg hD hb2 hr1 hr2))
 go_frame
 have hw1:=hm.size
 have hz2:=hb2.size
 have hrB:r<w2.heap.size:=hr2
 have hwr:w.heap.size≤r:=by omega
 have HM0:Hid (Mem w [] w2 []):=(hm.call hb2).weak
 have HLP:Hid (w2.ranges Tryz.prog 63 rdV m r q D (Maps.has D) (Maps.size D)∧Vis p (fun _=>false) D (Maps.has D)∧KMD Tryz.prog 63 D (NmK p)):=⟨hrg,Vis.start hD,hD⟩
 have HK2:Hid (KM Tryz.prog 9 w2 mk 0 (KdK p (fun _=>false))):=HK1.out.below hb2
 have HRK:Hid (some r≠some mk):=by have h9:r≠mk:=(by have:=HK1.out.lt;omega);exact fun e=>h9 (Option.some.inj e)
 have HMK:Hid (some m≠some mk):=by have h9:m≠mk:=(by have:=HR.out.lt;omega);exact fun e=>h9 (Option.some.inj e)
 clear hm hb2 hrg hD hw1 hr1 hr2 hz2
 go_loopw [17] (fun _ wr=>∃(D:DataW Value) (V:List ByteArray→Bool) (left:Lit→Bool) (cnt:Nat) (qk:Nat),Hid (Mem w [] wr []∧(wr.ranges Tryz.prog 63 rdV m r q D left cnt∧Vis p V D left∧KMD Tryz.prog 63 D (NmK p))∧KM Tryz.prog 9 wr mk qk (KdK p V)∧qk+cnt≤q)) (fun _ wr=>wr.rangeLeft m r)
 case atStart=>exact ⟨D,_,_,_,0,HM0.out,HLP.out,HK2.out,by have:=cS HLP.out.1;omega⟩
 case round =>
  obtain ⟨D,V,left,cnt,qk,HALL⟩:=hrel
  have HMM:Hid (Mem w [] wr []):=HALL.out.1
  have HLW:Hid (wr.ranges Tryz.prog 63 rdV m r q D left cnt∧Vis p V D left∧KMD Tryz.prog 63 D (NmK p)):=HALL.out.2.1
  have HKQ:Hid (KM Tryz.prog 9 wr mk qk (KdK p V)∧qk+cnt≤q):=HALL.out.2.2
  have HKK:Hid (KM Tryz.prog 9 wr mk qk (KdK p V)):=HKQ.out.1
  have hqk:qk+cnt≤q:=HKQ.out.2
  clear HALL HKQ
  rcases World.ranges.next HLW.out.1 az 0 with ⟨h0,hl0,hrun⟩|⟨key,vv,kl,yv,w3,cnt',hkey,hlk,hv,hat,hrun,hrg1,hlt,hgr1,hsz,hen⟩
  ·have HRUN:Hid ((Instr.next (.pointer (some ⟨r,0,none⟩)) false 0).run Tryz.prog wr=.ok (.tuple #[.bool false]) wr):=hrun
   have HDONE:Hid (∀x∈p,V x.1=true):=HLW.out.2.1.done HOK.out hl0
   clear hrun hl0 h0
   have hm:=HMM.out
   go_wp2_with (first
    | ((with_reducible refine aa (some 17) (.next (.tmp 16) false) ?_);go_must (refine ao HRUN.out rfl ?_)))
   go_ret
   exact ⟨mk,qk,V,rfl,hwm,HDONE.out,HKK.out,hm.below⟩
  ·have hx9:=HLW.out.2.2.val hkey (HLW.out.2.1.sub kl hlk) hv hat
   obtain ⟨x0,hx0,rfl,rfl⟩:=hx9
   obtain ⟨y0,a1,a2,a3,a4,a5,a6,hsp,hy0,ha1,ha2,ha3,ha4,ha5,ha6⟩:=bU x0
   have HSP:Hid (∀_:Unit,spw x0=[Value.string y0,.int .i64 a1,.int .i64 a2,.int .i64 a3,.int .i64 a4,.int .i64 a5,.int .i64 a6]):=fun _=>hsp
   have HE:Hid (∀_:Unit,y0=tx x0.1∧a1=lmB x0∧a2=lmE x0∧a3=usB x0∧a4=usE x0∧a5=owB x0∧a6=owE x0):=fun _=>⟨hy0,ha1,ha2,ha3,ha4,ha5,ha6⟩
   rw [hsp] at hrun hen
   have HX0:Hid (x0∈p):=hx0
   have HRUN:Hid ((Instr.next (.pointer (some ⟨r,0,none⟩)) false 0).run Tryz.prog wr=.ok (.tuple #[.bool true,.agg (pvv x0.1).toArray,.agg ([Value.string y0,.int .i64 a1,.int .i64 a2,.int .i64 a3,.int .i64 a4,.int .i64 a5,.int .i64 a6]).toArray]) w3):=hrun
   have HEN:Hid ((Instr.entry (.pointer (some ⟨r,0,none⟩))).run Tryz.prog w3=.ok (.tuple #[.agg (pvv x0.1).toArray,.agg ([Value.string y0,.int .i64 a1,.int .i64 a2,.int .i64 a3,.int .i64 a4,.int .i64 a5,.int .i64 a6]).toArray]) w3):=hen
   have HRG:Hid (w3.ranges Tryz.prog 63 rdV m r q D (fun z=>left z && !z.sameKey kl) cnt'):=hrg1
   have HKEY:Hid (keyOf Tryz.prog 63 (.agg (pvv x0.1).toArray)=some kl∧left kl=true):=⟨hkey,hlk⟩
   have HM3:Hid (Mem w [] w3 []):=HMM.out.updI (by obtain ⟨a,b,c,h⟩:=bz HLW.out.1;exact ⟨_,a,b,c,h⟩) (Or.inr hwr) (Upd.of_grown hgr1)
   have hm:=Mem.start w3
   have HKK3:KM Tryz.prog 9 w3 mk qk (KdK p V):=HKK.out.upd (Upd.of_grown hgr1) (fun e=>HRK.out (by rw [e]))
   clear hrun hen hrg1 hkey hlk hv hat hsz hsp hy0 ha1 ha2 ha3 ha4 ha5 ha6 hx0 hgr1
   have HX3:Hid (MaxL w3):=HM.out.below HM3.out.below
   have HVF:Hid (V x0.1=false):=HLW.out.2.1.fresh HX0.out HKEY.out.1 HKEY.out.2
   obtain ⟨t0,ht0⟩:∃t,t=tx x0.1.dropLast:=⟨_,rfl⟩
   obtain ⟨ok,hok⟩:∃z,z = !decide (x0.1=[]):=⟨_,rfl⟩
   have HPA:Hid (∀W,MaxL W→Calls Tryz.prog 25 #[.string y0] W fun e w'=>e=.returned (.tuple #[.string t0,.bool ok])∧Below W.heap.size W w'):=fun W hW=>by rw [(HE.out ()).1,ht0,hok];exact HPAR.out x0 HX0.out W hW
   have HT0:Hid (t0=tx x0.1.dropLast):=ht0
   have HK3:Hid (KM Tryz.prog 9 w3 mk qk (KdK p V)):=HKK3
   clear HKK3
   cases ok with
   | false =>
    have HZ:Hid (x0.1=[]):=by have h9:x0.1=[]:=(by simpa using hok);exact h9
    clear hok ht0
    go_wp2_with (first
     | ((with_reducible refine aa (some 17) (.next (.tmp 16) false) ?_);go_must (refine ao HRUN.out rfl ?_))
     | ((with_reducible refine aa (some 19) (.entry (.tmp 16)) ?_);go_must (refine ab (.tuple #[.agg (pvv x0.1).toArray,.agg ([Value.string y0,.int .i64 a1,.int .i64 a2,.int .i64 a3,.int .i64 a4,.int .i64 a5,.int .i64 a6]).toArray]) rfl (ay HEN.out rfl) ?_))
     | ((with_reducible refine aa (some 5) (.alloc 66) ?_);refine ad _ a7 hm ?_;clear hm;intro w5 g5 hm)
     | ((with_reducible refine aa none (.store 66 (.tmp 5) (.tmp 20)) ?_);refine af 0 ([Value.string y0,.int .i64 a1,.int .i64 a2,.int .i64 a3,.int .i64 a4,.int .i64 a5,.int .i64 a6]) hm rfl rfl rfl 7 bG rfl rfl (bC _ _ _ _ _ _ _) ?_;clear hm;intro w6 hm)
     | ((with_reducible refine aa (some 24) (.load 9 (.tmp 23)) ?_);refine an 0 0 (.string y0) hm rfl rfl aC (rfl) ?_)
     | (go_at_call 25;refine (HPA.out _ (HX3.out.below hm.below)).mono ?_;rintro e w' ⟨he,hb⟩;subst he;replace hm:=hm.call hb;clear hb))
    try go_simp
    go_roundw
    case rel =>
     exact ⟨D,addV V x0.1,_,cnt',qk,HM3.out.call hm.below,⟨HRG.out.kept (ah hm.below) (by simp) (by simp),HLW.out.2.1.next HOK.out HX0.out HKEY.out.1,HLW.out.2.2⟩,(HK3.out.below hm.below).same (kdK_root HZ.out),by omega⟩
    case measure =>
     rw [(HRG.out.kept (ah hm.below) (by simp) (by simp)).left_eq,HLW.out.1.left_eq]
     exact hlt
   | true =>
    have HZ:Hid (x0.1≠[]):=by have h9:x0.1≠[]:=(by simpa using hok);exact h9
    obtain ⟨c1,hc1⟩:∃z,z=kS usB p V t0:=⟨_,rfl⟩
    obtain ⟨c2,hc2⟩:∃z,z=kS usE p V t0:=⟨_,rfl⟩
    have HC:Hid (∀_:Unit,c1=kS usB p V t0∧c2=kS usE p V t0):=fun _=>⟨hc1,hc2⟩
    have HT9:Hid (t0.size≤1000):=by have:=aU (HOK.out.ok x0 HX0.out).drop;rw [ht0];exact Nat.le_trans this (by omega)
    obtain ⟨⟨b1,b2⟩,b3,b4⟩:=HUS.out x0 HX0.out
    rw [←(HE.out ()).2.2.2.1] at b1 b2
    rw [←(HE.out ()).2.2.2.2.1] at b3 b4
    obtain ⟨⟨d1,d2⟩,d3,d4⟩:=HKB.out V t0
    rw [←hc1] at d1 d2
    rw [←hc2] at d3 d4
    have HPL:Hid (∀W,Calls Tryz.prog 48 #[.agg (sm c1 c2).toArray,.agg (sm a3 a4).toArray] W fun e_ w'=>e_=.returned (.agg (sm (c1+a3) (c2+a4)).toArray)∧Below W.heap.size W w'):=fun W=>plus_q c1 c2 a3 a4 _ _ (be _ (by omega) (by omega)) (be _ (by omega) (by omega)) W
    obtain ⟨kt,hkt⟩:=str_key HT9.out
    have HKT:Hid (keyOf Tryz.prog 9 (.string t0)=some kt):=hkt
    have HPUT:Hid (∀k v,putK (KdK p V) (.string t0) (.agg (sm (c1+a3) (c2+a4)).toArray) k v↔KdK p (addV V x0.1) k v):=fun k v=>by
     have h9:=kdK_put HOK.out HX0.out HVF.out HZ.out k v
     rw [←HT0.out,←hc1,←hc2,←(HE.out ()).2.2.2.1,←(HE.out ()).2.2.2.2.1] at h9
     exact h9
    clear hok ht0 hc1 hc2 hkt b1 b2 b3 b4 d1 d2 d3 d4
    go_wp2_with (first
     | ((with_reducible refine aa (some 17) (.next (.tmp 16) false) ?_);go_must (refine ao HRUN.out rfl ?_))
     | ((with_reducible refine aa (some 19) (.entry (.tmp 16)) ?_);go_must (refine ab (.tuple #[.agg (pvv x0.1).toArray,.agg ([Value.string y0,.int .i64 a1,.int .i64 a2,.int .i64 a3,.int .i64 a4,.int .i64 a5,.int .i64 a6]).toArray]) rfl (ay HEN.out rfl) ?_))
     | ((with_reducible refine aa (some 5) (.alloc 66) ?_);refine ad _ a7 hm ?_;clear hm;intro w5 g5 hm)
     | ((with_reducible refine aa none (.store 66 (.tmp 5) (.tmp 20)) ?_);refine af 0 ([Value.string y0,.int .i64 a1,.int .i64 a2,.int .i64 a3,.int .i64 a4,.int .i64 a5,.int .i64 a6]) hm rfl rfl rfl 7 bG rfl rfl (bC _ _ _ _ _ _ _) ?_;clear hm;intro w6 hm)
     | ((with_reducible refine aa (some 24) (.load 9 (.tmp 23)) ?_);refine an 0 0 (.string y0) hm rfl rfl aC (rfl) ?_)
     | (go_at_call 25;refine (HPA.out _ (HX3.out.below hm.below)).mono ?_;rintro e w' ⟨he,hb⟩;subst he;replace hm:=hm.call hb;clear hb)
     | ((with_reducible refine aa (some 33) (.lookup 89 (.tmp 31) (.tmp 32) false) ?_);go_must (refine ab (.agg (sm c1 c2).toArray) rfl (bO (by rw [(HC.out ()).1,(HC.out ()).2];exact kdK_look (HK3.out.below hm.below) HT9.out) rfl rfl) ?_))
     | ((with_reducible refine aa (some 36) (.load 3 (.tmp 35)) ?_);refine an 0 3 (.int .i64 a3) hm rfl rfl am (rfl) ?_)
     | ((with_reducible refine aa (some 39) (.load 3 (.tmp 38)) ?_);refine an 0 4 (.int .i64 a4) hm rfl rfl am (rfl) ?_)
     | ((with_reducible refine aa (some 40) (.build 75 #[(0,.tmp 36),(1,.tmp 39)]) ?_);refine ap (sm a3 a4) [(0,.int .i64 a3),(1,.int .i64 a4)] rfl (bg _ _) ?_)
     | (go_at_call 48;refine (HPL.out _).mono ?_;rintro e w' ⟨he,hb⟩;subst he;replace hm:=hm.call hb;clear hb)
     | ((with_reducible refine aa none (.mapUpdate 89 (.tmp 29) (.tmp 30) (.tmp 41)) ?_);refine cW (HK3.out.below hm.below) str_law un_mk (by omega) HKT.out rfl rfl rfl ?_;intro w9 km9 hu9;have HK9:Hid (KM Tryz.prog 9 w9 mk (qk+1) (KdK p (addV V x0.1))):=km9.same HPUT.out;have HU9:Hid (Upd mk _ w9):=hu9;clear km9 hu9))
    try go_simp
    go_roundw
    case rel =>
     obtain ⟨es9,c9,hes9⟩:=(HK3.out.below hm.below).isMap
     refine ⟨D,addV V x0.1,_,cnt',qk+1,(HM3.out.call hm.below).updO hes9 (Or.inr hwm) HU9.out,⟨(HRG.out.kept (ah hm.below) (by simp) (by simp)).kept (bY HU9.out) (HMK.out) (HRK.out),HLW.out.2.1.next HOK.out HX0.out HKEY.out.1,HLW.out.2.2⟩,HK9.out,by omega⟩
    case measure =>
     rw [((HRG.out.kept (ah hm.below) (by simp) (by simp)).kept (bY HU9.out) (HMK.out) (HRK.out)).left_eq,HLW.out.1.left_eq]
     exact hlt
open Go Go.RowKit Go.Maps
theorem eg_qs:Tryz.prog.eqGuardType Tryz.prog.depth 75=false:=by kernel_rfl
theorem equal_sm (a b a' b':Int) (w:World):(Op.equalIn 10000 75 (.agg (sm a b).toArray) (.agg (sm a' b').toArray)).run Tryz.prog w=.ok (a==a'&&b==b') w:=by
 have u4:=Tryz.underlying3
 have a4:=Tryz.isAgg3
 have z4:=Tryz.sizeOf3
 have hS:Tryz.prog.underlying 75=some (.struct (Tryz.prog.fieldsOf 75)):=by kernel_rfl
 have hp:Tryz.prog.stoodInHeld 75=false:=by kernel_rfl
 show (Op.equalIn 10000 75 (.agg #[.int .i64 a,.int .i64 b]) (.agg #[.int .i64 a',.int .i64 b'])).run Tryz.prog w=_
 rw [show (10000:Nat)=9999+1 from rfl,run_equalIn_agg w 9999 75 _ _ hS hp]
 simp only [Program.fieldsOf,Tryz.underlying75]
 go_simp
 by_cases h1:a=a'<;>by_cases h2:b=b'<;>simp [h1,h2]
section
variable {a:Act} {w:World} {dst:Option Tmp} {typ:TypeId} {pos:String} {aft:Array Edge} {gd:Option (Nat×Bool)}
theorem exec_neQ {x y:Operand} {rt:TypeId} (u v:Int) (hx:a.eval x=.agg (sm u v).toArray) (hy:a.eval y=.agg (sm u v).toArray) :
  (execOp a.eval {dst:=dst,op:=.binOp .neq 75 x y rt,type:=typ,pos:=pos,after:=aft,guard:=gd}).run Tryz.prog w=.ok (.value (.bool false)) w:=by
 unfold execOp
 simp only [hx,hy,Sem.run_bind,run_eqGuard_agg w .neq 75 x y _ _ eg_qs,Sem.run_pure,Result.andThen_ok,run_neq_struct,equal_sm u v u v w,beq_self_eq_true,Bool.and_self]
 rfl
theorem exec_gtF {x y:Operand} {rt:TypeId} (u v:Int) (h:u≤v) (hx:a.eval x=.int .i64 u) (hy:a.eval y=.int .i64 v) :
  (execOp a.eval {dst:=dst,op:=.binOp .gtr 3 x y rt,type:=typ,pos:=pos,after:=aft,guard:=gd}).run Tryz.prog w=.ok (.value (.bool false)) w:=by
 unfold execOp
 simp only [hx,hy]
 simp [eqGuard,binOp,go_sem,h]
end
theorem check_l {w:World} {lb nb m c:Nat} {p:Nms} {oB oE:List ByteArray→Int} (h:LgAt w lb nb m c p) (hcc:c≤90000) (hM:MaxL w) (hQ:QtOk p oB oE) (hpl:p.length≤90000) :
  Calls Tryz.prog 24 #[.pointer (some ⟨lb,0,none⟩)] w fun e w'=>e=.returned (.bool true)∧Below w.heap.size w w':=by
 have hm:=Mem.start w
 have HUS:Hid (∀x∈p,(0≤usB x∧usB x≤1000000)∧0≤usE x∧usE x≤1000000):=fun x hx=>by have:=hQ.bounds hx;omega
 have HLIM:Hid (∀x∈p,usB x≤lmB x∧usE x≤lmE x):=hQ.lim
 have HKI:Hid (∀W,Below w.heap.size w W→Calls Tryz.prog 47 #[.pointer (some ⟨lb,0,none⟩)] W fun e w'=>∃mk qk V,e=.returned (.map (some mk))∧W.heap.size≤mk∧(∀x∈p,V x.1=true)∧KM Tryz.prog 9 w' mk qk (KdK p V)∧Below W.heap.size W w'):=fun W hW=>kids_l (h.below hW) hcc (hM.below hW) HUS.out hpl
 have HSU:Hid (∀V:List ByteArray→Bool,(∀x∈p,V x.1=true)→∀x∈p,usB x=owB x+kS usB p V (tx x.1)∧usE x=owE x+kS usE p V (tx x.1)):=fun V hV x hx=>by
  have hk:=h.nm.ok.ok x hx
  rw [kS_all h.nm.ok hV hk,kS_all h.nm.ok hV hk,(hQ.ow x hx).1,(hQ.ow x hx).2]
  exact hQ.own_is hx
 have HH:Hid (LgAt w lb nb m c p):=h
 clear h hM hQ hpl
 go_enter Tryz.func24,Tryz.ntmps24
 go_wp2_with (first
  | (go_at_call 47;refine (HKI.out _ hm.below).mono ?_;rintro e wk ⟨mk,qk,Vk,he,hmk,hV,hkm,hb⟩;subst he;have HKW:Hid (KM Tryz.prog 9 wk mk qk (KdK p Vk)):=hkm;have HSUM:Hid (∀x∈p,usB x=owB x+kS usB p Vk (tx x.1)∧usE x=owE x+kS usE p Vk (tx x.1)):=HSU.out Vk hV;have HB0:Hid (Below w.heap.size w wk):=hm.below.trans (hb.mono hm.size);have HL:Hid (Row wk lb [.pointer (some ⟨nb,0,none⟩)] 60):=(HH.out.below HB0.out).row;have HR:Hid (NmAt wk nb m c p):=(HH.out.below HB0.out).nm;have HOK:Hid (NmOk p):=HR.out.ok;obtain ⟨q,hq,km⟩:=HR.out.map;have HKM:Hid (KM Tryz.prog 63 wk m q (NmK p)):=km;clear hm;have hm:=Mem.start wk;clear hkm hV hb km hq hmk)
  | ((with_reducible refine aa (some 12) (.load 26 (.tmp 11)) ?_);go_must (refine ab (.pointer (some ⟨nb,0,none⟩)) rfl (ae 0 (.pointer (some ⟨nb,0,none⟩)) (Row.bel HL.out hm.below) rfl cb rfl) ?_))
  | ((with_reducible refine aa (some 15) (.load 67 (.tmp 14)) ?_);go_must (refine ab (.map (some m)) rfl (ae 0 (.map (some m)) ((HR.out.below hm.below).row) rfl bS rfl) ?_))
  | ((with_reducible refine aa (some 16) (.range 67 (.tmp 15)) ?_);go_must (refine bH (HKM.out.below hm.below) az bw rfl ?_);intro w2 r D hrg hD hb2 hr1 hr2))
 go_frame
 have hw1:=hm.size
 have hz2:=hb2.size
 have hrB:r<w2.heap.size:=hr2
 have hwr:wk.heap.size≤r:=by omega
 have HM0:Hid (Mem wk [] w2 []):=(hm.call hb2).weak
 have HLP:Hid (w2.ranges Tryz.prog 63 rdV m r q D (Maps.has D) (Maps.size D)∧Vis p (fun _=>false) D (Maps.has D)∧KMD Tryz.prog 63 D (NmK p)):=⟨hrg,Vis.start hD,hD⟩
 clear hm hb2 hrg hD hw1 hr1 hr2 hz2
 go_loopw [17] (fun _ wr=>∃(D:DataW Value) (V:List ByteArray→Bool) (left:Lit→Bool) (cnt:Nat),Hid (Mem wk [] wr []∧(wr.ranges Tryz.prog 63 rdV m r q D left cnt∧Vis p V D left∧KMD Tryz.prog 63 D (NmK p))∧True)) (fun _ wr=>wr.rangeLeft m r)
 case atStart=>exact ⟨D,_,_,_,HM0.out,HLP.out,trivial⟩
 case round =>
  obtain ⟨D,V,left,cnt,HALL⟩:=hrel
  have HMM:Hid (Mem wk [] wr []):=HALL.out.1
  have HLW:Hid (wr.ranges Tryz.prog 63 rdV m r q D left cnt∧Vis p V D left∧KMD Tryz.prog 63 D (NmK p)):=HALL.out.2.1
  clear HALL
  rcases World.ranges.next HLW.out.1 az 0 with ⟨h0,hl0,hrun⟩|⟨key,vv,kl,yv,w3,cnt',hkey,hlk,hv,hat,hrun,hrg1,hlt,hgr1,hsz,hen⟩
  ·have HRUN:Hid ((Instr.next (.pointer (some ⟨r,0,none⟩)) false 0).run Tryz.prog wr=.ok (.tuple #[.bool false]) wr):=hrun
   have HDONE:Hid (∀x∈p,V x.1=true):=HLW.out.2.1.done HOK.out hl0
   clear hrun hl0 h0
   have hm:=HMM.out
   go_wp2_with (first
    | ((with_reducible refine aa (some 17) (.next (.tmp 16) false) ?_);go_must (refine ao HRUN.out rfl ?_)))
   go_ret
   exact ⟨rfl,HB0.out.trans (hm.below.mono HB0.out.size)⟩
  ·have hx9:=HLW.out.2.2.val hkey (HLW.out.2.1.sub kl hlk) hv hat
   obtain ⟨x0,hx0,rfl,rfl⟩:=hx9
   obtain ⟨y0,a1,a2,a3,a4,a5,a6,hsp,hy0,ha1,ha2,ha3,ha4,ha5,ha6⟩:=bU x0
   have HSP:Hid (∀_:Unit,spw x0=[Value.string y0,.int .i64 a1,.int .i64 a2,.int .i64 a3,.int .i64 a4,.int .i64 a5,.int .i64 a6]):=fun _=>hsp
   have HE:Hid (∀_:Unit,y0=tx x0.1∧a1=lmB x0∧a2=lmE x0∧a3=usB x0∧a4=usE x0∧a5=owB x0∧a6=owE x0):=fun _=>⟨hy0,ha1,ha2,ha3,ha4,ha5,ha6⟩
   rw [hsp] at hrun hen
   have HX0:Hid (x0∈p):=hx0
   have HRUN:Hid ((Instr.next (.pointer (some ⟨r,0,none⟩)) false 0).run Tryz.prog wr=.ok (.tuple #[.bool true,.agg (pvv x0.1).toArray,.agg ([Value.string y0,.int .i64 a1,.int .i64 a2,.int .i64 a3,.int .i64 a4,.int .i64 a5,.int .i64 a6]).toArray]) w3):=hrun
   have HEN:Hid ((Instr.entry (.pointer (some ⟨r,0,none⟩))).run Tryz.prog w3=.ok (.tuple #[.agg (pvv x0.1).toArray,.agg ([Value.string y0,.int .i64 a1,.int .i64 a2,.int .i64 a3,.int .i64 a4,.int .i64 a5,.int .i64 a6]).toArray]) w3):=hen
   have HRG:Hid (w3.ranges Tryz.prog 63 rdV m r q D (fun z=>left z && !z.sameKey kl) cnt'):=hrg1
   have HKEY:Hid (keyOf Tryz.prog 63 (.agg (pvv x0.1).toArray)=some kl∧left kl=true):=⟨hkey,hlk⟩
   have HM3:Hid (Mem wk [] w3 []):=HMM.out.updI (by obtain ⟨a,b,c,h⟩:=bz HLW.out.1;exact ⟨_,a,b,c,h⟩) (Or.inr hwr) (Upd.of_grown hgr1)
   have hm:=Mem.start w3
   clear hrun hen hrg1 hkey hlk hv hat hsz hsp hy0 ha1 ha2 ha3 ha4 ha5 ha6 hx0 hgr1
   obtain ⟨c1,hc1⟩:∃z,z=kS usB p Vk (tx x0.1):=⟨_,rfl⟩
   obtain ⟨c2,hc2⟩:∃z,z=kS usE p Vk (tx x0.1):=⟨_,rfl⟩
   have HLK:Hid (∀W,Below w3.heap.size w3 W→(Instr.lookup 89 (.map (some mk)) (.string y0) false).run Tryz.prog W=.ok (.agg (sm c1 c2).toArray) W):=fun W hW=>by
    rw [hc1,hc2,(HE.out ()).1]
    exact kdK_look ((HKW.out.below HM3.out.below).below hW) (by have:=aU (HOK.out.ok x0 HX0.out);omega)
   obtain ⟨s1,s2⟩:=HSUM.out x0 HX0.out
   obtain ⟨⟨b1,b2⟩,b3,b4⟩:=HUS.out x0 HX0.out
   obtain ⟨hl1,hl2⟩:=HLIM.out x0 HX0.out
   obtain ⟨-,f1,f2,f3,f4,f5,f6⟩:=HE.out ()
   rw [←f3,←f5,←hc1] at s1
   rw [←f4,←f6,←hc2] at s2
   rw [←f3] at b1 b2
   rw [←f4] at b3 b4
   rw [←f3,←f1] at hl1
   rw [←f4,←f2] at hl2
   have HPL:Hid (∀W,Calls Tryz.prog 48 #[.agg (sm a5 a6).toArray,.agg (sm c1 c2).toArray] W fun e_ w'=>e_=.returned (.agg (sm a3 a4).toArray)∧Below W.heap.size W w'):=fun W=>plus_q a5 a6 c1 c2 a3 a4 ((be _ (by omega) (by omega)).trans s1.symm) ((be _ (by omega) (by omega)).trans s2.symm) W
   clear hc1 hc2 s1 s2 b1 b2 b3 b4 f1 f2 f3 f4 f5 f6
   go_wp2_with (first
    | ((with_reducible refine aa (some 17) (.next (.tmp 16) false) ?_);go_must (refine ao HRUN.out rfl ?_))
    | ((with_reducible refine aa (some 19) (.entry (.tmp 16)) ?_);go_must (refine ab (.tuple #[.agg (pvv x0.1).toArray,.agg ([Value.string y0,.int .i64 a1,.int .i64 a2,.int .i64 a3,.int .i64 a4,.int .i64 a5,.int .i64 a6]).toArray]) rfl (ay HEN.out rfl) ?_))
    | ((with_reducible refine aa (some 5) (.alloc 66) ?_);refine ad _ a7 hm ?_;clear hm;intro w5 g5 hm)
    | ((with_reducible refine aa none (.store 66 (.tmp 5) (.tmp 20)) ?_);refine af 0 ([Value.string y0,.int .i64 a1,.int .i64 a2,.int .i64 a3,.int .i64 a4,.int .i64 a5,.int .i64 a6]) hm rfl rfl rfl 7 bG rfl rfl (bC _ _ _ _ _ _ _) ?_;clear hm;intro w6 hm)
    | ((with_reducible refine aa (some 22) (.load 3 (.tmp 21)) ?_);refine an 0 5 (.int .i64 a5) hm rfl rfl am (rfl) ?_)
    | ((with_reducible refine aa (some 24) (.load 3 (.tmp 23)) ?_);refine an 0 6 (.int .i64 a6) hm rfl rfl am (rfl) ?_)
    | ((with_reducible refine aa (some 25) (.build 75 #[(0,.tmp 22),(1,.tmp 24)]) ?_);refine ap (sm a5 a6) [(0,.int .i64 a5),(1,.int .i64 a6)] rfl (bg _ _) ?_)
    | ((with_reducible refine aa (some 6) (.alloc 75) ?_);refine ad _ aM hm ?_;clear hm;intro w7 g6 hm)
    | ((with_reducible refine aa none (.store 75 (.tmp 6) (.tmp 25)) ?_);refine af 0 (sm a5 a6) hm rfl rfl rfl 2 aF rfl rfl (a8 _ _) ?_;clear hm;intro w8 hm))
   refine ak ?_
   refine ag (T:=fun W=>Mem w3 [] W [(g6,sm a5 a6,75),(g5,[Value.string y0,.int .i64 a1,.int .i64 a2,.int .i64 a3,.int .i64 a4,.int .i64 a5,.int .i64 a6],66)]) (by kernel_rfl) hm ?_
   intro wc hbw hmw
   clear hm
   have hm:=hmw
   clear hbw hmw
   refine aT 0 (v:=.agg (sm a5 a6).toArray) rfl (by kernel_rfl) rfl (fun W hW=>ai 0 (sm a5 a6) (Mem.get hW 0 rfl) rfl _ bm rfl 2 aF (Nat.le_refl 2) rfl) hm ?_
   go_simp
   refine aT 1 (v:=.map (some mk)) rfl (by kernel_rfl) rfl (fun W _=>by go_simp) hm ?_
   go_simp
   refine aT 2 (v:=.pointer (some ⟨g5,0,none⟩)) rfl (by kernel_rfl) rfl (fun W _=>by go_simp) hm ?_
   go_simp
   refine aT 3 (v:=.pointer (some ⟨g5,0,none⟩)) rfl (by kernel_rfl) rfl (fun W _=>by go_simp) hm ?_
   go_simp
   refine aT 4 (v:=.string y0) rfl (by kernel_rfl) rfl (fun W hW=>ae 0 (.string y0) (Mem.get hW 1 rfl) rfl aC rfl) hm ?_
   go_simp
   refine aT 5 (v:=.agg (sm c1 c2).toArray) rfl (by kernel_rfl) rfl (fun W hW=>bO (HLK.out W hW.below) rfl rfl) hm ?_
   go_simp
   refine aT 7 (v:=.pointer (some ⟨g5,0,none⟩)) rfl (by kernel_rfl) rfl (fun W _=>by go_simp) hm ?_
   go_simp
   refine aT 8 (v:=.pointer (some ⟨g5,3,none⟩)) rfl (by kernel_rfl) rfl (fun W _=>by go_simp) hm ?_
   go_simp
   refine aT 9 (v:=.int .i64 a3) rfl (by kernel_rfl) rfl (fun W hW=>ae 3 (.int .i64 a3) (Mem.get hW 1 rfl) rfl am rfl) hm ?_
   go_simp
   refine aT 10 (v:=.pointer (some ⟨g5,0,none⟩)) rfl (by kernel_rfl) rfl (fun W _=>by go_simp) hm ?_
   go_simp
   refine aT 11 (v:=.pointer (some ⟨g5,4,none⟩)) rfl (by kernel_rfl) rfl (fun W _=>by go_simp) hm ?_
   go_simp
   refine aT 12 (v:=.int .i64 a4) rfl (by kernel_rfl) rfl (fun W hW=>ae 4 (.int .i64 a4) (Mem.get hW 1 rfl) rfl am rfl) hm ?_
   go_simp
   refine aT 13 (v:=.agg (sm a3 a4).toArray) rfl (by kernel_rfl) rfl (fun W _=>bN _ [(0,.int .i64 a3),(1,.int .i64 a4)] (by go_simp) (bg a3 a4)) hm ?_
   go_simp
   refine aO 6 (by kernel_rfl) rfl rfl ?_
   intro K hK
   go_wp2_with (go_at_call 48;refine (HPL.out _).mono ?_;rintro e w' ⟨he,hb⟩;subst he;replace hm:=hm.call hb;clear hb)
   refine hK _ _ hm ?_
   clear hK K
   go_simp
   refine aT 14 (v:=.bool false) rfl (by kernel_rfl) rfl (fun W _=>exec_neQ a3 a4 rfl rfl) hm ?_
   go_simp
   refine aT 15 (v:=.bool false) rfl (by kernel_rfl) rfl (fun W _=>by go_simp) hm ?_
   go_simp
   refine aG 16 (v:=.pointer (some ⟨g5,0,none⟩)) rfl (by kernel_rfl) rfl (fun W _=>by go_simp) hm ?_
   go_simp
   refine aG 17 (v:=.pointer (some ⟨g5,3,none⟩)) rfl (by kernel_rfl) rfl (fun W _=>by go_simp) hm ?_
   go_simp
   refine aG 18 (v:=.int .i64 a3) rfl (by kernel_rfl) rfl (fun W hW=>ae 3 (.int .i64 a3) (Mem.get hW 1 rfl) rfl am rfl) hm ?_
   go_simp
   refine aG 19 (v:=.pointer (some ⟨g5,0,none⟩)) rfl (by kernel_rfl) rfl (fun W _=>by go_simp) hm ?_
   go_simp
   refine aG 20 (v:=.pointer (some ⟨g5,1,none⟩)) rfl (by kernel_rfl) rfl (fun W _=>by go_simp) hm ?_
   go_simp
   refine aG 21 (v:=.int .i64 a1) rfl (by kernel_rfl) rfl (fun W hW=>ae 1 (.int .i64 a1) (Mem.get hW 1 rfl) rfl am rfl) hm ?_
   go_simp
   refine aG 22 (v:=.bool false) rfl (by kernel_rfl) rfl (fun W _=>exec_gtF a3 a1 hl1 rfl rfl) hm ?_
   go_simp
   refine aT 23 (v:=.bool false) rfl (by kernel_rfl) rfl (fun W _=>by go_simp) hm ?_
   go_simp
   refine aT 24 (v:=.bool false) rfl (by kernel_rfl) rfl (fun W _=>by go_simp) hm ?_
   go_simp
   refine aG 25 (v:=.pointer (some ⟨g5,0,none⟩)) rfl (by kernel_rfl) rfl (fun W _=>by go_simp) hm ?_
   go_simp
   refine aG 26 (v:=.pointer (some ⟨g5,4,none⟩)) rfl (by kernel_rfl) rfl (fun W _=>by go_simp) hm ?_
   go_simp
   refine aG 27 (v:=.int .i64 a4) rfl (by kernel_rfl) rfl (fun W hW=>ae 4 (.int .i64 a4) (Mem.get hW 1 rfl) rfl am rfl) hm ?_
   go_simp
   refine aG 28 (v:=.pointer (some ⟨g5,0,none⟩)) rfl (by kernel_rfl) rfl (fun W _=>by go_simp) hm ?_
   go_simp
   refine aG 29 (v:=.pointer (some ⟨g5,2,none⟩)) rfl (by kernel_rfl) rfl (fun W _=>by go_simp) hm ?_
   go_simp
   refine aG 30 (v:=.int .i64 a2) rfl (by kernel_rfl) rfl (fun W hW=>ae 2 (.int .i64 a2) (Mem.get hW 1 rfl) rfl am rfl) hm ?_
   go_simp
   refine aG 31 (v:=.bool false) rfl (by kernel_rfl) rfl (fun W _=>exec_gtF a4 a2 hl2 rfl rfl) hm ?_
   go_simp
   refine aT 32 (v:=.bool false) rfl (by kernel_rfl) rfl (fun W _=>by go_simp) hm ?_
   go_simp
   refine wpAnyH_done (by kernel_rfl) ?_ _
   simp only [endsIn]
   go_wp2_with fail
   skip
   go_roundw
   case rel =>
    exact ⟨D,addV V x0.1,_,cnt',HM3.out.call hm.below,⟨HRG.out.kept (ah hm.below) (by simp) (by simp),HLW.out.2.1.next HOK.out HX0.out HKEY.out.1,HLW.out.2.2⟩,trivial⟩
   case measure =>
    rw [(HRG.out.kept (ah hm.below) (by simp) (by simp)).left_eq,HLW.out.1.left_eq]
    exact hlt
open Go Go.RowKit Go.Maps
structure QtS (w:World) (lb nb m c:Nat) (p:Nms) (oB oE:List ByteArray→Int):Prop where
 lg:LgAt w lb nb m c p
 qt:QtOk p oB oE
 mx:MaxL w
 m0:0<m
theorem QtS.below {w w':World} {lb nb m c:Nat} {p:Nms} {oB oE:List ByteArray→Int} (h:QtS w lb nb m c p oB oE) (hb:Below w.heap.size w w'):QtS w' lb nb m c p oB oE:=⟨h.lg.below hb,h.qt,h.mx.below hb,h.m0⟩
theorem QtS.isMap {w:World} {lb nb m c:Nat} {p:Nms} {oB oE:List ByteArray→Int} (h:QtS w lb nb m c p oB oE):∃es n,w.heap[m]?=some (.map es n):=h.lg.nm.isMap
theorem bE {w:World} {lb nb m c:Nat} {p:Nms} {oB oE:List ByteArray→Int} (h:QtS w lb nb m c p oB oE) (hc:c≤80000) (s:ByteArray) (b e r:Int) (hr:canE p oB oE s b e=r) (p':Nms) (oB' oE':List ByteArray→Int) (hp:(if r=0 then (chgN p (segsB s) (heldC b) (heldC e),upO oB (segsB s) (heldC b),upO oE (segsB s) (heldC e)) else (p,oB,oE))=(p',oB',oE')) :
  Calls Tryz.prog 12 #[.pointer (some ⟨lb,0,none⟩),.string s,.int .i64 b,.int .i64 e] w fun e_ w'=>e_=.returned (.int .i64 r)∧QtS w' lb nb m c p' oB' oE'∧Upd m w w':=by
 refine (charge_l h.lg hc h.mx h.qt h.m0 s b e r hr.symm).mono ?_
 rintro e_ w' ⟨rfl,hn,hu⟩
 refine ⟨rfl,?_,hu⟩
 by_cases h0:r=0
 ·rw [if_pos h0] at hn hp
  simp only [Prod.mk.injEq] at hp
  obtain ⟨rfl,rfl,rfl⟩:=hp
  exact ⟨h.lg.turn hu hn,h.qt.chargeE (hr.trans h0),h.mx.upd0 h.m0 hu,h.m0⟩
 ·rw [if_neg h0] at hn hp
  simp only [Prod.mk.injEq] at hp
  obtain ⟨rfl,rfl,rfl⟩:=hp
  exact ⟨h.lg.turn hu hn,h.qt,h.mx.upd0 h.m0 hu,h.m0⟩
theorem newL_s {nb m c:Nat} {p:Nms} {oB oE:List ByteArray→Int} (w:World) (h:NmAt w nb m c p) (hQ:QtOk p oB oE) (hM:MaxL w) (hm0:0<m) :
  Calls Tryz.prog 7 #[.pointer (some ⟨nb,0,none⟩)] w fun e w'=>∃lb,e=.returned (.pointer (some ⟨lb,0,none⟩))∧QtS w' lb nb m c p oB oE∧Below w.heap.size w w':=by
 refine (newL_q w h).mono ?_
 rintro e w' ⟨lb,rfl,_,hl,hb⟩
 exact ⟨lb,rfl,⟨hl,hQ,hM.below hb,hm0⟩,hb⟩
open Go Go.RowKit Go.Maps
def oZ:List ByteArray→Int:=fun _=>0
def pK0:Nms:=newN 10 10
def pK1:Nms:=addN pK0 (segsB ⟨#[97]⟩,5,5,0,0,0,0)
def pK2:Nms:=chgN pK1 (segsB ⟨#[97]⟩) (heldC 5) (heldC 1)
def bK2:List ByteArray→Int:=upO oZ (segsB ⟨#[97]⟩) (heldC 5)
def eK2:List ByteArray→Int:=upO oZ (segsB ⟨#[97]⟩) (heldC 1)
def pK3:Nms:=chgN pK2 (segsB ⟨#[]⟩) (heldC 5) (heldC 0)
def bK3:List ByteArray→Int:=upO bK2 (segsB ⟨#[]⟩) (heldC 5)
def eK3:List ByteArray→Int:=upO eK2 (segsB ⟨#[]⟩) (heldC 0)
theorem kQ0:addE pK0 ⟨#[97]⟩ 5 5=0:=by decide +kernel
theorem kQ1:canE pK1 oZ oZ ⟨#[97]⟩ 6 1=170:=by decide +kernel
theorem kQ2:canE pK1 oZ oZ ⟨#[97]⟩ 5 1=0:=by decide +kernel
theorem kQ3:canE pK2 bK2 eK2 ⟨#[]⟩ 6 0=170:=by decide +kernel
theorem kQ4:canE pK2 bK2 eK2 ⟨#[]⟩ 5 0=0:=by decide +kernel
theorem kQ5:canE pK3 bK3 eK3 ⟨#[97]⟩ (-6) 0=12:=by decide +kernel
theorem kQ6:canE pK3 bK3 eK3 ⟨#[113]⟩ 1 1=100:=by decide +kernel
theorem kQ7:canE pK3 bK3 eK3 ⟨#[97]⟩ 1 0=170:=by decide +kernel
theorem kQ8:owV bK3 pK3 ⟨#[]⟩=5∧owV eK3 pK3 ⟨#[]⟩=0∧getB pK3 ⟨#[]⟩=true:=by decide +kernel
theorem kQ9:getV pK3 ⟨#[]⟩=[.string noStr,.int .i64 10,.int .i64 10,.int .i64 10,.int .i64 1]:=by kernel_rfl
theorem kQA:pK3.length=2:=by decide +kernel
theorem known17_any (w:World) (hM:MaxL w):Calls Tryz.prog 6 #[] w fun e w'=>e=.returned (.bool true)∧Below w.heap.size w w':=by
 have HM:Hid (MaxL w):=hM
 clear hM
 have tk0:Nat:=0
 have tk1:Nat:=0
 have tk2:Nat:=0
 have tk3:Nat:=0
 have tk4:Nat:=0
 go_enter Tryz.func6,Tryz.ntmps6
 go_wp2_with (first
  | (go_at_call 8;refine (new_n 10 10 _).mono ?_;rintro e w1 ⟨nb,m,he,hwn,hwm,hn,hb⟩;subst he;have hm0:0<m:=Nat.lt_of_lt_of_le HM.out.lt0 hwm;have HN:Hid (NmAt w1 nb m 1 pK0):=hn;have HB:Hid (Below w.heap.size w w1):=hb;clear hn hb)
  | (go_at_call 15;refine (add_k HN.out (by omega) ⟨#[97]⟩ (by decide) (HM.out.below HB.out) 5 5 0 pK1 kQ0 rfl).mono ?_;rintro e w2 ⟨he,hn,hu⟩;subst he;replace HN:Hid (NmAt w2 nb m 2 pK1):=hn;replace HB:Hid (Below w.heap.size w w2):=aN HB.out hu hwm HB.out.size;clear hn hu)
  | (go_at_call 7;refine (newL_s _ HN.out ((QtOk.new 10 10).add kQ0) (HM.out.below HB.out) hm0).mono ?_;rintro e w3 ⟨lb,he,hs,hb⟩;subst he;have HS:Hid (QtS w3 lb nb m 2 pK1 oZ oZ):=hs;replace HB:Hid (Below w.heap.size w w3):=aV HB.out HB.out.size hb;clear hs hb HN)
  | (clear tk0;go_at_call 12;refine (bE HS.out (by omega) ⟨#[97]⟩ (6) (1) 170 kQ1 pK1 oZ oZ (by rw [if_neg (by decide)])).mono ?_;rintro e_ w' ⟨he_,hs_,hu_⟩;subst he_;replace HB:Hid (Below w.heap.size w w'):=aN HB.out hu_ hwm HB.out.size;replace HS:Hid (QtS w' lb nb m 2 pK1 oZ oZ):=hs_;clear hs_ hu_)
  | (clear tk1;go_at_call 12;refine (bE HS.out (by omega) ⟨#[97]⟩ (5) (1) 0 kQ2 pK2 bK2 eK2 (by rw [if_pos rfl];rfl)).mono ?_;rintro e_ w' ⟨he_,hs_,hu_⟩;subst he_;replace HB:Hid (Below w.heap.size w w'):=aN HB.out hu_ hwm HB.out.size;replace HS:Hid (QtS w' lb nb m 2 pK2 bK2 eK2):=hs_;clear hs_ hu_)
  | (clear tk2;go_at_call 12;refine (bE HS.out (by omega) ⟨#[]⟩ (6) (0) 170 kQ3 pK2 bK2 eK2 (by rw [if_neg (by decide)])).mono ?_;rintro e_ w' ⟨he_,hs_,hu_⟩;subst he_;replace HB:Hid (Below w.heap.size w w'):=aN HB.out hu_ hwm HB.out.size;replace HS:Hid (QtS w' lb nb m 2 pK2 bK2 eK2):=hs_;clear hs_ hu_)
  | (clear tk3;go_at_call 12;refine (bE HS.out (by omega) ⟨#[]⟩ (5) (0) 0 kQ4 pK3 bK3 eK3 (by rw [if_pos rfl];rfl)).mono ?_;rintro e_ w' ⟨he_,hs_,hu_⟩;subst he_;replace HB:Hid (Below w.heap.size w w'):=aN HB.out hu_ hwm HB.out.size;replace HS:Hid (QtS w' lb nb m 2 pK3 bK3 eK3):=hs_;clear hs_ hu_)
  | (go_at_call 20;refine (ownF_l HS.out.lg HS.out.qt ⟨#[]⟩).mono ?_;rintro e w4 ⟨he,hb⟩;rw [kQ8.1,kQ8.2.1,kQ8.2.2] at he;subst he;replace HS:Hid (QtS w4 lb nb m 2 pK3 bK3 eK3):=HS.out.below hb;replace HB:Hid (Below w.heap.size w w4):=aV HB.out HB.out.size hb;clear hb;have hm:=Mem.start w4)
  | (go_at_call 14;refine (names_q _ (HS.out.below hm.below).lg).mono ?_;rintro e w' ⟨he,hb⟩;subst he;replace hm:=hm.call hb;clear hb)
  | (go_at_call 26;refine (get_k (HS.out.below hm.below).lg.nm ⟨#[]⟩ (by decide) (HS.out.below hm.below).mx _ _ kQ9 kQ8.2.2).mono ?_;rintro e w' ⟨he,hb⟩;subst he;replace hm:=hm.call hb;clear hb)
  | ((with_reducible refine aa (some 10) (.alloc 50) ?_);refine ad _ aR hm ?_;clear hm;intro w5 g10 hm)
  | ((with_reducible refine aa none (.store 50 (.tmp 10) (.tmp 36)) ?_);refine af 0 [.string noStr,.int .i64 10,.int .i64 10,.int .i64 10,.int .i64 1] hm rfl rfl rfl 5 aI rfl rfl (by intro v hv;simp at hv;rcases hv with rfl|rfl|rfl<;>rfl) ?_;clear hm;intro w6 hm)
  | ((with_reducible refine aK (some 65) (.load 3 (.tmp 64)) (some (25,true)) ?_);go_must (refine ab (.int .i64 10) rfl (ae 3 (.int .i64 10) (hm.get 0 rfl) rfl am (rfl)) ?_))
  | (go_at_call 24;refine (check_l (HS.out.below hm.below).lg (by omega) (HS.out.below hm.below).mx (HS.out.below hm.below).qt (by rw [kQA];omega)).mono ?_;rintro e w7 ⟨he,hb⟩;subst he;replace hm:=hm.call hb;replace HS:Hid (QtS w7 lb nb m 2 pK3 bK3 eK3):=HS.out.below hm.below;replace HB:Hid (Below w.heap.size w w7):=aV HB.out HB.out.size hm.below;clear hb hm)
  | (clear tk4;go_at_call 12;refine (bE HS.out (by omega) ⟨#[97]⟩ (-6) (0) 12 kQ5 pK3 bK3 eK3 (by rw [if_neg (by decide)])).mono ?_;rintro e_ w' ⟨he_,hs_,hu_⟩;subst he_;replace HB:Hid (Below w.heap.size w w'):=aN HB.out hu_ hwm HB.out.size;replace HS:Hid (QtS w' lb nb m 2 pK3 bK3 eK3):=hs_;clear hs_ hu_)
  | (go_at_call 12;refine (bE HS.out (by omega) ⟨#[113]⟩ (1) (1) 100 kQ6 pK3 bK3 eK3 (by rw [if_neg (by decide)])).mono ?_;rintro e_ w' ⟨he_,hs_,hu_⟩;subst he_;replace HB:Hid (Below w.heap.size w w'):=aN HB.out hu_ hwm HB.out.size;replace HS:Hid (QtS w' lb nb m 2 pK3 bK3 eK3):=hs_;clear hs_ hu_)
  | (go_at_call 10;refine (can_l HS.out.lg HS.out.mx HS.out.qt ⟨#[97]⟩ 1 0 170 kQ7.symm false rfl).mono ?_;rintro e w8 ⟨he,hb⟩;subst he;replace HB:Hid (Below w.heap.size w w8):=aV HB.out HB.out.size hb;clear hb))
 go_ret
 exact ⟨rfl,HB.out⟩
open Go Go.RowKit Go.Maps
theorem StN.updM {B:Nat} {w w':World} {v:Value} {L:List ByteArray} {m:Nat} (h:StN B w v L) (hm:∃es c,w.heap[m]?=some (.map es c)) (hu:Upd m w w'):StN B w' v L:=by
 obtain ⟨p,cap,hv,hc⟩:=h
 refine ⟨p,cap,hv,fun h0=>?_⟩
 obtain ⟨b,h1,h2,h3,h4⟩:=hc h0
 obtain ⟨es,cc,hes⟩:=hm
 have hbm:b≠m:=by
  rintro rfl
  have h5:=h4 0 L[0] (by simp [h0])
  rw [dv hes] at h5;cases h5
 exact ⟨b,h1,h2,Nat.lt_of_lt_of_le h3 hu.size,fun i x hx=>(hu.cell (p:=⟨b,i,none⟩) h3 hbm).trans (h4 i x hx)⟩
def dropP (p:Nms) (ks:List ByteArray):Nms:=match getN p ks with|some x=>dropN p x|none=>p
theorem remE_zero {p:Nms} {s:ByteArray} (h:remE p s=0):isP (bs s)=true∧segsB s≠[]∧∃x,getN p (segsB s)=some x∧x∈p∧x.1=segsB s:=by
 unfold remE at h
 split at h;· cases h
 next h1 =>
 split at h;· cases h
 next h2 =>
 split at h;· cases h
 next h3 =>
 have h4:hasN p (segsB s)=true:=by simpa using h3
 rw [getN_has] at h4
 obtain ⟨x,hx⟩:=Option.isSome_iff_exists.1 h4
 exact ⟨by simpa using h1,h2,x,hx,(aY hx).1,(aY hx).2⟩
theorem spv_cells (x:Sp):∃(y:ByteArray) (a1 a2 a3 a4:Int),spv x=[.string y,.int .i64 a1,.int .i64 a2,.int .i64 a3,.int .i64 a4]∧a3=usB x∧a4=usE x:=⟨_,_,_,_,_,rfl,rfl,rfl⟩
theorem c5_one (y0:ByteArray) (a1 a2 a3 a4:Int):∀v∈[Value.string y0,.int .i64 a1,.int .i64 a2,.int .i64 a3,.int .i64 a4],v.oneCell'=true:=by
 intro v hv
 simp at hv
 rcases hv with rfl|rfl|rfl|rfl|rfl<;>rfl
theorem getV5 (p:Nms) (s:ByteArray):(getV p s).length=5∧∀v∈getV p s,v.oneCell'=true:=by
 unfold getV
 split
 ·exact ⟨lookV5 _ _,lookV_one _ _⟩
 ·exact ⟨rfl,bb [] 0 0⟩
theorem remove_l {w:World} {lb nb m c:Nat} {p:Nms} {oB oE:List ByteArray→Int} (h:LgAt w lb nb m c p) (hcc:c≤80000) (hM:MaxL w) (hQ:QtOk p oB oE) (hpl:p.length≤80000) (hm0:0<m) (s:ByteArray) (hs:s.size≤1000) (r:Int) (hr:r=remE p s) :
  Calls Tryz.prog 17 #[.pointer (some ⟨lb,0,none⟩),.string s] w fun e_ w'=>∃v,e_=.returned (.tuple #[v,.int .i64 r])∧StN w.heap.size w' v (remL p s r)∧NmAt w' nb m c (if r=0 then dropP p (segsB s) else p)∧Upd m w w':=by
 have hm:=Mem.start w
 have HL:Hid (Row w lb [.pointer (some ⟨nb,0,none⟩)] 60):=h.row
 have HR:Hid (NmAt w nb m c p):=h.nm
 have HLG:Hid (LgAt w lb nb m c p):=h
 have HX:Hid (MaxL w):=hM
 obtain ⟨V,hV⟩:∃z,z=getV p s:=⟨_,rfl⟩
 obtain ⟨g,hg⟩:∃z,z=getB p s:=⟨_,rfl⟩
 obtain ⟨L9,hL9⟩:∃z,z=remL p s r:=⟨_,rfl⟩
 obtain ⟨P9,hP9⟩:∃z,z=(if r=0 then delN p (segsB s) else p):=⟨_,rfl⟩
 have HGT:Hid (∀W,Below w.heap.size w W→Calls Tryz.prog 26 #[.pointer (some ⟨nb,0,none⟩),.string s] W fun e w'=>e=.returned (.tuple #[.agg V.toArray,.bool g])∧Below W.heap.size W w'):=fun W hW=>by rw [hV,hg];exact get_n (h.nm.below hW) s hs (hM.below hW)
 have HRM:Hid (∀W,Below w.heap.size w W→Calls Tryz.prog 43 #[.pointer (some ⟨nb,0,none⟩),.string s] W fun e_ w'=>∃v,e_=.returned (.tuple #[v,.int .i64 r])∧StN W.heap.size w' v L9∧NmAt w' nb m c P9∧Upd m W w'):=fun W hW=>by rw [hL9,hP9];exact rem_n (h.nm.below hW) hcc hpl s hs (hM.below hW) r hr
 rw [←hL9]
 by_cases h0:r=0
 ·obtain ⟨k1,k2,x,k3,k4,k5⟩:=remE_zero (hr.symm.trans h0)
  obtain ⟨y0,a1,a2,a3,a4,hsp,ha3,ha4⟩:=spv_cells x
  have hVx:V=[.string y0,.int .i64 a1,.int .i64 a2,.int .i64 a3,.int .i64 a4]:=by
   rw [hV,(get_of_mem h.nm.ok k4 k1 k5.symm).1,hsp]
  have hPd:P9=delN p x.1:=by rw [hP9,if_pos h0,k5]
  have hDP:dropP p (segsB s)=dropN p x:=by unfold dropP;rw [k3]
  have hbd:=hQ.bounds k4
  rw [←ha3,←ha4] at hbd
  have hn3:IntKind.i64.wrap (-a3) = -a3:=be _ (by omega) (by omega)
  have hn4:IntKind.i64.wrap (-a4) = -a4:=be _ (by omega) (by omega)
  have HAD:Hid (∀W,LgAt W lb nb m c P9→MaxL W→Calls Tryz.prog 33 #[.pointer (some ⟨lb,0,none⟩),.string s,.agg (sm (-a3) (-a4)).toArray] W fun e_ w'=>e_=.returned (.tuple #[])∧NmAt w' nb m c (dropN p x)∧Upd m W w'):=fun W hL hX=>by
   have h9:=add_l hL (by omega) hX hm0 (aS s) s (dn k1).symm (-a3) (-a4) (by omega) (by omega) (fun z hz=>by
    rw [hPd] at hz
    have hz2:=(List.mem_filter.1 hz).1
    exact ⟨hQ.use z hz2,hQ.ownBd hz2⟩)
   rw [←k5,hPd,ha3,ha4] at h9
   rw [ha3,ha4]
   exact h9
  rw [if_pos h0,hDP]
  subst hVx h0
  clear h hM hQ hs hr hV hg hL9 hP9 k1 k2 k3 k4 k5 hsp ha3 ha4 hbd hPd hDP
  go_enter Tryz.func17,Tryz.ntmps17
  go_wp2_with (first
   | ((with_reducible refine aa (some 14) (.load 26 (.tmp 13)) ?_);go_must (refine ab (.pointer (some ⟨nb,0,none⟩)) rfl (ae 0 (.pointer (some ⟨nb,0,none⟩)) (Row.bel HL.out hm.below) rfl cb rfl) ?_))
   | (go_at_call 26;refine (HGT.out _ hm.below).mono ?_;rintro e_ w' ⟨he_,hb_⟩;subst he_;replace hm:=hm.call hb_;clear hb_)
   | ((with_reducible refine aa (some 6) (.alloc 50) ?_);refine ad _ aR hm ?_;clear hm;intro w2 g6 hm)
   | ((with_reducible refine aa none (.store 50 (.tmp 6) (.tmp 17)) ?_);refine af 0 ([.string y0,.int .i64 a1,.int .i64 a2,.int .i64 a3,.int .i64 a4]) hm rfl rfl rfl 5 aI rfl rfl (c5_one _ _ _ _ _) ?_;clear hm;intro w3 hm)
   | ((with_reducible refine aa (some 23) (.load 26 (.tmp 22)) ?_);go_must (refine ab (.pointer (some ⟨nb,0,none⟩)) rfl (ae 0 (.pointer (some ⟨nb,0,none⟩)) (Row.bel HL.out hm.below) rfl cb rfl) ?_))
   | (go_at_call 43;refine (HRM.out _ hm.below).mono ?_;rintro e_ w4 ⟨v,he_,hs_,hn_,hu_⟩;subst he_;have HS4:Hid (StN w.heap.size w4 v L9):=hs_.lower hm.size;have HN4:Hid (NmAt w4 nb m c P9):=hn_;obtain ⟨es,cc,hes⟩:=(HR.out.below hm.below).isMap;replace hm:=(hm.weak (S:=[m])).updO hes (Or.inl (by simp)) hu_;clear hs_ hn_ hu_ hes es cc)
   | ((with_reducible refine aa (some 33) (.load 3 (.tmp 32)) ?_);refine an 0 3 (.int .i64 a3) hm rfl rfl am (rfl) ?_)
   | ((with_reducible refine aa (some 36) (.load 3 (.tmp 35)) ?_);refine an 0 4 (.int .i64 a4) hm rfl rfl am (rfl) ?_)
   | ((with_reducible refine aa (some 38) (.build 75 #[(0,.tmp 34),(1,.tmp 37)]) ?_);refine ap (sm (-a3) (-a4)) [(0,.int .i64 (-a3)),(1,.int .i64 (-a4))] rfl (bg _ _) ?_)
   | (go_at_call 33;refine (HAD.out _ (HLG.out.turn hm.toUpd HN4.out) (HX.out.upd0 hm0 hm.toUpd)).mono ?_;rintro e_ w7 ⟨he_,hn_,hu_⟩;subst he_;have HN7:Hid (NmAt w7 nb m c (dropN p x)):=hn_;have HU7:Hid (Upd m _ w7):=hu_;clear hn_ hu_))
  go_ret2
  exact ⟨v,rfl,HS4.out.updM HN4.out.isMap HU7.out,HN7.out,hm.toUpd.trans HU7.out⟩
 ·rw [if_neg h0] at hP9 ⊢
  have hP8:=hP9.symm
  subst hP8
  obtain ⟨HV5,HV1⟩:=getV5 p s
  rw [←hV] at HV5 HV1
  have HV51:Hid (V.length=5∧∀v∈V,v.oneCell'=true):=⟨HV5,HV1⟩
  clear h hM hQ hs hr hV hg hL9 hP9 HV5 HV1
  go_enter Tryz.func17,Tryz.ntmps17
  go_wp2_with (first
   | ((with_reducible refine aa (some 14) (.load 26 (.tmp 13)) ?_);go_must (refine ab (.pointer (some ⟨nb,0,none⟩)) rfl (ae 0 (.pointer (some ⟨nb,0,none⟩)) (Row.bel HL.out hm.below) rfl cb rfl) ?_))
   | (go_at_call 26;refine (HGT.out _ hm.below).mono ?_;rintro e_ w' ⟨he_,hb_⟩;subst he_;replace hm:=hm.call hb_;clear hb_)
   | ((with_reducible refine aa (some 6) (.alloc 50) ?_);refine ad _ aR hm ?_;clear hm;intro w2 g6 hm)
   | ((with_reducible refine aa none (.store 50 (.tmp 6) (.tmp 17)) ?_);refine af 0 (V) hm rfl rfl rfl 5 aI rfl HV51.out.1 HV51.out.2 ?_;clear hm;intro w3 hm)
   | ((with_reducible refine aa (some 23) (.load 26 (.tmp 22)) ?_);go_must (refine ab (.pointer (some ⟨nb,0,none⟩)) rfl (ae 0 (.pointer (some ⟨nb,0,none⟩)) (Row.bel HL.out hm.below) rfl cb rfl) ?_))
   | (go_at_call 43;refine (HRM.out _ hm.below).mono ?_;rintro e_ w4 ⟨v,he_,hs_,hn_,hu_⟩;subst he_;have HS4:Hid (StN w.heap.size w4 v L9):=hs_.lower hm.size;have HN4:Hid (NmAt w4 nb m c p):=hn_;obtain ⟨es,cc,hes⟩:=(HR.out.below hm.below).isMap;replace hm:=(hm.weak (S:=[m])).updO hes (Or.inl (by simp)) hu_;clear hs_ hn_ hu_ hes es cc))
  go_ret2
  exact ⟨v,rfl,HS4.out,HN4.out,hm.toUpd⟩
open Go Go.RowKit Go.Maps
def dropO (o:List ByteArray→Int) (p:Nms) (ks:List ByteArray):List ByteArray→Int:=match getN p ks with|some _=>ofO o ks|none=>o
theorem QtOk.dropE {p:Nms} {oB oE:List ByteArray→Int} (h:QtOk p oB oE) {s:ByteArray} (hr:remE p s=0):QtOk (dropP p (segsB s)) (dropO oB p (segsB s)) (dropO oE p (segsB s)):=by
 obtain ⟨_,h2,x,h3,h4,h5⟩:=remE_zero hr
 unfold dropP dropO
 rw [h3]
 show QtOk (dropN p x) (ofO oB (segsB s)) (ofO oE (segsB s))
 rw [←h5]
 exact h.drop h4 (by rw [h5];exact h2)
theorem remove_s {w:World} {lb nb m c:Nat} {p:Nms} {oB oE:List ByteArray→Int} (h:QtS w lb nb m c p oB oE) (hc:c≤80000) (hpl:p.length≤80000) (s:ByteArray) (hs:s.size≤1000) (r:Int) (hr:remE p s=r) (p':Nms) (oB' oE':List ByteArray→Int) (hp:(if r=0 then (dropP p (segsB s),dropO oB p (segsB s),dropO oE p (segsB s)) else (p,oB,oE))=(p',oB',oE')) :
  Calls Tryz.prog 17 #[.pointer (some ⟨lb,0,none⟩),.string s] w fun e_ w'=>∃v,e_=.returned (.tuple #[v,.int .i64 r])∧StN w.heap.size w' v (remL p s r)∧QtS w' lb nb m c p' oB' oE'∧Upd m w w':=by
 refine (remove_l h.lg hc h.mx h.qt hpl h.m0 s hs r hr.symm).mono ?_
 rintro e_ w' ⟨v,rfl,hv,hn,hu⟩
 refine ⟨v,rfl,hv,?_,hu⟩
 by_cases h0:r=0
 ·rw [if_pos h0] at hn hp
  simp only [Prod.mk.injEq] at hp
  obtain ⟨rfl,rfl,rfl⟩:=hp
  exact ⟨h.lg.turn hu hn,h.qt.dropE (hr.trans h0),h.mx.upd0 h.m0 hu,h.m0⟩
 ·rw [if_neg h0] at hn hp
  simp only [Prod.mk.injEq] at hp
  obtain ⟨rfl,rfl,rfl⟩:=hp
  exact ⟨h.lg.turn hu hn,h.qt,h.mx.upd0 h.m0 hu,h.m0⟩
open Go Go.RowKit Go.Maps
theorem QtS.mono {w:World} {lb nb m c c':Nat} {p:Nms} {oB oE:List ByteArray→Int} (h:QtS w lb nb m c p oB oE) (hc:c≤c'):QtS w lb nb m c' p oB oE:=⟨⟨h.lg.row,h.lg.nm.mono hc⟩,h.qt,h.mx,h.m0⟩
theorem chgN_len (p:Nms) (ks:List ByteArray) (b e:Int):(chgN p ks b e).length=p.length:=List.length_map _
def sK (f:Sp→Int) (p:Nms) (x:Sp) (j:Nat):Int:=sumI (fun y=>if isKid y x.1=true then f y else 0) (p.take j)
open Go Go.RowKit Go.Maps
theorem bo:Tryz.prog.underlying 54=some (.array 4 5):=Tryz.underlying54
theorem un_as4:Tryz.prog.underlying 55=some (.array 4 9):=Tryz.underlying55
theorem info_as4:(Tryz.prog.info? 55).map (fun i=>(i.zero,i.size))=some (some (.agg [Value.string noStr,.string noStr,.string noStr,.string noStr].toArray),4):=by kernel_rfl
theorem zero_as4:∀w,(zeroValue 55).run Tryz.prog w=.ok (.agg [Value.string noStr,.string noStr,.string noStr,.string noStr].toArray) w:=(zero_of_info info_as4).1
theorem sz_as4:(Tryz.prog.info? 55).map (·.size)=some 4:=(zero_of_info info_as4).2
theorem built_as4 (x0 x1 x2 x3:ByteArray):Tryz.prog.built 55 [(0,.string x0),(1,.string x1),(2,.string x2),(3,.string x3)]=some [Value.string x0,.string x1,.string x2,.string x3].toArray:=by kernel_rfl
theorem one_as4 (x0 x1 x2 x3:ByteArray):∀v∈[Value.string x0,.string x1,.string x2,.string x3],v.oneCell'=true:=by intro v hv;simp at hv;rcases hv with rfl|rfl|rfl|rfl<;>rfl
theorem sz_strQ:(Tryz.prog.info? 9).map (·.size)=some 1:=by kernel_rfl
theorem bp:(Tryz.prog.info? 5).map (·.size)=some 1:=by kernel_rfl
theorem bn:∀w,(isAgg 5).run Tryz.prog w=.ok false w:=by intro w;simp [go_sem]
theorem ag_strQ:∀w,(isAgg 9).run Tryz.prog w=.ok false w:=by intro w;simp [go_sem]
structure NwS (w wr:World) (nb m c:Nat) (p:Nms) (ga:Nat) (A:List Value) (ta:TypeId) (gb:Nat) (E:List Value) (tb:TypeId):Prop where
 bel:Below w.heap.size w wr
 hw:w.heap.size≤m
 nm:NmAt wr nb m c p
 mx:MaxL wr
 m0:0<m
 ra:Row wr ga A ta
 rb:Row wr gb E tb
theorem NwS.below {w wr w':World} {nb m c:Nat} {p:Nms} {ga:Nat} {A:List Value} {ta:TypeId} {gb:Nat} {E:List Value} {tb:TypeId} (h:NwS w wr nb m c p ga A ta gb E tb) (hb:Below wr.heap.size wr w'):NwS w w' nb m c p ga A ta gb E tb :=
 ⟨aV h.bel h.bel.size hb,h.hw,h.nm.below hb,h.mx.below hb,h.m0,Row.bel h.ra hb,Row.bel h.rb hb⟩
theorem NwS.upd {w wr w':World} {nb m c c':Nat} {p p':Nms} {ga:Nat} {A:List Value} {ta:TypeId} {gb:Nat} {E:List Value} {tb:TypeId} (h:NwS w wr nb m c p ga A ta gb E tb) (hn:NmAt w' nb m c' p') (hu:Upd m wr w'):NwS w w' nb m c' p' ga A ta gb E tb:=by
 obtain ⟨es,cl,hes⟩:=h.nm.isMap
 exact ⟨aN h.bel hu h.hw h.bel.size,h.hw,hn,h.mx.upd0 h.m0 hu,h.m0,hu.row h.ra (aq h.ra hes),hu.row h.rb (aq h.rb hes)⟩
theorem NwS.setB {w wr:World} {nb m c gb':Nat} {p:Nms} {E':List Value} {tb':TypeId} {ga:Nat} {A:List Value} {ta:TypeId} {gb:Nat} {E:List Value} {tb:TypeId} (h:NwS w wr nb m c p ga A ta gb E tb) (hr:Row wr gb' E' tb'):NwS w wr nb m c p ga A ta gb' E' tb':=⟨h.bel,h.hw,h.nm,h.mx,h.m0,h.ra,hr⟩
structure LwS (w wr:World) (lb nb m c:Nat) (p:Nms) (oB oE:List ByteArray→Int) (ga:Nat) (A:List Value) (ta:TypeId) (gb:Nat) (E:List Value) (tb:TypeId):Prop where
 bel:Below w.heap.size w wr
 hw:w.heap.size≤m
 st:QtS wr lb nb m c p oB oE
 ra:Row wr ga A ta
 rb:Row wr gb E tb
theorem LwS.below {w wr w':World} {lb nb m c:Nat} {p:Nms} {oB oE:List ByteArray→Int} {ga:Nat} {A:List Value} {ta:TypeId} {gb:Nat} {E:List Value} {tb:TypeId} (h:LwS w wr lb nb m c p oB oE ga A ta gb E tb) (hb:Below wr.heap.size wr w'):LwS w w' lb nb m c p oB oE ga A ta gb E tb :=
 ⟨aV h.bel h.bel.size hb,h.hw,h.st.below hb,Row.bel h.ra hb,Row.bel h.rb hb⟩
theorem LwS.upd {w wr w':World} {lb nb m c c':Nat} {p p':Nms} {oB oE oB' oE':List ByteArray→Int} {ga:Nat} {A:List Value} {ta:TypeId} {gb:Nat} {E:List Value} {tb:TypeId} (h:LwS w wr lb nb m c p oB oE ga A ta gb E tb) (hn:QtS w' lb nb m c' p' oB' oE') (hu:Upd m wr w'):LwS w w' lb nb m c' p' oB' oE' ga A ta gb E tb:=by
 obtain ⟨es,cl,hes⟩:=h.st.isMap
 exact ⟨aN h.bel hu h.hw h.bel.size,h.hw,hn,hu.row h.ra (aq h.ra hes),hu.row h.rb (aq h.rb hes)⟩
theorem LwS.setB {w wr:World} {lb nb m c gb':Nat} {p:Nms} {oB oE:List ByteArray→Int} {E':List Value} {tb':TypeId} {ga:Nat} {A:List Value} {ta:TypeId} {gb:Nat} {E:List Value} {tb:TypeId} (h:LwS w wr lb nb m c p oB oE ga A ta gb E tb) (hr:Row wr gb' E' tb'):LwS w wr lb nb m c p oB oE ga A ta gb' E' tb':=⟨h.bel,h.hw,h.st,h.ra,hr⟩
theorem NwS.led {w wr w':World} {lb nb m c:Nat} {p:Nms} {oB oE:List ByteArray→Int} {ga:Nat} {A:List Value} {ta:TypeId} {gb:Nat} {E:List Value} {tb:TypeId} (h:NwS w wr nb m c p ga A ta gb E tb) (hn:QtS w' lb nb m c p oB oE) (hb:Below wr.heap.size wr w'):LwS w w' lb nb m c p oB oE ga A ta gb E tb :=
 ⟨aV h.bel h.bel.size hb,h.hw,hn,Row.bel h.ra hb,Row.bel h.rb hb⟩
section
variable {a:Act} {w:World} {dst:Option Tmp} {typ:TypeId} {pos:String} {aft:Array Edge} {gd:Option (Nat×Bool)}
theorem exec_ixArr {x ix:Operand} {b o n:Nat} {t e:TypeId} (i:Nat) {ii:Int} (ht:Tryz.prog.underlying t=some (.array n e)) (h3:(Tryz.prog.info? e).map (·.size)=some 1) (hx:a.eval x=.pointer (some ⟨b,o,none⟩)) (hix:a.eval ix=.int .i64 ii) (hii:ii=(i:Int)) (hi:i<n) :
  (execOp a.eval {dst:=dst,op:=.indexAddr t x ix,type:=typ,pos:=pos,after:=aft,guard:=gd}).run Tryz.prog w=.ok (.value (.pointer (some ⟨b,o+i,none⟩))) w:=by
 subst hii
 have h0:(0:Int)≤(i:Int)∧(i:Int)<(n:Int):=by omega
 cases hq:Tryz.prog.info? e with
 | none=>rw [hq] at h3;cases h3
 | some q =>
  have hs1:q.size=1:=by simpa [hq] using h3
  unfold execOp
  simp [hx,hix,Instr.indexAt,Instr.sureAddr,asIntOf,run_underlying ht,h0,sizeOf,typeInfo,hq,hs1,br]
  intro h9
  omega
end
end Go.Proofs.YtdmohffogfbnbaaGreatDoor
