import Derived.Test.YtnllomcajijbjaaGreatDoorQp22
set_option maxRecDepth 100000
set_option maxHeartbeats 4000000
namespace Go.Proofs.YtnllomcajijbjaaGreatDoor
open Go Go.RowKit Go.Maps
theorem ax:Tryz.prog.underlying 32=some (.array 24 31):=Tryz.underlying32
theorem bp {w0 w:World} {rows:List (Nat×List Value×TypeId)} {b o:Nat} {v:Value} (hm:Mem w0 [] w rows) (hc:w0.cell? ⟨b,o,none⟩=some v):w.cell? ⟨b,o,none⟩=some v:=(hm.old (p:=⟨b,o,none⟩) (block_lt_of_cell hc) (by simp)).trans hc
section
variable {a:Act} {w:World} {dst:Option Tmp} {typ:TypeId} {pos:String} {aft:Array Edge} {gd:Option (Nat×Bool)}
theorem aE {x ix:Operand} {q:Nat} (i:Nat) {ii:Int} (hx:a.eval x=.pointer (some ⟨q,0,none⟩)) (hix:a.eval ix=.int .i64 ii) (hii:ii=(i:Int)) (hi:i<24) :
  (execOp a.eval {dst:=dst,op:=.indexAddr 32 x ix,type:=typ,pos:=pos,after:=aft,guard:=gd}).run Tryz.prog w=.ok (.value (.pointer (some ⟨q,i * 3,none⟩))) w:=by
 subst hii
 have h0:(0:Int)≤(i:Int)∧(i:Int)<24:=by omega
 unfold execOp
 simp [hx,hix,Instr.indexAt,asIntOf,run_underlying ax,h0,bM,Instr.sureAddr]
 omega
end
theorem exec_neD {P:Program} {a:Act} {w:World} {dst:Option Tmp} {typ:TypeId} {pos:String} {aft:Array Edge} {gd:Option (Nat×Bool)} {t:TypeId} {x y:Operand} {rt:TypeId} (e:TypeId) (n:Nat) (k:IntKind) (xs ys:List Int) (hx:a.eval x=.agg (xs.map (Value.int k)).toArray) (hy:a.eval y=.agg (ys.map (Value.int k)).toArray) (ht:P.underlying t=some (.array n e)) (he:P.underlying e=some (.int k)) (hs:(P.info? e).map (·.size)=some 1) (hm:P.eqGuardType P.depth t=false) (h1:xs.length=n) (h2:ys.length=n) (hne:xs≠ys) :
  (execOp a.eval {dst:=dst,op:=.binOp .neq t x y rt,type:=typ,pos:=pos,after:=aft,guard:=gd}).run P w=.ok (.value (.bool true)) w:=by
 have hq:=i8 (P:=P) w t e n k ht he hs xs ys h1 h2
 unfold execOp
 simp only [hx,hy,Sem.run_bind,run_eqGuard_agg w .neq t x y _ _ hm,Sem.run_pure,Result.andThen_ok,hq]
 simp [hne]
theorem unwV_twoA (ks:List Int) (k:Nat) (N:Ent):(unwV ks k N).2=0∨(unwV ks k N).2=50:=by unfold unwV;split<;>simp
def FrTo (held:Nat→Option Ent) (i:Nat) (fr:Int):Prop:=(fr = -1∧∀j,j<i→(held j).isSome=true)∨∃f:Nat,fr=(f:Int)∧f<i∧held f=none∧∀j,j<f→(held j).isSome=true
theorem FrTo.all {held:Nat→Option Ent} {fr:Int} (h:FrTo held 24 fr):freeI held=fr:=by
 rcases h with ⟨rfl,h⟩|⟨f,rfl,h1,h2,h3⟩
 ·exact gy (n:=24) h 24 0 (by omega)
 ·exact ik h3 h2 f 0 24 (by omega) (by omega)
theorem FrTo.same {held:Nat→Option Ent} {i:Nat} {fr:Int} (h:FrTo held i fr) (hs:(held i).isSome=true∨¬fr<0):FrTo held (i+1) fr:=by
 rcases h with ⟨rfl,h⟩|⟨f,rfl,h1,h2,h3⟩
 ·rcases hs with hs|hs
  ·refine Or.inl ⟨rfl,fun j hj=>?_⟩
   by_cases e:j=i
   ·subst e;exact hs
   ·exact h j (by omega)
  ·omega
 ·exact Or.inr ⟨f,rfl,by omega,h2,h3⟩
theorem FrTo.new {held:Nat→Option Ent} {i:Nat} {fr:Int} (h:FrTo held i fr) (hf:fr<0) (hn:held i=none):FrTo held (i+1) (i:Int):=by
 rcases h with ⟨rfl,h⟩|⟨f,rfl,h1,h2,h3⟩
 ·exact Or.inr ⟨i,rfl,by omega,hn,h⟩
 ·omega
theorem alike_any (g mb:Nat) (kv:Value) (sb hb:Nat) (d:Dk) (t:Slt) (M:Nat→Mdl) (hM:∀i,i<24→(0≤(M i).2.1∧(M i).2.1<256)∧0≤(M i).2.2∧(M i).2.2<256) (w:World) (ht:Tab w) (hq:QTab w) (hs:SlAt w g mb kv sb hb d t) (hok:SltOk t) :
  Calls Tryz.prog 15 #[.pointer (some ⟨sb,0,none⟩),.agg (modL M 24).toArray] w fun e w'=>e=.returned (.bool (agB t.held M 24))∧Below w.heap.size w w':=by
 have HS0:Hid (SlAt w g mb kv sb hb d t):=hs
 have HT0:Hid (Tab w):=ht
 have HQ0:Hid (QTab w):=hq
 have HOK:Hid (SltOk t):=hok
 have HMB:Hid (∀i,i<24→(0≤(M i).2.1∧(M i).2.1<256)∧0≤(M i).2.2∧(M i).2.2<256):=hM
 obtain ⟨ML,hML⟩:∃l,l=modL M 24:=⟨_,rfl⟩
 have HML:Hid (∀_:Unit,ML=modL M 24):=fun _=>hML
 obtain ⟨L,hL⟩:∃L,L=(usedL t.held 24).length:=⟨_,rfl⟩
 have HL:Hid (∀_:Unit,(usedL t.held 24).length=L):=fun _=>hL.symm
 have hL24:L≤24:=by rw [hL];unfold usedL;exact Nat.le_trans (List.length_filter_le _ _) (by simp)
 have hm:=Mem.start w
 rw [←hML]
 clear hs ht hq hM hML hL hok
 go_enter Tryz.func15,Tryz.ntmps15
 go_wp2_with (first
  | ((with_reducible refine aa (some 3) (.box 32 (.tmp 1)) ?_);refine aB ML rfl hm ?_;clear hm;intro w1 g3 hm)
  | (go_at_call 17;go_must (refine (used_any g mb kv sb hb d t _ (HS0.out.below hm.below)).mono ?_);rintro e wu ⟨vu,rfl,hin,hb⟩;obtain ⟨pu,cu,hvu,hpu⟩:=hin;rw [HL.out ()] at hvu hpu;subst hvu;have HPU:Hid (0<L→∃b,pu=some ⟨b,0,none⟩∧∀(j i:Nat),(usedL t.held 24)[j]?=some i→wu.cell? ⟨b,j,none⟩=some (.int .i64 (i:Int))):=fun h0=>(hpu h0).elim fun b hh=>⟨b,hh.1,hh.2.2.2⟩;replace hm:=hm.call hb;clear hb hpu))
 have HB0:Hid (Below w.heap.size w wu):=hm.below
 have HR3:Hid (Row wu g3 ML 32):=hm.get 0 rfl
 have HSA:Hid (SlAt wu g mb kv sb hb d t):=HS0.out.below hm.below
 have HT:Hid (Tab wu):=Tab.mem HT0.out hm (by simp)
 have HQT:Hid (QTab wu):=QTab.mem HQ0.out hm (by simp)
 clear hm HS0 HT0 HQ0
 have hu:=Mem.start wu
 go_loopw [6,7,8] (fun vn vf vi wr=>∃(i nn:Nat) (fr:Int),i≤24∧nn≤i∧vi=.int .i64 (i:Int)∧vn=.int .i64 (nn:Int)∧vf=.int .i64 fr∧Mem wu [] wr []∧Hid (nn=(usedL t.held i).length∧FrTo t.held i fr∧agB t.held M i=true)) (fun _ _ vi _=>24 - (intOf vi).toNat)
 case atStart=>exact ⟨0,0, -1,by omega,by omega,rfl,rfl,rfl,hu,rfl,Or.inl ⟨rfl,fun j hj=>absurd hj (by omega)⟩,rfl⟩
 case round =>
  clear hu
  obtain ⟨i,nn,fr,hi,hni,rfl,rfl,rfl,hu,HIV⟩:=hrel
  by_cases hlt:i<24
  ·have hli:(i:Int)<24:=by omega
   obtain ⟨inn,x,y,hMi⟩:∃inn x y,M i=(inn,x,y):=⟨_,_,_,rfl⟩
   have HXB:Hid (0≤x∧x<256):=by have:=(HMB.out i hlt).1;rw [hMi] at this;exact this
   have HYB:Hid (0≤y∧y<256):=by have:=(HMB.out i hlt).2;rw [hMi] at this;exact this
   have cell:∀j v,j<3→(slV (M i))[j]?=some v→wu.cell? ⟨g3,i * 3+j,none⟩=some v:=fun j v hj hv=>by rw [HR3.out.cell,HML.out (),bO M j hj 24 i hlt];exact hv
   have HC0:Hid (wu.cell? ⟨g3,i * 3,none⟩=some (.bool inn)):=cell 0 _ (by omega) (by rw [hMi];rfl)
   have HC1:Hid (wu.cell? ⟨g3,i * 3+1,none⟩=some (.int .u8 x)):=cell 1 _ (by omega) (by rw [hMi];rfl)
   have HC2:Hid (wu.cell? ⟨g3,i * 3+2,none⟩=some (.int .u8 y)):=cell 2 _ (by omega) (by rw [hMi];rfl)
   have HMI:Hid (∀_:Unit,M i=(inn,x,y)):=fun _=>hMi
   clear cell hMi
   cases inn with
   | false =>
    cases hx:t.held i with
    | none =>
     have HGV:Hid (∀_:Unit,getV t.held (i:Int) (keyB x)=(zero32,120)):=fun _=>fO hlt hx _
     have HNX:Hid (agB t.held M (i+1)=true):=agB_next HIV.out.2.2 (by rw [HMI.out (),cQ rfl,hx];rfl)
     have HN1:Hid (nn=(usedL t.held (i+1)).length):=by show _=_;rw [eM,hx];simpa using HIV.out.1
     by_cases hf:fr<0
     ·have HFR:Hid (FrTo t.held (i+1) (i:Int)):=HIV.out.2.1.new hf hx
      clear hx
      go_wp2_with (first
       | ((with_reducible refine aa (some 20) (.indexAddr 32 (.tmp 3) (.tmp 19)) ?_);go_must (refine ae (.pointer (some ⟨g3,i * 3,none⟩)) rfl (aE i rfl rfl rfl hlt) ?_))
       | ((with_reducible refine aa (some 22) (.load 4 (.tmp 21)) ?_);go_must (refine aQ (.bool false) (bp hu HC0.out) rfl bj ?_))
       | ((with_reducible refine aa (some 31) (.indexAddr 32 (.tmp 3) (.tmp 30)) ?_);go_must (refine ae (.pointer (some ⟨g3,i * 3,none⟩)) rfl (aE i rfl rfl rfl hlt) ?_))
       | ((with_reducible refine aa (some 33) (.load 5 (.tmp 32)) ?_);go_must (refine aQ (.int .u8 x) (bp hu HC1.out) rfl aY ?_))
       | (go_at_call 9;refine (aZ _ _).mono ?_;rintro e wk ⟨rfl,hb⟩;replace hu:=hu.call hb;clear hb)
       | (go_at_call 11;go_must (refine (dM g mb kv sb hb d t (i:Int) (keyB x) (aD x) (bg HXB.out) _ (Tab.mem HT.out hu (by simp)) (QTab.mem HQT.out hu (by simp)) (HSA.out.below hu.below)).mono ?_);rintro e wg ⟨he,hb⟩;rw [HGV.out ()] at he;subst he;replace hu:=hu.call hb;clear hb)
       | ((with_reducible refine aa (some 9) (.alloc 39) ?_);go_must (refine aC _ bd ?_);intro wa q9 hba hqa hra;replace hu:=hu.callNew hba hra hqa;clear hba hqa hra)
       | ((with_reducible refine aa none (.store 39 (.tmp 9) (.tmp 36)) ?_);go_must (refine aw (u8s zero32) (hu.get 0 rfl) rfl rfl 32 az (by simp [ab]) (by simp [ab,zero32]) (aq _) ?_);intro wb hub hrb;replace hu:=hu.upd 0 rfl hub hrb;clear hub hrb))
      go_roundw
      case rel=>exact ⟨i+1,nn,(i:Int),by omega,by omega,by go_num,rfl,rfl,hu.tail,HN1.out,HFR.out,HNX.out⟩
      case measure=>simp [intOf];omega
     ·have HFR:Hid (FrTo t.held (i+1) fr):=HIV.out.2.1.same (Or.inr hf)
      clear hx
      go_wp2_with (first
       | ((with_reducible refine aa (some 20) (.indexAddr 32 (.tmp 3) (.tmp 19)) ?_);go_must (refine ae (.pointer (some ⟨g3,i * 3,none⟩)) rfl (aE i rfl rfl rfl hlt) ?_))
       | ((with_reducible refine aa (some 22) (.load 4 (.tmp 21)) ?_);go_must (refine aQ (.bool false) (bp hu HC0.out) rfl bj ?_))
       | ((with_reducible refine aa (some 31) (.indexAddr 32 (.tmp 3) (.tmp 30)) ?_);go_must (refine ae (.pointer (some ⟨g3,i * 3,none⟩)) rfl (aE i rfl rfl rfl hlt) ?_))
       | ((with_reducible refine aa (some 33) (.load 5 (.tmp 32)) ?_);go_must (refine aQ (.int .u8 x) (bp hu HC1.out) rfl aY ?_))
       | (go_at_call 9;refine (aZ _ _).mono ?_;rintro e wk ⟨rfl,hb⟩;replace hu:=hu.call hb;clear hb)
       | (go_at_call 11;go_must (refine (dM g mb kv sb hb d t (i:Int) (keyB x) (aD x) (bg HXB.out) _ (Tab.mem HT.out hu (by simp)) (QTab.mem HQT.out hu (by simp)) (HSA.out.below hu.below)).mono ?_);rintro e wg ⟨he,hb⟩;rw [HGV.out ()] at he;subst he;replace hu:=hu.call hb;clear hb)
       | ((with_reducible refine aa (some 9) (.alloc 39) ?_);go_must (refine aC _ bd ?_);intro wa q9 hba hqa hra;replace hu:=hu.callNew hba hra hqa;clear hba hqa hra)
       | ((with_reducible refine aa none (.store 39 (.tmp 9) (.tmp 36)) ?_);go_must (refine aw (u8s zero32) (hu.get 0 rfl) rfl rfl 32 az (by simp [ab]) (by simp [ab,zero32]) (aq _) ?_);intro wb hub hrb;replace hu:=hu.upd 0 rfl hub hrb;clear hub hrb))
      go_roundw
      case rel=>exact ⟨i+1,nn,fr,by omega,by omega,by go_num,rfl,rfl,hu.tail,HN1.out,HFR.out,HNX.out⟩
      case measure=>simp [intOf];omega
    | some E =>
     have HNO:Hid (∀_:Unit,agB t.held M 24=false):=fun _=>gD hlt (by rw [HMI.out (),cQ rfl,hx];rfl)
     obtain ⟨Y,hY⟩:∃Y,Y=(unwV (keyB x) i E).1:=⟨_,rfl⟩
     have HY:Hid (Y.length=32):=by rw [hY];exact eh _ _ (HOK.out.ent i E hx).len
     rcases unwV_twoA (keyB x) i E with hc|hc
     all_goals
      have HGV:=fun (_:Unit)=>(dZ hlt hx (keyB x)).trans (Prod.ext hY.symm hc:unwV (keyB x) i E=(Y,_))
      replace HGV:Hid (∀_:Unit,getV t.held (i:Int) (keyB x)=(Y,_)):=HGV
      clear hx hY hc
      by_cases hf:fr<0
      ·go_wp2_with (first
        | ((with_reducible refine aa (some 20) (.indexAddr 32 (.tmp 3) (.tmp 19)) ?_);go_must (refine ae (.pointer (some ⟨g3,i * 3,none⟩)) rfl (aE i rfl rfl rfl hlt) ?_))
        | ((with_reducible refine aa (some 22) (.load 4 (.tmp 21)) ?_);go_must (refine aQ (.bool false) (bp hu HC0.out) rfl bj ?_))
        | ((with_reducible refine aa (some 31) (.indexAddr 32 (.tmp 3) (.tmp 30)) ?_);go_must (refine ae (.pointer (some ⟨g3,i * 3,none⟩)) rfl (aE i rfl rfl rfl hlt) ?_))
        | ((with_reducible refine aa (some 33) (.load 5 (.tmp 32)) ?_);go_must (refine aQ (.int .u8 x) (bp hu HC1.out) rfl aY ?_))
        | (go_at_call 9;refine (aZ _ _).mono ?_;rintro e wk ⟨rfl,hb⟩;replace hu:=hu.call hb;clear hb)
        | (go_at_call 11;go_must (refine (dM g mb kv sb hb d t (i:Int) (keyB x) (aD x) (bg HXB.out) _ (Tab.mem HT.out hu (by simp)) (QTab.mem HQT.out hu (by simp)) (HSA.out.below hu.below)).mono ?_);rintro e wg ⟨he,hb⟩;rw [HGV.out ()] at he;subst he;replace hu:=hu.call hb;clear hb)
        | ((with_reducible refine aa (some 9) (.alloc 39) ?_);go_must (refine aC _ bd ?_);intro wa q9 hba hqa hra;replace hu:=hu.callNew hba hra hqa;clear hba hqa hra)
        | ((with_reducible refine aa none (.store 39 (.tmp 9) (.tmp 36)) ?_);go_must (refine aw (u8s Y) (hu.get 0 rfl) rfl rfl 32 az (by simp [ab]) (by rw [ab,HY.out]) (aq _) ?_);intro wb hub hrb;replace hu:=hu.upd 0 rfl hub hrb;clear hub hrb))
       go_ret
       exact ⟨by rw [HNO.out ()];rfl,HB0.out.trans (hu.below.mono HB0.out.size)⟩
      ·go_wp2_with (first
        | ((with_reducible refine aa (some 20) (.indexAddr 32 (.tmp 3) (.tmp 19)) ?_);go_must (refine ae (.pointer (some ⟨g3,i * 3,none⟩)) rfl (aE i rfl rfl rfl hlt) ?_))
        | ((with_reducible refine aa (some 22) (.load 4 (.tmp 21)) ?_);go_must (refine aQ (.bool false) (bp hu HC0.out) rfl bj ?_))
        | ((with_reducible refine aa (some 31) (.indexAddr 32 (.tmp 3) (.tmp 30)) ?_);go_must (refine ae (.pointer (some ⟨g3,i * 3,none⟩)) rfl (aE i rfl rfl rfl hlt) ?_))
        | ((with_reducible refine aa (some 33) (.load 5 (.tmp 32)) ?_);go_must (refine aQ (.int .u8 x) (bp hu HC1.out) rfl aY ?_))
        | (go_at_call 9;refine (aZ _ _).mono ?_;rintro e wk ⟨rfl,hb⟩;replace hu:=hu.call hb;clear hb)
        | (go_at_call 11;go_must (refine (dM g mb kv sb hb d t (i:Int) (keyB x) (aD x) (bg HXB.out) _ (Tab.mem HT.out hu (by simp)) (QTab.mem HQT.out hu (by simp)) (HSA.out.below hu.below)).mono ?_);rintro e wg ⟨he,hb⟩;rw [HGV.out ()] at he;subst he;replace hu:=hu.call hb;clear hb)
        | ((with_reducible refine aa (some 9) (.alloc 39) ?_);go_must (refine aC _ bd ?_);intro wa q9 hba hqa hra;replace hu:=hu.callNew hba hra hqa;clear hba hqa hra)
        | ((with_reducible refine aa none (.store 39 (.tmp 9) (.tmp 36)) ?_);go_must (refine aw (u8s Y) (hu.get 0 rfl) rfl rfl 32 az (by simp [ab]) (by rw [ab,HY.out]) (aq _) ?_);intro wb hub hrb;replace hu:=hu.upd 0 rfl hub hrb;clear hub hrb))
       go_ret
       exact ⟨by rw [HNO.out ()];rfl,HB0.out.trans (hu.below.mono HB0.out.size)⟩
   | true =>
    cases hx:t.held i with
    | none =>
     have HNO:Hid (∀_:Unit,agB t.held M 24=false):=fun _=>gD hlt (by rw [HMI.out (),hx];exact fu rfl)
     by_cases hnL:nn<L
     ·obtain ⟨bu,hbu,hcu⟩:=HPU.out (by omega)
      subst hbu
      obtain ⟨z,hz⟩:∃z,(usedL t.held 24)[nn]?=some z:=⟨_,List.getElem?_eq_getElem (by rw [HL.out ()];exact hnL)⟩
      have HCU:Hid (wu.cell? ⟨bu,0+nn,none⟩=some (.int .i64 (z:Int))):=by show _=_;rw [Nat.zero_add];exact hcu nn z hz
      have hzi:¬(z:Int)=(i:Int):=fun e=>usedL_not hx (by rw [hz];congr 1;omega)
      have hnl:¬(L:Int)≤(nn:Int):=by omega
      clear hx hz hcu
      go_wp2_with (first
       | ((with_reducible refine aa (some 20) (.indexAddr 32 (.tmp 3) (.tmp 19)) ?_);go_must (refine ae (.pointer (some ⟨g3,i * 3,none⟩)) rfl (aE i rfl rfl rfl hlt) ?_))
       | ((with_reducible refine aa (some 22) (.load 4 (.tmp 21)) ?_);go_must (refine aQ (.bool true) (bp hu HC0.out) rfl bj ?_))
       | ((with_reducible refine bL (some 47) (.indexAddr 48 (.tmp 45) (.tmp 46)) (some (4,false)) ?_);go_must (refine ae (.pointer (some ⟨bu,0+nn,none⟩)) rfl (cC cM fo nn rfl rfl rfl hnL) ?_))
       | ((with_reducible refine bL (some 48) (.load 3 (.tmp 47)) (some (4,false)) ?_);go_must (refine ae (.int .i64 (z:Int)) rfl (bv (bp hu HCU.out) rfl ak) ?_)))
      go_ret
      exact ⟨by rw [HNO.out ()];rfl,HB0.out.trans (hu.below.mono HB0.out.size)⟩
     ·have hnl:(L:Int)≤(nn:Int):=by omega
      clear hx
      go_wp2_with (first
       | ((with_reducible refine aa (some 20) (.indexAddr 32 (.tmp 3) (.tmp 19)) ?_);go_must (refine ae (.pointer (some ⟨g3,i * 3,none⟩)) rfl (aE i rfl rfl rfl hlt) ?_))
       | ((with_reducible refine aa (some 22) (.load 4 (.tmp 21)) ?_);go_must (refine aQ (.bool true) (bp hu HC0.out) rfl bj ?_)))
      go_ret
      exact ⟨by rw [HNO.out ()];rfl,HB0.out.trans (hu.below.mono HB0.out.size)⟩
    | some E =>
     have hnn:=HIV.out.1
     have hz:(usedL t.held 24)[nn]?=some i:=by rw [hnn];exact usedL_at hlt (by rw [hx];rfl)
     have hnL:nn<L:=by have:=(List.getElem?_eq_some_iff.1 hz).1;rw [HL.out ()] at this;exact this
     obtain ⟨bu,hbu,hcu⟩:=HPU.out (by omega)
     subst hbu
     have HCU:Hid (wu.cell? ⟨bu,0+nn,none⟩=some (.int .i64 (i:Int))):=by show _=_;rw [Nat.zero_add];exact hcu nn i hz
     have hnl:¬(L:Int)≤(nn:Int):=by omega
     have HN1:Hid (nn+1=(usedL t.held (i+1)).length):=by show _=_;rw [eM,hx,List.length_append,←hnn];rfl
     have HFR:Hid (FrTo t.held (i+1) fr):=HIV.out.2.1.same (Or.inl (by rw [hx];rfl))
     have HAG:=HIV.out.2.2
     obtain ⟨Y,hY⟩:∃Y,Y=(unwV (keyB x) i E).1:=⟨_,rfl⟩
     have HY:Hid (Y.length=32):=by rw [hY];exact eh _ _ (HOK.out.ent i E hx).len
     clear hz hcu hnn
     rcases unwV_twoA (keyB x) i E with hc|hc
     ·have hu9:unwV (keyB x) i E=(Y,0):=Prod.ext hY.symm hc
      have HGV:Hid (∀_:Unit,getV t.held (i:Int) (keyB x)=(Y,0)):=fun _=>(dZ hlt hx (keyB x)).trans hu9
      by_cases hyy:Y=keyB y
      ·have HNX:Hid (agB t.held M (i+1)=true):=agB_next HAG (by rw [HMI.out (),hx,cB rfl];exact decide_eq_true (by rw [hu9,hyy]))
       subst hyy
       clear hx hY hc hu9 HAG HIV
       go_wp2_with (first
        | ((with_reducible refine aa (some 20) (.indexAddr 32 (.tmp 3) (.tmp 19)) ?_);go_must (refine ae (.pointer (some ⟨g3,i * 3,none⟩)) rfl (aE i rfl rfl rfl hlt) ?_))
        | ((with_reducible refine aa (some 22) (.load 4 (.tmp 21)) ?_);go_must (refine aQ (.bool true) (bp hu HC0.out) rfl bj ?_))
        | ((with_reducible refine bL (some 47) (.indexAddr 48 (.tmp 45) (.tmp 46)) (some (4,false)) ?_);go_must (refine ae (.pointer (some ⟨bu,0+nn,none⟩)) rfl (cC cM fo nn rfl rfl rfl hnL) ?_))
        | ((with_reducible refine bL (some 48) (.load 3 (.tmp 47)) (some (4,false)) ?_);go_must (refine ae (.int .i64 (i:Int)) rfl (bv (bp hu HCU.out) rfl ak) ?_))
        | ((with_reducible refine aa (some 58) (.indexAddr 32 (.tmp 3) (.tmp 57)) ?_);go_must (refine ae (.pointer (some ⟨g3,i * 3,none⟩)) rfl (aE i rfl rfl rfl hlt) ?_))
        | ((with_reducible refine aa (some 60) (.load 5 (.tmp 59)) ?_);go_must (refine aQ (.int .u8 x) (bp hu HC1.out) rfl aY ?_))
        | (go_at_call 9;refine (aZ _ _).mono ?_;rintro e wk ⟨rfl,hb⟩;replace hu:=hu.call hb;clear hb)
        | (go_at_call 11;go_must (refine (dM g mb kv sb hb d t (i:Int) (keyB x) (aD x) (bg HXB.out) _ (Tab.mem HT.out hu (by simp)) (QTab.mem HQT.out hu (by simp)) (HSA.out.below hu.below)).mono ?_);rintro e wg ⟨he,hb⟩;rw [HGV.out ()] at he;subst he;replace hu:=hu.call hb;clear hb)
        | ((with_reducible refine aa (some 11) (.alloc 39) ?_);go_must (refine aC _ bd ?_);intro wa q11 hba hqa hra;replace hu:=hu.callNew hba hra hqa;clear hba hqa hra)
        | ((with_reducible refine aa none (.store 39 (.tmp 11) (.tmp 63)) ?_);go_must (refine aw (u8s (keyB y)) (hu.get 0 rfl) rfl rfl 32 az (by simp [ab]) (by rw [ab,aD]) (aq _) ?_);intro wb hub hrb;replace hu:=hu.upd 0 rfl hub hrb;clear hub hrb))
       refine au ?_
       refine av (T:=fun W=>Mem wu [] W [(q11,u8s (keyB y),39)]) (by kernel_rfl) hu ?_
       intro wz hbz hmz
       clear hu hbz
       have hu:=hmz
       have HTW:Hid (Mem wu [] wz [(q11,u8s (keyB y),39)]):=hmz
       clear hmz
       refine aT 0 (v:=.int .i64 0) rfl (by kernel_rfl) rfl (fun W _=>by go_simp) HTW.out ?_
       go_simp
       refine aT 1 (v:=.bool false) rfl (by kernel_rfl) rfl (fun W _=>by go_simp) HTW.out ?_
       go_simp
       refine aT 2 (v:=.bool false) rfl (by kernel_rfl) rfl (fun W _=>by go_simp) HTW.out ?_
       go_simp
       refine aG 3 (v:=.agg (u8s (keyB y)).toArray) rfl (by kernel_rfl) rfl (fun W hW=>ao 0 _ (Mem.get hW 0 rfl) rfl _ aS rfl 32 az (by rw [ab,aD y];omega) (by rw [List.drop_zero,List.take_of_length_le (by rw [ab,aD y];omega)])) HTW.out ?_
       go_simp
       refine aG 4 (v:=.int .i64 (i:Int)) rfl (by kernel_rfl) rfl (fun W _=>by go_simp) HTW.out ?_
       go_simp
       refine aG 5 (v:=.pointer (some ⟨g3,i * 3,none⟩)) rfl (by kernel_rfl) rfl (fun W _=>aE i rfl rfl rfl hlt) HTW.out ?_
       go_simp
       refine aG 6 (v:=.pointer (some ⟨g3,i * 3+2,none⟩)) rfl (by kernel_rfl) rfl (fun W _=>by go_simp) HTW.out ?_
       go_simp
       refine aG 7 (v:=.int .u8 y) rfl (by kernel_rfl) rfl (fun W hW=>bv (bp hW HC2.out) rfl aY) HTW.out ?_
       go_simp
       refine aO 8 (by kernel_rfl) rfl rfl ?_
       intro K hK
       go_wp2_with ((go_at_call 9;refine (aZ _ _).mono ?_;rintro e wk ⟨rfl,hb⟩;replace hu:=hu.call hb;clear hb HTW;have HTW:Hid (Mem wu [] wk [(q11,u8s (keyB y),39)]):=hu))
       refine hK _ _ HTW.out ?_
       clear hK K
       go_simp
       refine aG 9 (v:=.bool false) rfl (by kernel_rfl) rfl (fun W _=>jl 5 32 .u8 (keyB y) rfl rfl aS cy be eg_key (aD y)) HTW.out ?_
       go_simp
       refine aT 10 (v:=.bool false) rfl (by kernel_rfl) rfl (fun W _=>by go_simp) HTW.out ?_
       go_simp
       refine wpAnyH_done (by kernel_rfl) ?_ _
       simp only [endsIn]
       clear HTW
       go_wp2_with fail
       go_roundw
       case rel=>exact ⟨i+1,nn+1,fr,by omega,by omega,by go_num,by go_num,rfl,hu.tail,HN1.out,HFR.out,HNX.out⟩
       case measure=>simp [intOf];omega
      ·have HNO:Hid (∀_:Unit,agB t.held M 24=false):=fun _=>gD hlt (by rw [HMI.out (),hx,cB rfl];exact decide_eq_false (by rw [hu9];intro e;exact hyy (Prod.mk.inj e).1))
       have HNE:Hid (Y≠keyB y):=hyy
       clear hx hY hc hu9 HAG hyy HIV
       go_wp2_with (first
        | ((with_reducible refine aa (some 20) (.indexAddr 32 (.tmp 3) (.tmp 19)) ?_);go_must (refine ae (.pointer (some ⟨g3,i * 3,none⟩)) rfl (aE i rfl rfl rfl hlt) ?_))
        | ((with_reducible refine aa (some 22) (.load 4 (.tmp 21)) ?_);go_must (refine aQ (.bool true) (bp hu HC0.out) rfl bj ?_))
        | ((with_reducible refine bL (some 47) (.indexAddr 48 (.tmp 45) (.tmp 46)) (some (4,false)) ?_);go_must (refine ae (.pointer (some ⟨bu,0+nn,none⟩)) rfl (cC cM fo nn rfl rfl rfl hnL) ?_))
        | ((with_reducible refine bL (some 48) (.load 3 (.tmp 47)) (some (4,false)) ?_);go_must (refine ae (.int .i64 (i:Int)) rfl (bv (bp hu HCU.out) rfl ak) ?_))
        | ((with_reducible refine aa (some 58) (.indexAddr 32 (.tmp 3) (.tmp 57)) ?_);go_must (refine ae (.pointer (some ⟨g3,i * 3,none⟩)) rfl (aE i rfl rfl rfl hlt) ?_))
        | ((with_reducible refine aa (some 60) (.load 5 (.tmp 59)) ?_);go_must (refine aQ (.int .u8 x) (bp hu HC1.out) rfl aY ?_))
        | (go_at_call 9;refine (aZ _ _).mono ?_;rintro e wk ⟨rfl,hb⟩;replace hu:=hu.call hb;clear hb)
        | (go_at_call 11;go_must (refine (dM g mb kv sb hb d t (i:Int) (keyB x) (aD x) (bg HXB.out) _ (Tab.mem HT.out hu (by simp)) (QTab.mem HQT.out hu (by simp)) (HSA.out.below hu.below)).mono ?_);rintro e wg ⟨he,hb⟩;rw [HGV.out ()] at he;subst he;replace hu:=hu.call hb;clear hb)
        | ((with_reducible refine aa (some 11) (.alloc 39) ?_);go_must (refine aC _ bd ?_);intro wa q11 hba hqa hra;replace hu:=hu.callNew hba hra hqa;clear hba hqa hra)
        | ((with_reducible refine aa none (.store 39 (.tmp 11) (.tmp 63)) ?_);go_must (refine aw (u8s Y) (hu.get 0 rfl) rfl rfl 32 az (by simp [ab]) (by rw [ab,HY.out]) (aq _) ?_);intro wb hub hrb;replace hu:=hu.upd 0 rfl hub hrb;clear hub hrb))
       refine au ?_
       refine av (T:=fun W=>Mem wu [] W [(q11,u8s Y,39)]) (by kernel_rfl) hu ?_
       intro wz hbz hmz
       clear hu hbz
       have hu:=hmz
       have HTW:Hid (Mem wu [] wz [(q11,u8s Y,39)]):=hmz
       clear hmz
       refine aT 0 (v:=.int .i64 0) rfl (by kernel_rfl) rfl (fun W _=>by go_simp) HTW.out ?_
       go_simp
       refine aT 1 (v:=.bool false) rfl (by kernel_rfl) rfl (fun W _=>by go_simp) HTW.out ?_
       go_simp
       refine aT 2 (v:=.bool false) rfl (by kernel_rfl) rfl (fun W _=>by go_simp) HTW.out ?_
       go_simp
       refine aG 3 (v:=.agg (u8s Y).toArray) rfl (by kernel_rfl) rfl (fun W hW=>ao 0 _ (Mem.get hW 0 rfl) rfl _ aS rfl 32 az (by rw [ab,HY.out];omega) (by rw [List.drop_zero,List.take_of_length_le (by rw [ab,HY.out];omega)])) HTW.out ?_
       go_simp
       refine aG 4 (v:=.int .i64 (i:Int)) rfl (by kernel_rfl) rfl (fun W _=>by go_simp) HTW.out ?_
       go_simp
       refine aG 5 (v:=.pointer (some ⟨g3,i * 3,none⟩)) rfl (by kernel_rfl) rfl (fun W _=>aE i rfl rfl rfl hlt) HTW.out ?_
       go_simp
       refine aG 6 (v:=.pointer (some ⟨g3,i * 3+2,none⟩)) rfl (by kernel_rfl) rfl (fun W _=>by go_simp) HTW.out ?_
       go_simp
       refine aG 7 (v:=.int .u8 y) rfl (by kernel_rfl) rfl (fun W hW=>bv (bp hW HC2.out) rfl aY) HTW.out ?_
       go_simp
       refine aO 8 (by kernel_rfl) rfl rfl ?_
       intro K hK
       go_wp2_with ((go_at_call 9;refine (aZ _ _).mono ?_;rintro e wk ⟨rfl,hb⟩;replace hu:=hu.call hb;clear hb HTW;have HTW:Hid (Mem wu [] wk [(q11,u8s Y,39)]):=hu))
       refine hK _ _ HTW.out ?_
       clear hK K
       go_simp
       refine aG 9 (v:=.bool true) rfl (by kernel_rfl) rfl (fun W _=>exec_neD 5 32 .u8 Y (keyB y) rfl rfl aS cy be eg_key HY.out (aD y) HNE.out) HTW.out ?_
       go_simp
       refine aT 10 (v:=.bool true) rfl (by kernel_rfl) rfl (fun W _=>by go_simp) HTW.out ?_
       go_simp
       refine wpAnyH_done (by kernel_rfl) ?_ _
       simp only [endsIn]
       clear HTW
       go_wp2_with fail
       go_ret
       exact ⟨by rw [HNO.out ()];rfl,HB0.out.trans (hu.below.mono HB0.out.size)⟩
     ·have hu9:unwV (keyB x) i E=(Y,50):=Prod.ext hY.symm hc
      have HGV:Hid (∀_:Unit,getV t.held (i:Int) (keyB x)=(Y,50)):=fun _=>(dZ hlt hx (keyB x)).trans hu9
      have HNO:Hid (∀_:Unit,agB t.held M 24=false):=fun _=>gD hlt (by rw [HMI.out (),hx,cB rfl];exact decide_eq_false (by rw [hu9];intro e;have:=(Prod.mk.inj e).2;omega))
      clear hx hY hc hu9 HAG HIV
      go_wp2_with (first
       | ((with_reducible refine aa (some 20) (.indexAddr 32 (.tmp 3) (.tmp 19)) ?_);go_must (refine ae (.pointer (some ⟨g3,i * 3,none⟩)) rfl (aE i rfl rfl rfl hlt) ?_))
       | ((with_reducible refine aa (some 22) (.load 4 (.tmp 21)) ?_);go_must (refine aQ (.bool true) (bp hu HC0.out) rfl bj ?_))
       | ((with_reducible refine bL (some 47) (.indexAddr 48 (.tmp 45) (.tmp 46)) (some (4,false)) ?_);go_must (refine ae (.pointer (some ⟨bu,0+nn,none⟩)) rfl (cC cM fo nn rfl rfl rfl hnL) ?_))
       | ((with_reducible refine bL (some 48) (.load 3 (.tmp 47)) (some (4,false)) ?_);go_must (refine ae (.int .i64 (i:Int)) rfl (bv (bp hu HCU.out) rfl ak) ?_))
       | ((with_reducible refine aa (some 58) (.indexAddr 32 (.tmp 3) (.tmp 57)) ?_);go_must (refine ae (.pointer (some ⟨g3,i * 3,none⟩)) rfl (aE i rfl rfl rfl hlt) ?_))
       | ((with_reducible refine aa (some 60) (.load 5 (.tmp 59)) ?_);go_must (refine aQ (.int .u8 x) (bp hu HC1.out) rfl aY ?_))
       | (go_at_call 9;refine (aZ _ _).mono ?_;rintro e wk ⟨rfl,hb⟩;replace hu:=hu.call hb;clear hb)
       | (go_at_call 11;go_must (refine (dM g mb kv sb hb d t (i:Int) (keyB x) (aD x) (bg HXB.out) _ (Tab.mem HT.out hu (by simp)) (QTab.mem HQT.out hu (by simp)) (HSA.out.below hu.below)).mono ?_);rintro e wg ⟨he,hb⟩;rw [HGV.out ()] at he;subst he;replace hu:=hu.call hb;clear hb)
       | ((with_reducible refine aa (some 11) (.alloc 39) ?_);go_must (refine aC _ bd ?_);intro wa q11 hba hqa hra;replace hu:=hu.callNew hba hra hqa;clear hba hqa hra)
       | ((with_reducible refine aa none (.store 39 (.tmp 11) (.tmp 63)) ?_);go_must (refine aw (u8s Y) (hu.get 0 rfl) rfl rfl 32 az (by simp [ab]) (by rw [ab,HY.out]) (aq _) ?_);intro wb hub hrb;replace hu:=hu.upd 0 rfl hub hrb;clear hub hrb))
      refine au ?_
      refine av (T:=fun W=>Mem wu [] W [(q11,u8s Y,39)]) (by kernel_rfl) hu ?_
      intro wz hbz hmz
      clear hu hbz
      have hu:=hmz
      have HTW:Hid (Mem wu [] wz [(q11,u8s Y,39)]):=hmz
      clear hmz
      refine aT 0 (v:=.int .i64 50) rfl (by kernel_rfl) rfl (fun W _=>by go_simp) HTW.out ?_
      go_simp
      refine aT 1 (v:=.bool true) rfl (by kernel_rfl) rfl (fun W _=>by go_simp) HTW.out ?_
      go_simp
      refine aT 2 (v:=.bool true) rfl (by kernel_rfl) rfl (fun W _=>by go_simp) HTW.out ?_
      go_simp
      refine ai 3 rfl (by kernel_rfl) (by kernel_rfl) (by kernel_rfl) rfl HTW.out ?_
      go_simp
      refine ai 4 rfl (by kernel_rfl) (by kernel_rfl) (by kernel_rfl) rfl HTW.out ?_
      go_simp
      refine ai 5 rfl (by kernel_rfl) (by kernel_rfl) (by kernel_rfl) rfl HTW.out ?_
      go_simp
      refine ai 6 rfl (by kernel_rfl) (by kernel_rfl) (by kernel_rfl) rfl HTW.out ?_
      go_simp
      refine ai 7 rfl (by kernel_rfl) (by kernel_rfl) (by kernel_rfl) rfl HTW.out ?_
      go_simp
      refine ai 8 rfl (by kernel_rfl) (by kernel_rfl) (by kernel_rfl) rfl HTW.out ?_
      go_simp
      refine ai 9 rfl (by kernel_rfl) (by kernel_rfl) (by kernel_rfl) rfl HTW.out ?_
      go_simp
      refine aT 10 (v:=.bool true) rfl (by kernel_rfl) rfl (fun W _=>by go_simp) HTW.out ?_
      go_simp
      refine wpAnyH_done (by kernel_rfl) ?_ _
      simp only [endsIn]
      clear HTW
      go_wp2_with fail
      go_ret
      exact ⟨by rw [HNO.out ()];rfl,HB0.out.trans (hu.below.mono HB0.out.size)⟩
  ·have hi24:i=24:=by omega
   have hli:¬(i:Int)<24:=by omega
   subst hi24
   have hnL:nn=L:=HIV.out.1.trans (HL.out ())
   subst hnL
   have HFA:Hid (∀_:Unit,freeI t.held=fr):=fun _=>HIV.out.2.1.all
   have HAG:Hid (∀_:Unit,agB t.held M 24=true):=fun _=>HIV.out.2.2
   clear HIV
   go_wp2_with (first
    | (go_at_call 16;go_must (refine (free_any g mb kv sb hb d t _ (HSA.out.below hu.below)).mono ?_);rintro e wf ⟨he,hb⟩;rw [HFA.out ()] at he;subst he;replace hu:=hu.call hb;clear hb))
   go_ret
   exact ⟨by rw [HAG.out ()];rfl,HB0.out.trans (hu.below.mono HB0.out.size)⟩
open Go Go.RowKit Go.Maps
theorem phs_offK {d:Dk} {l:List (Nat×List Int)} (h:(phs d l).2=true):(phs d l).1.off=false:=by
 unfold phs at h ⊢
 by_cases hw:(wrs d l).2=true
 ·rw [if_pos hw] at h ⊢
  by_cases ho:(wrs d l).1.step.off=true
  ·rw [if_pos ho] at h;cases h
  ·rw [if_neg ho]
   show (wrs d l).1.step.off=false
   simpa using ho
 ·rw [if_neg hw] at h
  exact absurd h hw
theorem kps_off:∀(ls:List (List (Nat×List Int))) (d:Dk),d.off=false→(kps d ls).2=true→(kps d ls).1.off=false
 | [],_,h,_=>h
 | l::ls,d,h,h2=>by
  cases hp:(phs d l).2 with
  | true=>rw [cw hp] at h2 ⊢;exact kps_off ls _ (phs_offK hp) h2
  | false=>rw [cX hp,hp] at h2;cases h2
structure Sp (w0 w:World) (g mb:Nat) (kv:Value) (sb hb:Nat) (d:Dk) (t:Slt) (k:Nat) (rows:List (Nat×List Value×TypeId)):Prop where
 mem:Mem w0 [] w rows
 at_:SlAt w g mb kv sb hb d t
 n:64≤d.n
 n2:d.n≤200
 nm:d.Nm k
 new:∀q∈footS g mb kv sb hb,w0.heap.size≤q
 apart:∀r∈rows,r.1 ∉ footS g mb kv sb hb
section
variable {w0 w w':World} {g mb:Nat} {kv:Value} {sb hb:Nat} {d d':Dk} {t t':Slt} {k k':Nat} {rows:List (Nat×List Value×TypeId)}
theorem Sv.sp (h:Sv w0 w g mb kv sb hb d t k rows):Sp w0 w g mb kv sb hb d t k rows:=⟨h.mem,h.at_,h.inv.n,h.inv.n2,h.cm.nm,h.new,h.apart⟩
theorem Sp.sv (h:Sp w0 w g mb kv sb hb d t k rows) (hi:Inv d t) (hl:d.left=0) (ho:d.off=false):Sv w0 w g mb kv sb hb d t k rows:=⟨h.mem,h.at_,hi,⟨hl,ho,h.nm⟩,h.new,h.apart⟩
theorem Sp.below (h:Sp w0 w g mb kv sb hb d t k rows) (hbb:Below w.heap.size w w'):Sp w0 w' g mb kv sb hb d t k rows:=⟨h.mem.call hbb,h.at_.below hbb,h.n,h.n2,h.nm,h.new,h.apart⟩
theorem Sp.turn (h:Sp w0 w g mb kv sb hb d t k rows) (ha:SlAt w' g mb kv sb hb d' t') (hn:d'.n=d.n) (hm:d'.Nm k') (hu:UpdS (footS g mb kv sb hb) w w'):Sp w0 w' g mb kv sb hb d' t' k' rows:=by
 refine ⟨⟨hu.os.trans h.mem.os,hu.tape.trans h.mem.tape,hu.output.trans h.mem.output,Nat.le_trans h.mem.size hu.size,fun q hq hn=>?_,fun r hr=>hu.row (h.mem.row r hr) (h.apart r hr),h.mem.nodup,h.mem.fresh⟩,ha,by rw [hn];exact h.n,by rw [hn];exact h.n2,hm,h.new,h.apart⟩
 refine (hu.block q (Nat.lt_of_lt_of_le hq h.mem.size) (fun hh=>?_)).trans (h.mem.block q hq hn)
 have:=h.new q hh
 omega
theorem Sp.tab (h:Sp w0 w g mb kv sb hb d t k rows) (ht:Tab w0):Tab w:=Tab.mem ht h.mem (by simp)
theorem Sp.qtab (h:Sp w0 w g mb kv sb hb d t k rows) (ht:QTab w0):QTab w:=QTab.mem ht h.mem (by simp)
theorem inv_left_any {d:Dk} {t:Slt} (h:Inv d t) (l:Int):Inv {d with left:=l} t:=⟨h.ok,h.dead,h.n,h.n2,h.pend,h.slot,h.z7,h.cle,h.cnt,h.zero⟩
/-- Power, of a disk that is not off. -/
theorem power_p (h:Sp w0 w g mb kv sb hb d t k rows) (ho:d.off=false) (a:Int) (ha:0≤a) (ha2:a≤1000) :
  Calls Tryz.prog 7 #[.pointer (some ⟨g,0,none⟩),.int .i64 a] w fun e w'=>e=.returned (.tuple #[])∧Sp w0 w' g mb kv sb hb {d with left:=a} t k rows:=by
 have e1:d.power a={d with left:=a}:=by
  unfold Dk.power
  rw [if_neg (by rw [ho];simp)]
  congr 1
  omega
 refine (power_any g mb kv d a w h.at_.dk).mono ?_
 rintro e w' ⟨rfl,h1,h2⟩
 rw [e1] at h1
 exact ⟨rfl,h.turn (h.at_.disk h1 h2) rfl ⟨h.nm.s0,h.nm.s1,ha,ha2⟩ (h2.mono (fun q hq=>by simp [footS,hq]))⟩
end
theorem kps_nmS {d:Dk} {k:Nat} (h:d.Nm k) (p:Nat→Nat→Option (List Int)) (K:Nat) (hn:d.n≤200) (hK:K≤3):(kps d (lsOf p d.n K)).1.Nm (k+1000):=by
 refine (kps_nm _ d k 200 h (fun l hl=>Nat.le_trans (lsOf_len p d.n K l hl) hn)).mono ?_
 rw [e8]
 have:=Nat.mul_le_mul_right 201 hK
 omega
section
variable {w0 w w':World} {g mb:Nat} {kv:Value} {sb hb:Nat} {d d':Dk} {t t':Slt} {k k':Nat} {rows:List (Nat×List Value×TypeId)}
theorem put_p (h:Sp w0 w g mb kv sb hb d t k rows) (hI:Inv d t) (ho:d.off=false) (ht:Tab w0) (hq:QTab w0) (hk:k≤1000000) (hp:t.puts<200) (i:Nat) (hi:i<24) (kek key:List Int) (hkl:kek.length=32) (hkb:Bytes kek) (hyl:key.length=32) (hyb:Bytes key) :
  Calls Tryz.prog 8 #[.pointer (some ⟨sb,0,none⟩),.int .i64 (i:Int),.agg (u8s kek).toArray,.agg (u8s key).toArray] w fun e w' =>
   (e=.returned (.int .i64 0)∧∃D,Sp w0 w' g mb kv sb hb D (putS t i (entN t i kek key)) (k+1000) rows∧Inv D (putS t i (entN t i kek key))∧D.off=false) ∨
   (e=.returned (.int .i64 61)∧∃D,Sp w0 w' g mb kv sb hb D {t with dead:=true} (k+1000) rows∧∀cs,∃y p,(y=t.held i∨y=none∨y=some (entN t i kek key))∧(p=t.puts∨p=t.puts+1)∧Tn (D.crash cs) ⟨upf t.held i y,p,false⟩):=by
 have hN:=iI (k:=i) (kek:=kek) hp hyl hyb
 have hnm:(putR d t i (entN t i kek key)).1.Nm (k+1000):=kps_nmS h.nm _ 2 h.n2 (by omega)
 cases hr:(putR d t i (entN t i kek key)).2 with
 | true =>
  have hP:=put_inv hI hp hi hN hr
  refine (put_good g mb kv sb hb d t i hi kek key k hkl hkb hyl hyb hI.dead hp h.n h.n2 h.nm hk w (h.tab ht) (h.qtab hq) h.at_ hr).mono ?_
  rintro e w' ⟨rfl,h1,h2⟩
  exact Or.inl ⟨rfl,_,h.turn h1 hP.2 hnm h2,hP.1,kps_off _ _ ho hr⟩
 | false =>
  have hn:(putR d t i (entN t i kek key)).1.n=d.n:=(iL hI.pend (eB hI.ok hN hi hI.n 0) hr).1
  refine (put_cut g mb kv sb hb d t i hi kek key k hkl hkb hyl hyb hI.dead hp h.n h.n2 h.nm hk w (h.tab ht) (h.qtab hq) h.at_ hr).mono ?_
  rintro e w' ⟨rfl,h1,h2⟩
  exact Or.inr ⟨rfl,_,h.turn h1 hn hnm h2,put_torn hI hp hi hN hr⟩
theorem erase_p (h:Sp w0 w g mb kv sb hb d t k rows) (hI:Inv d t) (ho:d.off=false) (hk:k≤1000000) (i:Nat) (hi:i<24) :
  Calls Tryz.prog 10 #[.pointer (some ⟨sb,0,none⟩),.int .i64 (i:Int)] w fun e w' =>
   (e=.returned (.int .i64 0)∧∃D,Sp w0 w' g mb kv sb hb D (eraS t i) (k+1000) rows∧Inv D (eraS t i)∧D.off=false) ∨
   (e=.returned (.int .i64 61)∧∃D,Sp w0 w' g mb kv sb hb D {t with dead:=true} (k+1000) rows∧∀cs,∃y,(y=t.held i∨y=none)∧Tn (D.crash cs) ⟨upf t.held i y,t.puts,false⟩):=by
 have hnm:(eraR d t i).1.Nm (k+1000):=kps_nmS h.nm _ 2 h.n2 (by omega)
 cases hr:(eraR d t i).2 with
 | true =>
  have hP:=erase_inv hI hi hr
  refine (jo g mb kv sb hb d t i hi k hI.dead h.n h.n2 h.nm hk w h.at_ hr).mono ?_
  rintro e w' ⟨rfl,h1,h2⟩
  exact Or.inl ⟨rfl,_,h.turn h1 hP.2 hnm h2,hP.1,kps_off _ _ ho hr⟩
 | false =>
  have hn:(eraR d t i).1.n=d.n:=(iL hI.pend (eA hI.ok hi hI.n 0) hr).1
  refine (erase_cut g mb kv sb hb d t i hi k hI.dead h.n h.n2 h.nm hk w h.at_ hr).mono ?_
  rintro e w' ⟨rfl,h1,h2⟩
  exact Or.inr ⟨rfl,_,h.turn h1 hn hnm h2,era_torn hI hi hr⟩
theorem Sp.old (h:Sp w0 w g mb kv sb hb d t k rows) {v:Value} {cs:List Int} (hv:SlOld w0 v cs):SlA w (foot g mb kv) v cs:=SlA.of_old hv h.mem (fun q hq=>h.new q (by simp [footS,hq]))
theorem Sp.foot2 (h:Sp w0 w g mb kv sb hb d t k rows):∀q∈foot g mb kv,2≤q:=fun q hq=>h.at_.two q (by simp [footS,hq])
theorem crash_p (h:Sp w0 w g mb kv sb hb d t k rows) (cs:List Int) (vc:Value) (hcb:Bytes cs) (hs:SlA w (foot g mb kv) vc cs) :
  Calls Tryz.prog 13 #[.pointer (some ⟨g,0,none⟩),vc] w fun e w'=>e=.returned (.tuple #[])∧Sp w0 w' g mb kv sb hb (d.crash cs) t k rows:=by
 refine (crash_any g mb kv d cs vc hcb w h.at_.dk hs).mono ?_
 rintro e w' ⟨rfl,h1,h2⟩
 exact ⟨rfl,h.turn (h.at_.disk h1 h2) rfl (iX h.nm cs).nm (h2.mono (fun q hq=>by simp [footS,hq]))⟩
/-- Open of a disk at rest, whatever slots stood there. -/
theorem open_p {T:Slt} (h:Sp w0 w g mb kv sb hb d t k rows) (hT:Tn d T) (hl:d.left=0) (ho:d.off=false) (ht:Tab w0) (hk:k≤1000000) :
  Calls Tryz.prog 14 #[.pointer (some ⟨g,0,none⟩)] w fun e w'=>∃s2 h2,e=.returned (.tuple #[.pointer (some ⟨s2,0,none⟩),.int .i64 0])∧∃D,Sv w0 w' g mb kv s2 h2 D T (k+1000) rows:=by
 have e1:=tn_load hT
 refine (openS_any g mb kv d k ho hl h.n h.n2 h.nm hk (by rw [e1];exact hT.ok) h.foot2 w (h.tab ht) h.at_.dk).mono ?_
 rintro e w' ⟨s2,h2,rfl,ha,hs,hh,hu⟩
 rw [e1] at ha
 have hu2:UpdS (footS g mb kv sb hb) w w':=hu.mono (fun q hq=>by simp [footS,hq])
 refine ⟨s2,h2,rfl,_,⟨⟨hu.os.trans h.mem.os,hu.tape.trans h.mem.tape,hu.output.trans h.mem.output,Nat.le_trans h.mem.size hu.size,fun q hq hn=>?_,fun r hr=>hu2.row (h.mem.row r hr) (h.apart r hr),h.mem.nodup,h.mem.fresh⟩,ha,(tn_open hT hl ho).1,cm_open ⟨hl,ho,h.nm⟩ h.n2,fun q hq=>?_,fun r hr hk=>?_⟩⟩
 ·refine (hu.block q (Nat.lt_of_lt_of_le hq h.mem.size) (fun hh=>?_)).trans (h.mem.block q hq hn)
  have:=h.new q (by simp [footS,hh])
  omega
 ·have h9:=h.mem.size
  simp only [footS,List.mem_cons] at hq
  rcases hq with rfl|rfl|hq
  ·omega
  ·omega
  ·exact h.new q (by simp [footS,hq])
 ·have h8:=(h.mem.row r hr).lt
  have h9:=h.apart r hr
  simp only [footS,List.mem_cons] at hk h9
  rcases hk with e|e|hk
  ·omega
  ·omega
  ·exact h9 (Or.inr (Or.inr hk))
/-- A dead one refuses. -/
theorem put_dead (h:Sp w0 w g mb kv sb hb d t k rows) (hd:t.dead=true) (i:Int) (kek key:List Int) :
  Calls Tryz.prog 8 #[.pointer (some ⟨sb,0,none⟩),.int .i64 i,.agg (u8s kek).toArray,.agg (u8s key).toArray] w fun e w'=>e=.returned (.int .i64 260)∧Sp w0 w' g mb kv sb hb d t k rows:=by
 have hr:refI t i=260:=by unfold refI;rw [if_pos hd]
 refine (put_no g mb kv sb hb d t i kek key (by rw [hr];omega) w h.at_).mono ?_
 rintro e w' ⟨rfl,h1⟩
 exact ⟨by rw [hr],h.below h1⟩
theorem alike_s (h:Sv w0 w g mb kv sb hb d t k rows) (ht:Tab w0) (hq:QTab w0) (M:Nat→Mdl) (hM:∀i,i<24→(0≤(M i).2.1∧(M i).2.1<256)∧0≤(M i).2.2∧(M i).2.2<256) :
  Calls Tryz.prog 15 #[.pointer (some ⟨sb,0,none⟩),.agg (modL M 24).toArray] w fun e w'=>e=.returned (.bool (agB t.held M 24))∧Sv w0 w' g mb kv sb hb d t k rows:=by
 refine (alike_any g mb kv sb hb d t M hM w (h.tab ht) (h.qtab hq) h.at_ h.inv.ok).mono ?_
 rintro e w' ⟨rfl,h1⟩
 exact ⟨rfl,h.below h1⟩
end
end Go.Proofs.YtnllomcajijbjaaGreatDoor
