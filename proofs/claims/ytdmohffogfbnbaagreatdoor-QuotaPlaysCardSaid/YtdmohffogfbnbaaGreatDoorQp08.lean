import Derived.Test.YtdmohffogfbnbaaGreatDoorQp07
import Derived.Shelf.SlMaps.Clone
import Derived.Laws.Cover3
set_option maxRecDepth 100000
set_option maxHeartbeats 4000000
namespace Go.Proofs.YtdmohffogfbnbaaGreatDoor
open Go Go.RowKit Go.Maps
theorem kids_n {w:World} {nb m c:Nat} {p:Nms} (h:NmAt w nb m c p) (hcc:c≤90000) (s:ByteArray) :
  Calls Tryz.prog 38 #[.pointer (some ⟨nb,0,none⟩),.string s] w fun e w'=>∃v,e=.returned v∧StN w.heap.size w' v (kidsN p s)∧Below w.heap.size w w':=by
 have hm:=Mem.start w
 have HR:Hid (NmAt w nb m c p):=h
 have HOK:Hid (NmOk p):=h.ok
 obtain ⟨q,hq,km⟩:=h.map
 have hmlt:=km.lt
 have hnlt:=Row.lt h.row
 have HKM:Hid (KM Tryz.prog 63 w m q (NmK p)):=km
 obtain ⟨T,hT⟩:∃T:List ByteArray→Bool,T=kT s:=⟨_,rfl⟩
 have HTT:Hid (∀ks,T ks=(decide (tx ks.dropLast=s) && !decide (ks=[]))):=fun ks=>by rw [hT];rfl
 have HTN:Hid (∀_:Unit,(kidsN p s)=(p.filter fun x=>T x.1).map fun x=>lastS x.1):=fun _=>by rw [hT];rfl
 clear h km hT
 go_enter Tryz.func38,Tryz.ntmps38
 go_wp2_with (first
  | ((with_reducible refine ab (some 10) (.load 67 (.tmp 9)) ?_);go_must (refine aa (.map (some m)) rfl (ad 0 (.map (some m)) ((HR.out.below hm.below).row) rfl cE rfl) ?_))
  | ((with_reducible refine ab (some 11) (.range 67 (.tmp 10)) ?_);go_must (refine ff (HKM.out.below hm.below) aQ bW rfl ?_);intro w2 r D hrg hD hb2 hr1 hr2))
 go_frame
 have hw1:=hm.size
 have hz2:=hb2.size
 have hrB:r<w2.heap.size:=hr2
 have hwr:w.heap.size≤r:=by omega
 have hwB:w.heap.size≤w2.heap.size:=by omega
 have HDD:Hid (∀k kl,keyOf Tryz.prog 63 k=some kl→(Maps.has D kl=true↔∃v,NmK p k v)):=hD
 have HB2:Hid (Below w.heap.size w w2):=aD hm.below hm.size hb2
 have HU0:Hid (ColW w2 w2 r 9 1 kF (.slice none 0 0) []∧ColL p T D [] (Maps.has D)∧w2.ranges Tryz.prog 63 rdV m r q D (Maps.has D) (Maps.size D)):=⟨⟨Upd.refl _ _,⟨rfl,Or.inl ⟨rfl,rfl⟩⟩⟩,ColL.start hD,hrg⟩
 clear hm hb2 hrg hD hw1 hr1 hr2 hz2
 go_loopw [5] (fun vx wr=>∃v L left cnt,v=vx∧L.length+cnt≤q∧Hid (ColW w2 wr r 9 1 kF v L∧ColL p T D L left∧wr.ranges Tryz.prog 63 rdV m r q D left cnt)) (fun _ wr=>wr.rangeLeft m r)
 case atStart=>exact ⟨_,[],_,_,rfl,by have:=d9 HU0.out.2.2;simp only [List.length_nil];omega,HU0⟩
 case round =>
  obtain ⟨v,L,left,cnt,rfl,hlc,HU⟩:=hrel
  rcases World.ranges.next HU.out.2.2 aQ 0 with ⟨h0,hl0,hrun⟩|⟨key,vv,kl,y,w3,cnt',hkey,hlk,hv,hat,hrun,hrg1,hlt,hgr1,hsz,hen⟩
  ·have HRUN:Hid ((Instr.next (.pointer (some ⟨r,0,none⟩)) false 0).run Tryz.prog wr=.ok (.tuple #[.bool false]) wr):=hrun
   have HPERM:Hid ((L.map lastS).Perm (kidsN p s)):=by
    rw [HTN.out ()]
    have h1:=(HU.out.2.1.whole HOK.out hl0).map lastS
    rw [List.map_map] at h1
    exact h1
   have HBW:Hid (Below w.heap.size w wr):=be HB2.out HU.out.1.upd hwr hwB
   clear hrun hl0
   rcases HU.out.1.own.2 with ⟨hv,hz⟩|⟨g,cap,cur,hv,hgb,hgc,r1,r2,r3,r4⟩
   ·subst hv
    have hL:L=[]:=List.length_eq_zero_iff.1 hz
    subst hL
    have HE:Hid (∀_:Unit,kidsN p s=[]):=fun _=>(List.nil_perm.1 HPERM.out)
    go_wp2_with (first
     | ((with_reducible refine ab (some 12) (.next (.tmp 11) false) ?_);go_must (refine aC HRUN.out rfl ?_))
     | (go_at_call 60;refine (show Calls Tryz.prog 60 _ _ _ from AnyM.slices_Sort_string_none sortS none 0 _).mono ?_;rintro e w' ⟨he,hw⟩;subst he hw))
    go_ret
    exact ⟨_,rfl,⟨none,0,by rw [HE.out ()];rfl,fun h=>absurd h (by rw [HE.out ()];simp)⟩,HBW.out⟩
   ·subst hv
    have HSO:Hid (∀_:Unit,Calls Tryz.prog 60 #[.slice (some ⟨g,0,none⟩) L.length cap] wr fun e w'=>e=.returned (.tuple #[])∧(∀i x,(kidsN p s)[i]?=some x→w'.cell? ⟨g,i,none⟩=some (.string x))∧wr.grownBy w' (some g)):=fun _=>by
     have h1:=sort_s (w:=wr) (g:=g) (cap:=cap) (L.map lastS) cur _ hgc (fun i x hi=>?_) (by rw [List.length_map];omega) (kidsN p s) HPERM.out (kidsN_srt HOK.out s)
     ·rw [List.length_map] at h1
      exact h1
     ·rw [List.getElem?_map,Option.map_eq_some_iff] at hi
      obtain ⟨ks,hi,rfl⟩:=hi
      have h2:=flat_getN kF1 hi 0 (.string (lastS ks)) rfl
      have h3:=World.ownsRow.cells HU.out.1.own rfl _ _ h2
      rw [bn,Nat.zero_add,Nat.add_zero,Nat.mul_one] at h3
      exact h3
    obtain ⟨N,hN⟩:∃N,N=L.length:=⟨_,rfl⟩
    have HN9:Hid (∀_:Unit,N=L.length):=fun _=>hN
    rw [←hN] at HSO ⊢
    clear hN r1 r2 r3 r4 hgc
    go_wp2_with (first
     | ((with_reducible refine ab (some 12) (.next (.tmp 11) false) ?_);go_must (refine aC HRUN.out rfl ?_))
     | (go_at_call 60;refine (HSO.out ()).mono ?_;rintro e w' ⟨he,hc9,hg9⟩;subst he;have H9:Hid ((∀i x,(kidsN p s)[i]?=some x→w'.cell? ⟨g,i,none⟩=some (.string x))∧wr.grownBy w' (some g)):=⟨hc9,hg9⟩;clear hc9 hg9))
    go_ret
    obtain ⟨hc9,hg9⟩:=H9.out
    have hglt:=(World.ownsRow.lt HU.out.1.own g rfl).2
    have hN8:N=(kidsN p s).length:=by rw [HN9.out (),←HPERM.out.length_eq,List.length_map]
    refine ⟨.slice (some ⟨g,0,none⟩) N cap,rfl,⟨some ⟨g,0,none⟩,cap,by rw [←hN8],fun _=>⟨g,rfl,by omega,Nat.lt_of_lt_of_le hglt hg9.size,hc9⟩⟩,?_⟩
    exact ⟨hg9.os.trans HBW.out.os,hg9.tape.trans HBW.out.tape,hg9.output.trans HBW.out.output,Nat.le_trans HBW.out.size hg9.size,fun k hk=>(hg9.block k (Nat.lt_of_lt_of_le hk HBW.out.size) (by simp;omega)).trans (HBW.out.block k hk)⟩
  ·obtain ⟨v0,x0,hx0,hke,_⟩:=(HDD.out key kl hkey).1 (HU.out.2.1.sub kl hlk)
   obtain ⟨ks,hks⟩:∃ks,ks=x0.1:=⟨_,rfl⟩
   rw [←hks] at hke
   subst hke
   have hk:PlOk ks:=by rw [hks];exact HOK.out.ok x0 hx0
   have HKS:Hid (∀_:Unit,PlOk ks):=fun _=>hk
   have HRUN:Hid ((Instr.next (.pointer (some ⟨r,0,none⟩)) false 0).run Tryz.prog wr=.ok (.tuple #[.bool true,.agg (pvv ks).toArray,vv]) w3):=hrun
   have HEN:Hid ((Instr.entry (.pointer (some ⟨r,0,none⟩))).run Tryz.prog w3=.ok (.tuple #[.agg (pvv ks).toArray,vv]) w3):=hen
   have HU1:Hid (ColW w2 w3 r 9 1 kF v L):=HU.out.1.next hgr1 hrB
   have HRG:Hid (w3.ranges Tryz.prog 63 rdV m r q D (fun z=>left z && !z.sameKey kl) cnt'):=hrg1
   have HKEY:Hid (keyOf Tryz.prog 63 (.agg (pvv ks).toArray)=some kl∧left kl=true∧hasN p ks=true):=⟨hkey,hlk,aE.2 ⟨x0,hx0,hks.symm⟩⟩
   have hm:=Mem.start w3
   have HNE:Hid (∀k,k<w2.heap.size→some k≠v.ownBlock):=fun k hk=>HU1.out.ne hk
   obtain ⟨y0,hy0⟩:∃y,y=tx ks.dropLast:=⟨_,rfl⟩
   obtain ⟨x1,hx1⟩:∃x,x=lastS ks:=⟨_,rfl⟩
   have HY0:Hid ((pvv ks)[0]?=some (.string y0)):=by rw [hy0];rfl
   have HX1:Hid ((pvv ks)[1]?=some (.string x1)):=by rw [hx1];rfl
   have HKF:Hid (∀_:Unit,[Value.string x1]=kF ks):=fun _=>by rw [hx1];rfl
   obtain ⟨N,hN⟩:∃N,N=L.length:=⟨_,rfl⟩
   have HN9:Hid (∀_:Unit,N=L.length):=fun _=>hN
   have hN9:N≤100000:=by omega
   have HTK:Hid (T ks=(decide (y0=s) && !decide (ks=[]))):=by rw [hy0];exact HTT.out ks
   clear hrun hen hgr1 hrg1 hkey hlk hk hv hat hsz hks hx0 hN hy0 hx1
   by_cases h1:y0=s
   ·have HE1:Hid (∀_:Unit,(y0==s)=true):=fun _=>by rw [de,decide_eq_true h1]
    by_cases h2:ks=[]
    ·have HE2:Hid (∀_:Unit,(!false)=decide (ks=[])):=fun _=>by rw [decide_eq_true h2];rfl
     have HTB:Hid (∀_:Unit,T ks=false):=fun _=>by rw [HTK.out,decide_eq_true h1,decide_eq_true h2];rfl
     clear h1 h2
     go_wp2_with (first
      | ((with_reducible refine ab (some 12) (.next (.tmp 11) false) ?_);go_must (refine aC HRUN.out rfl ?_))
      | ((with_reducible refine ab (some 14) (.entry (.tmp 11)) ?_);go_must (refine aa (.tuple #[.agg (pvv ks).toArray,vv]) rfl (aN HEN.out rfl) ?_))
      | ((with_reducible refine ab (some 6) (.alloc 63) ?_);refine ae _ aL hm ?_;clear hm;intro w4 g6 hm)
      | ((with_reducible refine ab none (.store 63 (.tmp 6) (.tmp 15)) ?_);refine af 0 (pvv ks) hm rfl rfl rfl 2 au rfl rfl (aI _) ?_;clear hm;intro w5 hm))
     refine am ?_
     refine ag (T:=fun W=>Mem w3 [] W [(g6,pvv ks,63)]) (by kernel_rfl) hm ?_
     intro wc hbw hmw
     clear hm
     have hm:=hmw
     clear hbw hmw
     refine aT 0 (v:=.pointer (some ⟨g6,0,none⟩)) rfl (by kernel_rfl) rfl (fun W _=>by go_simp) hm ?_
     go_simp
     refine aT 1 (v:=.string y0) rfl (by kernel_rfl) rfl (fun W hW=>ad 0 (.string y0) (Mem.get hW 0 rfl) rfl aj (HY0.out)) hm ?_
     go_simp
     refine aT 2 (v:=.string s) rfl (by kernel_rfl) rfl (fun W _=>by go_simp) hm ?_
     go_simp
     refine aT 3 (v:=.bool true) rfl (by kernel_rfl) rfl (fun W _=>aM y0 s true rfl rfl (HE1.out ())) hm ?_
     go_simp
     refine aT 4 (v:=.bool true) rfl (by kernel_rfl) rfl (fun W _=>by go_simp) hm ?_
     go_simp
     refine aG 5 (v:=.agg (pvv ks).toArray) rfl (by kernel_rfl) rfl (fun W hW=>al 0 (pvv ks) (Mem.get hW 0 rfl) rfl _ aH rfl 2 au (Nat.le_refl 2) rfl) hm ?_
     go_simp
     refine aO 6 (by kernel_rfl) rfl rfl ?_
     intro K hK
     go_wp2_with (go_at_call 28;refine (bG _).mono ?_;rintro e w' ⟨he,hb⟩;subst he;replace hm:=hm.call hb;clear hb)
     refine hK _ _ hm ?_
     clear hK K
     go_simp
     refine aG 7 (v:=.bool false) rfl (by kernel_rfl) rfl (fun W _=>exec_neN (HKS.out ()) PlOk.nil (!false) (HE2.out ()) rfl rfl) hm ?_
     go_simp
     refine aT 8 (v:=.bool false) rfl (by kernel_rfl) rfl (fun W _=>by go_simp) hm ?_
     go_simp
     refine wpAnyH_done (by kernel_rfl) ?_ _
     simp only [endsIn]
     go_wp2_with fail
     go_roundw
     case rel =>
      exact ⟨v,L,_,cnt',rfl,by omega,⟨HU1.out.below hm.below,HU.out.2.1.skip (HKS.out ()) HKEY.out.1 (HTB.out ()),HRG.out.kept (an hm.below) (by simp) (by simp)⟩⟩
     case measure =>
      rw [(HRG.out.kept (an hm.below) (by simp) (by simp)).left_eq,HU.out.2.2.left_eq]
      exact hlt
    ·have HE2:Hid (∀_:Unit,(!true)=decide (ks=[])):=fun _=>by rw [decide_eq_false h2];rfl
     have HTB:Hid (∀_:Unit,T ks=true):=fun _=>by rw [HTK.out,decide_eq_true h1,decide_eq_false h2];rfl
     clear h1 h2
     go_wp2_with (first
      | ((with_reducible refine ab (some 12) (.next (.tmp 11) false) ?_);go_must (refine aC HRUN.out rfl ?_))
      | ((with_reducible refine ab (some 14) (.entry (.tmp 11)) ?_);go_must (refine aa (.tuple #[.agg (pvv ks).toArray,vv]) rfl (aN HEN.out rfl) ?_))
      | ((with_reducible refine ab (some 6) (.alloc 63) ?_);refine ae _ aL hm ?_;clear hm;intro w4 g6 hm)
      | ((with_reducible refine ab none (.store 63 (.tmp 6) (.tmp 15)) ?_);refine af 0 (pvv ks) hm rfl rfl rfl 2 au rfl rfl (aI _) ?_;clear hm;intro w5 hm))
     refine am ?_
     refine ag (T:=fun W=>Mem w3 [] W [(g6,pvv ks,63)]) (by kernel_rfl) hm ?_
     intro wc hbw hmw
     clear hm
     have hm:=hmw
     clear hbw hmw
     refine aT 0 (v:=.pointer (some ⟨g6,0,none⟩)) rfl (by kernel_rfl) rfl (fun W _=>by go_simp) hm ?_
     go_simp
     refine aT 1 (v:=.string y0) rfl (by kernel_rfl) rfl (fun W hW=>ad 0 (.string y0) (Mem.get hW 0 rfl) rfl aj (HY0.out)) hm ?_
     go_simp
     refine aT 2 (v:=.string s) rfl (by kernel_rfl) rfl (fun W _=>by go_simp) hm ?_
     go_simp
     refine aT 3 (v:=.bool true) rfl (by kernel_rfl) rfl (fun W _=>aM y0 s true rfl rfl (HE1.out ())) hm ?_
     go_simp
     refine aT 4 (v:=.bool true) rfl (by kernel_rfl) rfl (fun W _=>by go_simp) hm ?_
     go_simp
     refine aG 5 (v:=.agg (pvv ks).toArray) rfl (by kernel_rfl) rfl (fun W hW=>al 0 (pvv ks) (Mem.get hW 0 rfl) rfl _ aH rfl 2 au (Nat.le_refl 2) rfl) hm ?_
     go_simp
     refine aO 6 (by kernel_rfl) rfl rfl ?_
     intro K hK
     go_wp2_with (go_at_call 28;refine (bG _).mono ?_;rintro e w' ⟨he,hb⟩;subst he;replace hm:=hm.call hb;clear hb)
     refine hK _ _ hm ?_
     clear hK K
     go_simp
     refine aG 7 (v:=.bool true) rfl (by kernel_rfl) rfl (fun W _=>exec_neN (HKS.out ()) PlOk.nil (!true) (HE2.out ()) rfl rfl) hm ?_
     go_simp
     refine aT 8 (v:=.bool true) rfl (by kernel_rfl) rfl (fun W _=>by go_simp) hm ?_
     go_simp
     refine wpAnyH_done (by kernel_rfl) ?_ _
     simp only [endsIn]
     go_wp2_with (first
      | ((with_reducible refine ab (some 27) (.load 9 (.tmp 26)) ?_);refine aw 0 1 (.string x1) hm rfl rfl aj HX1.out ?_)
      | ((with_reducible refine ab (some 28) (.buildSlice 37 1 #[(0,.tmp 27)]) ?_);go_must (refine bK rfl (.string noStr) (.string x1) aW bL rfl rfl rfl hm ?_);clear hm;intro w6 g8 hb6 hm;clear hb6)
      | ((with_reducible refine ab (some 29) (.call {callee:=.builtin .append,args:=#[.tmp 25,.tmp 28],argTypes:=#[37,37]}) ?_);go_must (refine bg (.string noStr) 1 16 rfl aW bD rfl (by omega) (by omega) (n:=N) (cs:=L.flatMap kF) (by rw [HN9.out ()];exact aq HU1.out.own hm.below) (Nat.le_trans HU1.out.upd.size hm.size) rfl rfl (hm.get 0 rfl) rfl (cP x1) hN9 ?_);intro v9 w9 ho9 hg9 hl9;have H9:Hid (w9.ownsRow w2.heap.size 9 1 v9 (N+1) (L.flatMap kF++[.string x1])):=ho9;have HG9:Hid (World.grownBy _ w9 (Value.ownBlock v)):=hg9;clear ho9 hg9 hl9))
     go_roundw
     case rel =>
      exact ⟨v9,L++[ks],_,cnt',rfl,by rw [List.length_append];simp only [List.length_cons,List.length_nil];omega,⟨(HU1.out.below hm.below).app HG9.out (by rw [←HN9.out (),←HKF.out ()];exact H9.out),HU.out.2.1.more (HKS.out ()) HKEY.out.1 HKEY.out.2.2 HKEY.out.2.1 (HTB.out ()),((HRG.out.kept (an hm.below) (by simp) (by simp)).kept HG9.out (HNE.out m (by omega)) (HNE.out r (by omega)))⟩⟩
     case measure =>
      rw [((HRG.out.kept (an hm.below) (by simp) (by simp)).kept HG9.out (HNE.out m (by omega)) (HNE.out r (by omega))).left_eq,HU.out.2.2.left_eq]
      exact hlt
   ·have HE1:Hid (∀_:Unit,(y0==s)=false):=fun _=>cv h1
    have HTB:Hid (∀_:Unit,T ks=false):=fun _=>by rw [HTK.out,decide_eq_false h1];rfl
    clear h1
    go_wp2_with (first
     | ((with_reducible refine ab (some 12) (.next (.tmp 11) false) ?_);go_must (refine aC HRUN.out rfl ?_))
     | ((with_reducible refine ab (some 14) (.entry (.tmp 11)) ?_);go_must (refine aa (.tuple #[.agg (pvv ks).toArray,vv]) rfl (aN HEN.out rfl) ?_))
     | ((with_reducible refine ab (some 6) (.alloc 63) ?_);refine ae _ aL hm ?_;clear hm;intro w4 g6 hm)
     | ((with_reducible refine ab none (.store 63 (.tmp 6) (.tmp 15)) ?_);refine af 0 (pvv ks) hm rfl rfl rfl 2 au rfl rfl (aI _) ?_;clear hm;intro w5 hm))
    refine am ?_
    refine ag (T:=fun W=>Mem w3 [] W [(g6,pvv ks,63)]) (by kernel_rfl) hm ?_
    intro wc hbw hmw
    clear hm
    have hm:=hmw
    clear hbw hmw
    refine aT 0 (v:=.pointer (some ⟨g6,0,none⟩)) rfl (by kernel_rfl) rfl (fun W _=>by go_simp) hm ?_
    go_simp
    refine aT 1 (v:=.string y0) rfl (by kernel_rfl) rfl (fun W hW=>ad 0 (.string y0) (Mem.get hW 0 rfl) rfl aj (HY0.out)) hm ?_
    go_simp
    refine aT 2 (v:=.string s) rfl (by kernel_rfl) rfl (fun W _=>by go_simp) hm ?_
    go_simp
    refine aT 3 (v:=.bool false) rfl (by kernel_rfl) rfl (fun W _=>aM y0 s false rfl rfl (HE1.out ())) hm ?_
    go_simp
    refine aT 4 (v:=.bool false) rfl (by kernel_rfl) rfl (fun W _=>by go_simp) hm ?_
    go_simp
    refine aJ 5 rfl (by kernel_rfl) (by kernel_rfl) (by kernel_rfl) rfl hm ?_
    go_simp
    refine aJ 6 rfl (by kernel_rfl) (by kernel_rfl) (by kernel_rfl) rfl hm ?_
    go_simp
    refine aJ 7 rfl (by kernel_rfl) (by kernel_rfl) (by kernel_rfl) rfl hm ?_
    go_simp
    refine aT 8 (v:=.bool false) rfl (by kernel_rfl) rfl (fun W _=>by go_simp) hm ?_
    go_simp
    refine wpAnyH_done (by kernel_rfl) ?_ _
    simp only [endsIn]
    go_wp2_with fail
    go_roundw
    case rel =>
     exact ⟨v,L,_,cnt',rfl,by omega,⟨HU1.out.below hm.below,HU.out.2.1.skip (HKS.out ()) HKEY.out.1 (HTB.out ()),HRG.out.kept (an hm.below) (by simp) (by simp)⟩⟩
    case measure =>
     rw [(HRG.out.kept (an hm.below) (by simp) (by simp)).left_eq,HU.out.2.2.left_eq]
     exact hlt
open Go Go.RowKit Go.Maps
section
variable {P:Program} {kT:TypeId} {ops:Array Oper} {rest:List Oper} {a:Act} {w w0 w1:World} {Q:Exit→Act→World→Prop} {dst:Option Tmp} {typ:TypeId} {pos:String} {aft:Array Edge} {gd:Option (Nat×Bool)} {S:List Nat} {rows:List (Nat×List Value×TypeId)}
theorem exec_fldS {x:Operand} (V X:List Value) (hV:V.length=5) (hx:a.eval x=.agg (V++X).toArray) :
  (execOp a.eval {dst:=dst,op:=.field 66 x 0,type:=typ,pos:=pos,after:=aft,guard:=gd}).run Tryz.prog w=.ok (.value (.agg V.toArray)) w:=by
 have h5:List.take 5 (V++X)=V:=by rw [←hV,List.take_left]
 unfold execOp
 simp only [hx,Instr.field,Sem.run_bind,run_underlying Tryz.underlying66,Result.andThen_ok]
 simp [part,asAgg,Tryz.isAgg50,Tryz.sizeOf50,h5,Sem.run_bind,Result.andThen_ok]
theorem dW {ty:TypeId} {x:Operand} (l:List Value) (hx:a.eval x=.agg l.toArray) (hm:Mem w0 S w rows)
  (h:∀w' g,Mem w0 S w' ((g,l,ty)::rows)→Below w.heap.size w w'→wpList P ops Q rest (a.put dst (.pointer (some ⟨g,0,none⟩))) w') :
  wpList P ops Q ({dst:=dst,op:=.box ty x,type:=typ,pos:=pos,after:=aft,guard:=none}::rest) a w:=by
 refine wpList_plain rfl fun K hK=>?_
 have hh:=hK _ _ (h _ _ (hm.alloc l ty) ((Below.refl _ _).alloc (Nat.le_refl _) _))
 unfold Oper.wp execOp
 simp [Instr.box,newVar,newRow,newObj,hx,Value.cells]
 exact hh
theorem aA {ty:TypeId} {x:Operand} {b:Nat} (off n:Nat) (cs:List Value) (d:TypeDesc) (hx:a.eval x=.pointer (some ⟨b,off,none⟩)) (hc:∀j v,cs[j]?=some v→w.cell? ⟨b,off+j,none⟩=some v) (hu:P.underlying ty=some d)
  (hd:(match d with | .struct _ | .array _ _=>true|_=>false)=true) (hi:(P.info? ty).map (·.size)=some n) (hn:cs.length=n) :
  (execOp a.eval {dst:=dst,op:=.load ty x,type:=typ,pos:=pos,after:=aft,guard:=gd}).run P w=.ok (.value (.agg cs.toArray)) w:=by
 unfold execOp
 simp only [hx,Instr.loadAt,Instr.sureAddr,Sem.run_bind,Sem.run_pure,Result.andThen_ok,eV w b off n ty cs d hc hu hd hi hn]
theorem ap {t e:TypeId} {x ix:Operand} {b n cap:Nat} (K i:Nat) {ii:Int} (hu:P.underlying t=some (.slice e)) (hs:(P.info? e).map (·.size)=some K) (hx:a.eval x=.slice (some ⟨b,0,none⟩) n cap) (hix:a.eval ix=.int .i64 ii) (hii:ii=(i:Int)) (hi:i<n) :
  (execOp a.eval {dst:=dst,op:=.indexAddr t x ix,type:=typ,pos:=pos,after:=aft,guard:=gd}).run P w=.ok (.value (.pointer (some ⟨b,i * K,none⟩))) w:=by
 subst hii
 have h0:(0:Int)≤(i:Int)∧(i:Int)<(n:Int):=by omega
 have hsz:(sizeOf e).run P w=.ok K w:=by
  cases hq:P.info? e with
  | none=>simp [hq] at hs
  | some q =>
   have hs1:q.size=K:=by simpa [hq] using hs
   simp [sizeOf,typeInfo,hq,hs1]
 unfold execOp
 simp [hx,hix,Instr.indexAt,asIntOf,run_underlying hu,hsz,h0,bn]
 omega
end
theorem Mem.grownT {w0 w w':World} {S:List Nat} {rows:List (Nat×List Value×TypeId)} {base:Nat} {e:TypeId} {K:Nat} {v:Value} {n:Nat} {cs:List Value} (hm:Mem w0 S w rows) (hg:w.grownBy w' v.ownBlock) (ho:w.ownsRow base e K v n cs) (hty:∀r∈rows,r.2.2≠e) (hw:w0.heap.size≤base):Mem w0 S w' rows:=by
 have hne:∀k,k<base→some k≠v.ownBlock:=fun k hk e=>by have:=(World.ownsRow.lt ho k e.symm).1;omega
 refine ⟨hg.os.trans hm.os,hg.tape.trans hm.tape,hg.output.trans hm.output,Nat.le_trans hm.size hg.size,fun k hk hn=>?_,fun r hr=>?_,hm.nodup,hm.fresh⟩
 ·exact (hg.block k (Nat.lt_of_lt_of_le hk hm.size) (hne k (by omega))).trans (hm.block k hk hn)
 ·have h1:=hm.row r hr
  refine (hg.block r.1 (Row.lt h1) (fun e2=>?_)).trans h1
  rcases ho.2 with ⟨hv,_⟩|⟨g,cap,cur,hv,_,hcur,_⟩
  ·rw [hv] at e2;cases e2
  ·rw [hv] at e2
   have e3:r.1=g:=Option.some.inj e2
   rw [←e3] at hcur
   unfold Row at h1
   rw [hcur] at h1
   simp only [Option.some.injEq,Obj.cells.injEq] at h1
   exact hty r hr h1.2.1.symm
theorem Mem.link {w0 w1 w2:World} {S:List Nat} {rows:List (Nat×List Value×TypeId)} (h1:Mem w0 S w1 []) (h2:Mem w1 [] w2 rows):Mem w0 S w2 rows:=by
 refine ⟨h2.os.trans h1.os,h2.tape.trans h1.tape,h2.output.trans h1.output,Nat.le_trans h1.size h2.size,fun k hk hn=>(h2.block k (Nat.lt_of_lt_of_le hk h1.size) (by simp)).trans (h1.block k hk hn),h2.row,h2.nodup,fun r hr=>?_⟩
 rcases h2.fresh r hr with h|h
 ·exact absurd h (by simp)
 ·exact Or.inr (Nat.le_trans h1.size h)
theorem Mem.weak {w0 w:World} {S:List Nat} {rows:List (Nat×List Value×TypeId)} (h:Mem w0 [] w rows):Mem w0 S w rows :=
 ⟨h.os,h.tape,h.output,h.size,fun k hk _=>h.block k hk (by simp),h.row,h.nodup,fun r hr=>Or.inr ((h.fresh r hr).resolve_left (by simp))⟩
theorem own_upd {w w':World} {B g:Nat} {e:TypeId} {K:Nat} {v:Value} {n:Nat} {cs:List Value} (ho:w.ownsRow B e K v n cs) (hu:Upd g w w') (hg:g<B):w'.ownsRow B e K v n cs:=by
 refine World.ownsRow.kept ho (row:=some g) ⟨hu.os,hu.tape,hu.output,hu.size,fun k hk hn=>hu.block k hk (fun e=>hn (by rw [e]))⟩ ?_
 cases hv:v.ownBlock with
 | none=>exact Or.inl rfl
 | some k =>
  refine Or.inr (fun e=>?_)
  have:=(World.ownsRow.lt ho k hv).1
  simp only [Option.some.injEq] at e
  omega
theorem built_sp (b e:Int):Tryz.prog.built 50 [(1,.int .i64 b),(2,.int .i64 e)]=some (spc [] b e).toArray:=by kernel_rfl
theorem built_nn (m:Nat):Tryz.prog.built 69 [(0,.map (some m))]=some [Value.map (some m)].toArray:=by kernel_rfl
def spwz (ks:List ByteArray) (b e:Int):List Value:=spw (ks,b,e,0,0,0,0)
theorem built_sw (ks:List ByteArray) (b e:Int):Tryz.prog.built 66 [(0,.agg (spc ks b e).toArray)]=some (spwz ks b e).toArray:=by kernel_rfl
theorem nmK_new (b e:Int) (k v:Value):putK (fun _ _=>False) (.agg (pvv []).toArray) (.agg (spwz [] (heldI b) (heldI e)).toArray) k v↔NmK (newN b e) k v:=by
 constructor
 ·rintro (⟨rfl,rfl⟩|⟨_,h⟩)
  ·exact ⟨_,List.mem_singleton.2 rfl,rfl,rfl⟩
  ·exact h.elim
 ·rintro ⟨x,hx,rfl,rfl⟩
  rw [List.mem_singleton.1 hx]
  exact Or.inl ⟨rfl,rfl⟩
open Go Go.RowKit Go.Maps
theorem new_n (b e:Int) (w:World) :
  Calls Tryz.prog 8 #[.int .i64 b,.int .i64 e] w fun e_ w'=>∃nb m,e_=.returned (.pointer (some ⟨nb,0,none⟩))∧w.heap.size≤nb∧w.heap.size≤m∧NmAt w' nb m 1 (newN b e)∧Below w.heap.size w w':=by
 have hm:=Mem.start w
 obtain ⟨hb,hhb⟩:∃x,x=heldI b:=⟨_,rfl⟩
 obtain ⟨he,hhe⟩:∃x,x=heldI e:=⟨_,rfl⟩
 have HHB:Hid (∀_:Unit,hb=heldI b):=fun _=>hhb
 have HHE:Hid (∀_:Unit,he=heldI e):=fun _=>hhe
 have HH:Hid (∀W,Calls Tryz.prog 27 #[.agg (spc [] b e).toArray] W fun e_ w'=>e_=.returned (.agg (spc [] hb he).toArray)∧Below W.heap.size W w'):=fun W=>by rw [hhb,hhe];exact held_n [] b e W
 obtain ⟨kl,hkl⟩:=dF PlOk.nil
 have HKL:Hid (keyOf Tryz.prog 63 (.agg (pvv []).toArray)=some kl):=hkl
 clear hhb hhe hkl
 go_enter Tryz.func8,Tryz.ntmps8
 go_wp2_with (first
  | ((with_reducible refine ab (some 8) (.build 50 #[(1,.tmp 6),(2,.tmp 7)]) ?_);refine az (spc [] b e) [(1,.int .i64 b),(2,.int .i64 e)] rfl (built_sp b e) ?_)
  | (go_at_call 27;refine (HH.out _).mono ?_;rintro e_ w' ⟨he_,hb_⟩;subst he_;replace hm:=hm.call hb_;clear hb_)
  | ((with_reducible refine ab (some 5) (.alloc 50) ?_);refine ae _ aS hm ?_;clear hm;intro w2 g5 hm)
  | ((with_reducible refine ab none (.store 50 (.tmp 5) (.tmp 9)) ?_);refine af 0 (spc [] hb he) hm rfl rfl rfl 5 ao rfl rfl (bl _ _ _) ?_;clear hm;intro w3 hm))
 refine am ?_
 refine ag (T:=fun W=>∃l,Mem w [] W (l++[(g5,spc [] hb he,50)])) (by kernel_rfl) hm ?_
 intro wc hbw hmw
 clear hm
 have hm:=hmw
 clear hbw hmw
 refine aT 2 (v:=.agg (spc [] hb he).toArray) rfl (by kernel_rfl) rfl (fun W hW=>by obtain ⟨l,hW⟩:=hW;exact al 0 (spc [] hb he) (hW.row (g5,spc [] hb he,50) (by simp)) rfl _ bf rfl 5 ao (Nat.le_refl 5) rfl) ⟨[],hm⟩ ?_
 go_simp
 refine aT 3 (v:=.agg (spwz [] hb he).toArray) rfl (by kernel_rfl) rfl (fun W _=>cL _ [(0,.agg (spc [] hb he).toArray)] (by go_simp) (built_sw [] hb he)) ⟨[],hm⟩ ?_
 go_simp
 refine wpAnyH_all (rs:=[0,1]) (by kernel_rfl) (by simp) ?_
 intro i hi
 simp only [List.mem_cons,List.not_mem_nil,or_false] at hi
 rcases hi with rfl|rfl
 ·refine di 0 rfl rfl ?_
  intro Kc hK
  refine dw hm ?_
  clear hm
  intro w4 m hmap hwm hm
  have HKM:Hid (KM Tryz.prog 63 w4 m 0 (fun _ _=>False)):=KM.new hmap
  clear hmap
  refine wpList_nil ?_
  refine hK _ _ ⟨[],hm⟩ ?_
  clear hK Kc
  go_simp
  refine aO 1 (by kernel_rfl) rfl rfl ?_
  intro K hK
  go_wp2_with (go_at_call 28;refine (bG _).mono ?_;rintro e w' ⟨he,hb⟩;subst he;replace HKM:Hid (KM Tryz.prog 63 w' m 0 (fun _ _=>False)):=HKM.out.below hb;replace hm:=hm.call hb;clear hb)
  refine hK _ _ ⟨[],hm⟩ ?_
  clear hK K
  go_simp
  refine aO 4 (by kernel_rfl) rfl rfl ?_
  intro K hK
  refine d8 HKM.out aQ bW (by omega) HKL.out rfl rfl rfl ?_
  intro w6 km6 hu6
  obtain ⟨es6,c6,hes6⟩:=HKM.out.isMap
  replace hm:=hm.updO hes6 (Or.inr hwm) hu6
  have HK6:Hid (KM Tryz.prog 63 w6 m 1 (putK (fun _ _=>False) (.agg (pvv []).toArray) (.agg (spwz [] hb he).toArray))):=km6
  clear HKM km6 hu6 hes6 es6 c6
  refine wpList_nil ?_
  refine hK _ _ ⟨[],hm⟩ ?_
  clear hK K
  go_simp
  refine aT 5 (v:=.map (some m)) rfl (by kernel_rfl) rfl (fun W _=>by go_simp) ⟨[],hm⟩ ?_
  go_simp
  refine aT 6 (v:=.agg [Value.map (some m)].toArray) rfl (by kernel_rfl) rfl (fun W _=>cL _ [(0,.map (some m))] (by go_simp) (built_nn m)) ⟨[],hm⟩ ?_
  go_simp
  refine aO 7 (by kernel_rfl) rfl rfl ?_
  intro K hK
  refine dW [.map (some m)] rfl hm ?_
  clear hm
  intro w7 nb hm hb7
  have HK7:Hid (KM Tryz.prog 63 w7 m 1 (putK (fun _ _=>False) (.agg (pvv []).toArray) (.agg (spwz [] hb he).toArray))):=HK6.out.below hb7
  clear HK6 hb7
  refine wpList_nil ?_
  refine hK _ _ ⟨[_],hm⟩ ?_
  clear hK K
  go_simp
  refine aT 8 (v:=.pointer (some ⟨nb,0,none⟩)) rfl (by kernel_rfl) rfl (fun W _=>by go_simp) ⟨[_],hm⟩ ?_
  go_simp
  refine wpAnyH_done (by kernel_rfl) ?_ _
  simp only [endsIn]
  go_wp2_with fail
  go_ret
  refine ⟨nb,m,rfl,(hm.fresh _ (List.mem_cons_self ..)).resolve_left (by simp),hwm,⟨hm.get 0 rfl,⟨1,Nat.le_refl _,?_⟩,NmOk.new b e⟩,hm.below⟩
  have h9:=HK7.out
  rw [HHB.out (),HHE.out ()] at h9
  exact h9.same (nmK_new b e)
 ·refine di 1 rfl rfl ?_
  intro Kc hK
  go_wp2_with (go_at_call 28;refine (bG _).mono ?_;rintro e w' ⟨he,hb⟩;subst he;replace hm:=hm.call hb;clear hb)
  refine hK _ _ ⟨[],hm⟩ ?_
  clear hK Kc
  go_simp
  refine aO 0 (by kernel_rfl) rfl rfl ?_
  intro K hK
  refine dw hm ?_
  clear hm
  intro w4 m hmap hwm hm
  have HKM:Hid (KM Tryz.prog 63 w4 m 0 (fun _ _=>False)):=KM.new hmap
  clear hmap
  refine wpList_nil ?_
  refine hK _ _ ⟨[],hm⟩ ?_
  clear hK K
  go_simp
  refine aO 4 (by kernel_rfl) rfl rfl ?_
  intro K hK
  refine d8 HKM.out aQ bW (by omega) HKL.out rfl rfl rfl ?_
  intro w6 km6 hu6
  obtain ⟨es6,c6,hes6⟩:=HKM.out.isMap
  replace hm:=hm.updO hes6 (Or.inr hwm) hu6
  have HK6:Hid (KM Tryz.prog 63 w6 m 1 (putK (fun _ _=>False) (.agg (pvv []).toArray) (.agg (spwz [] hb he).toArray))):=km6
  clear HKM km6 hu6 hes6 es6 c6
  refine wpList_nil ?_
  refine hK _ _ ⟨[],hm⟩ ?_
  clear hK K
  go_simp
  refine aT 5 (v:=.map (some m)) rfl (by kernel_rfl) rfl (fun W _=>by go_simp) ⟨[],hm⟩ ?_
  go_simp
  refine aT 6 (v:=.agg [Value.map (some m)].toArray) rfl (by kernel_rfl) rfl (fun W _=>cL _ [(0,.map (some m))] (by go_simp) (built_nn m)) ⟨[],hm⟩ ?_
  go_simp
  refine aO 7 (by kernel_rfl) rfl rfl ?_
  intro K hK
  refine dW [.map (some m)] rfl hm ?_
  clear hm
  intro w7 nb hm hb7
  have HK7:Hid (KM Tryz.prog 63 w7 m 1 (putK (fun _ _=>False) (.agg (pvv []).toArray) (.agg (spwz [] hb he).toArray))):=HK6.out.below hb7
  clear HK6 hb7
  refine wpList_nil ?_
  refine hK _ _ ⟨[_],hm⟩ ?_
  clear hK K
  go_simp
  refine aT 8 (v:=.pointer (some ⟨nb,0,none⟩)) rfl (by kernel_rfl) rfl (fun W _=>by go_simp) ⟨[_],hm⟩ ?_
  go_simp
  refine wpAnyH_done (by kernel_rfl) ?_ _
  simp only [endsIn]
  go_wp2_with fail
  go_ret
  refine ⟨nb,m,rfl,(hm.fresh _ (List.mem_cons_self ..)).resolve_left (by simp),hwm,⟨hm.get 0 rfl,⟨1,Nat.le_refl _,?_⟩,NmOk.new b e⟩,hm.below⟩
  have h9:=HK7.out
  rw [HHB.out (),HHE.out ()] at h9
  exact h9.same (nmK_new b e)
def getV (p:Nms) (s:ByteArray):List Value:=if isP (bs s)&&hasN p (segsB s) then lookV p (segsB s) else spZ
def getB (p:Nms) (s:ByteArray):Bool:=isP (bs s)&&hasN p (segsB s)
theorem get_n {w:World} {nb m c:Nat} {p:Nms} (h:NmAt w nb m c p) (s:ByteArray) (hs:s.size≤1000) (hM:MaxL w) :
  Calls Tryz.prog 26 #[.pointer (some ⟨nb,0,none⟩),.string s] w fun e w'=>e=.returned (.tuple #[.agg (getV p s).toArray,.bool (getB p s)])∧Below w.heap.size w w':=by
 have hm:=Mem.start w
 have HM:Hid (MaxL w):=hM
 have HR:Hid (NmAt w nb m c p):=h
 obtain ⟨ks,hks⟩:∃ks,ks=segsB s:=⟨_,rfl⟩
 have hk:PlOk ks:=by rw [hks];exact aR s
 have HKS:Hid (∀_:Unit,PlOk ks):=fun _=>hk
 obtain ⟨b0,hb0⟩:∃b,b=isP (bs s):=⟨_,rfl⟩
 obtain ⟨b1,hb1⟩:∃b,b=hasN p ks:=⟨_,rfl⟩
 obtain ⟨V,hV⟩:∃V,V=lookV p ks:=⟨_,rfl⟩
 have HV:Hid (∀_:Unit,V=lookV p ks):=fun _=>hV
 have HV5:Hid (V.length=5):=by rw [hV];exact lookV5 p ks
 obtain ⟨X,hX⟩:∃X:List Value,lookW p ks=lookV p ks++X:=by obtain ⟨x,y,h⟩:=look_part p ks;exact ⟨_,h⟩
 have HVW:Hid (∀_:Unit,V++X=lookW p ks):=fun _=>by rw [hV,hX]
 clear hX
 have HV1:Hid (∀v∈V,v.oneCell'=true):=by rw [hV];exact lookV_one p ks
 have HGB0:Hid (∀_:Unit,getB p s=(b0&&b1)):=fun _=>by rw [getB,hb0,hb1,hks]
 have HGV0:Hid (∀_:Unit,getV p s=if b0&&b1 then V else spZ):=fun _=>by rw [getV,hb0,hb1,hV,hks]
 have HPL:Hid (∀W,MaxL W→Calls Tryz.prog 34 #[.string s] W fun e w'=>e=.returned (.tuple #[.agg (pvv ks).toArray,.bool b0])∧Below W.heap.size W w'):=fun W hW=>by rw [hks,hb0];exact du s W hs hW
 have HH:Hid (∀W,Below w.heap.size w W→Calls Tryz.prog 36 #[.pointer (some ⟨nb,0,none⟩),.agg (pvv ks).toArray] W fun e w'=>e=.returned (.bool b1)∧Below W.heap.size W w'):=fun W hW=>has_n hk b1 hb1 W (HR.out.below hW)
 clear h hs hM hks hk hb0 hb1 hV
 cases b0 with
 | false =>
  have HGB:Hid (∀_:Unit,getB p s=false):=fun _=>by rw [HGB0.out ()];rfl
  have HGV:Hid (∀_:Unit,getV p s=spZ):=fun _=>by rw [HGV0.out ()];rfl
  go_enter Tryz.func26,Tryz.ntmps26
  go_wp2_with (first
   | ((with_reducible refine ab (some 4) (.alloc 50) ?_);refine ae _ aS hm ?_;clear hm;intro w1 g4 hm)
   | (go_at_call 34;refine (HPL.out _ (HM.out.below hm.below)).mono ?_;rintro e w' ⟨he,hb⟩;subst he;replace hm:=hm.call hb;clear hb)
   | ((with_reducible refine ab (some 6) (.alloc 63) ?_);refine ae _ aL hm ?_;clear hm;intro w2 g6 hm)
   | ((with_reducible refine ab none (.store 63 (.tmp 6) (.tmp 11)) ?_);refine af 0 (pvv ks) hm rfl rfl rfl 2 au rfl rfl (aI _) ?_;clear hm;intro w3 hm)
   | ((with_reducible refine ab (some 21) (.build 50 #[]) ?_);refine az spZ [] rfl (by kernel_rfl) ?_)
   | ((with_reducible refine ab none (.store 50 (.tmp 4) (.tmp 21)) ?_);refine af 1 spZ hm rfl rfl rfl 5 ao rfl rfl (bl [] 0 0) ?_;clear hm;intro w5 hm))
  refine ce 1 (.bool false) hm rfl Tryz.results26 rfl rfl _ bf rfl 5 ao rfl rfl ?_
  exact ⟨by rw [HGV.out (),HGB.out ()],hm.below⟩
 | true =>
  cases b1 with
  | false =>
   have HGB:Hid (∀_:Unit,getB p s=false):=fun _=>by rw [HGB0.out ()];rfl
   have HGV:Hid (∀_:Unit,getV p s=spZ):=fun _=>by rw [HGV0.out ()];rfl
   go_enter Tryz.func26,Tryz.ntmps26
   go_wp2_with (first
    | ((with_reducible refine ab (some 4) (.alloc 50) ?_);refine ae _ aS hm ?_;clear hm;intro w1 g4 hm)
    | (go_at_call 34;refine (HPL.out _ (HM.out.below hm.below)).mono ?_;rintro e w' ⟨he,hb⟩;subst he;replace hm:=hm.call hb;clear hb)
    | ((with_reducible refine ab (some 6) (.alloc 63) ?_);refine ae _ aL hm ?_;clear hm;intro w2 g6 hm)
    | ((with_reducible refine ab none (.store 63 (.tmp 6) (.tmp 11)) ?_);refine af 0 (pvv ks) hm rfl rfl rfl 2 au rfl rfl (aI _) ?_;clear hm;intro w3 hm)
    | ((with_reducible refine ax (some 17) (.load 63 (.tmp 6)) (some (2,false)) ?_);go_must (refine aa (.agg (pvv ks).toArray) rfl (al 0 (pvv ks) (hm.get 0 rfl) rfl _ aH rfl 2 au (Nat.le_refl 2) rfl) ?_))
    | (go_at_call 36;refine (HH.out _ hm.below).mono ?_;rintro e w' ⟨he,hb⟩;subst he;replace hm:=hm.call hb;clear hb)
    | ((with_reducible refine ab (some 21) (.build 50 #[]) ?_);refine az spZ [] rfl (by kernel_rfl) ?_)
    | ((with_reducible refine ab none (.store 50 (.tmp 4) (.tmp 21)) ?_);refine af 1 spZ hm rfl rfl rfl 5 ao rfl rfl (bl [] 0 0) ?_;clear hm;intro w5 hm))
   refine ce 1 (.bool false) hm rfl Tryz.results26 rfl rfl _ bf rfl 5 ao rfl rfl ?_
   exact ⟨by rw [HGV.out (),HGB.out ()],hm.below⟩
  | true =>
   have HGB:Hid (∀_:Unit,getB p s=true):=fun _=>by rw [HGB0.out ()];rfl
   have HGV:Hid (∀_:Unit,getV p s=V):=fun _=>by rw [HGV0.out ()];rfl
   go_enter Tryz.func26,Tryz.ntmps26
   go_wp2_with (first
    | ((with_reducible refine ab (some 4) (.alloc 50) ?_);refine ae _ aS hm ?_;clear hm;intro w1 g4 hm)
    | (go_at_call 34;refine (HPL.out _ (HM.out.below hm.below)).mono ?_;rintro e w' ⟨he,hb⟩;subst he;replace hm:=hm.call hb;clear hb)
    | ((with_reducible refine ab (some 6) (.alloc 63) ?_);refine ae _ aL hm ?_;clear hm;intro w2 g6 hm)
    | ((with_reducible refine ab none (.store 63 (.tmp 6) (.tmp 11)) ?_);refine af 0 (pvv ks) hm rfl rfl rfl 2 au rfl rfl (aI _) ?_;clear hm;intro w3 hm)
    | ((with_reducible refine ax (some 17) (.load 63 (.tmp 6)) (some (2,false)) ?_);go_must (refine aa (.agg (pvv ks).toArray) rfl (al 0 (pvv ks) (hm.get 0 rfl) rfl _ aH rfl 2 au (Nat.le_refl 2) rfl) ?_))
    | (go_at_call 36;refine (HH.out _ hm.below).mono ?_;rintro e w' ⟨he,hb⟩;subst he;replace hm:=hm.call hb;clear hb))
   refine am ?_
   refine ag (T:=fun W=>∃l,Mem w [] W [(g6,pvv ks,63),(g4,l,50)]) (by kernel_rfl) hm ?_
   intro wc hbw hmw
   clear hm
   have hm:=hmw
   clear hbw hmw
   refine aT 0 (v:=.pointer (some ⟨nb,0,none⟩)) rfl (by kernel_rfl) rfl (fun W _=>by go_simp) ⟨_,hm⟩ ?_
   go_simp
   refine aT 1 (v:=.pointer (some ⟨nb,0,none⟩)) rfl (by kernel_rfl) rfl (fun W _=>by go_simp) ⟨_,hm⟩ ?_
   go_simp
   refine aT 2 (v:=.pointer (some ⟨nb,0,none⟩)) rfl (by kernel_rfl) rfl (fun W _=>by go_simp) ⟨_,hm⟩ ?_
   go_simp
   refine aT 3 (v:=.map (some m)) rfl (by kernel_rfl) rfl (fun W hW=>by obtain ⟨l,hW⟩:=hW;exact ad 0 (.map (some m)) ((HR.out.below hW.below).row) rfl cE rfl) ⟨_,hm⟩ ?_
   go_simp
   refine aT 4 (v:=.agg (pvv ks).toArray) rfl (by kernel_rfl) rfl (fun W hW=>by obtain ⟨l,hW⟩:=hW;exact al 0 (pvv ks) (Mem.get hW 0 rfl) rfl _ aH rfl 2 au (Nat.le_refl 2) rfl) ⟨_,hm⟩ ?_
   go_simp
   refine aT 5 (v:=.agg (V++X).toArray) rfl (by kernel_rfl) rfl (fun W hW=>by obtain ⟨l,hW⟩:=hW;exact co ((HR.out.below hW.below).look1 (HKS.out ()) (V++X) (HVW.out ())) rfl rfl) ⟨_,hm⟩ ?_
   go_simp
   refine aT 6 (v:=.agg V.toArray) rfl (by kernel_rfl) rfl (fun W _=>exec_fldS V X HV5.out rfl) ⟨_,hm⟩ ?_
   go_simp
   refine aO 7 (by kernel_rfl) rfl rfl ?_
   intro K hK
   refine af 1 V hm rfl rfl rfl 5 ao rfl HV5.out HV1.out ?_
   clear hm
   intro w5 hm
   refine wpList_nil ?_
   refine hK _ _ ⟨_,hm⟩ ?_
   clear hK K
   go_simp
   refine aT 8 (v:=.bool true) rfl (by kernel_rfl) rfl (fun W _=>by go_simp) ⟨_,hm⟩ ?_
   go_simp
   refine wpAnyH_done (by kernel_rfl) ?_ _
   simp only [endsIn]
   go_wp2_with fail
   refine ce 1 (.bool true) hm rfl Tryz.results26 rfl rfl _ bf rfl 5 ao HV5.out rfl ?_
   exact ⟨by rw [HGV.out (),HGB.out ()],hm.below⟩
open Go Go.RowKit Go.Maps
def SpN (B:Nat) (w:World) (v:Value) (l:Nms):Prop :=
 ∃p cap,v=.slice p l.length cap∧(0<l.length→∃b,p=some ⟨b,0,none⟩∧B≤b∧b<w.heap.size∧∀i x,l[i]?=some x→∀j u,(spv x)[j]?=some u→w.cell? ⟨b,i * 5+j,none⟩=some u)
theorem flat_sp {l:Nms}:∀ {i:Nat} {x:Sp},l[i]?=some x→∀j u,(spv x)[j]?=some u→(l.flatMap spv)[i * 5+j]?=some u:=by
 induction l with
 | nil=>intro i x h;simp at h
 | cons y l ih =>
  intro i x h j u hu
  have hj5:j<5:=by
   rcases Nat.lt_or_ge j 5 with h'|h'
   ·exact h'
   ·rw [List.getElem?_eq_none (by rw [show (spv x).length=5 from rfl];exact h')] at hu;cases hu
  rw [List.flatMap_cons]
  cases i with
  | zero =>
   simp only [List.getElem?_cons_zero,Option.some.injEq] at h
   subst h
   rw [Nat.zero_mul,Nat.zero_add,List.getElem?_append_left (by rw [show (spv y).length=5 from rfl];exact hj5)]
   exact hu
  | succ i =>
   rw [List.getElem?_append_right (by rw [show (spv y).length=5 from rfl];omega),show (spv y).length=5 from rfl,show (i+1) * 5+j - 5=i * 5+j by omega]
   exact ih (by simpa using h) j u hu
theorem spn_of_own {w:World} {B N:Nat} {v:Value} {l:Nms} (h:w.ownsRow B 50 5 v N (l.flatMap spv)) (hN:N=l.length):SpN B w v l:=by
 have hl:=World.ownsRow.lt h
 have hc:=@World.ownsRow.cells _ _ _ _ _ _ _ h
 rcases h.2 with ⟨hv,h0⟩|⟨g,cap,cur,hv,_⟩
 ·subst hv
  have hl0:l=[]:=List.length_eq_zero_iff.1 (by omega)
  subst hl0
  exact ⟨none,0,rfl,fun h=>absurd h (by simp)⟩
 ·subst hv
  refine ⟨some ⟨g,0,none⟩,cap,by rw [hN],fun _=>⟨g,rfl,(hl g rfl).1,(hl g rfl).2,fun i x hx j u hu=>?_⟩⟩
  have h2:=hc (g:=g) rfl _ _ (flat_sp hx j u hu)
  rw [bn,Nat.zero_add] at h2
  exact h2
theorem undN_root (p:Nms):undN p []=p:=by
 unfold undN
 rw [List.filter_eq_self]
 intro x _
 unfold undB
 simp
theorem np_ne_sp (g:Nat) (l:List Value):∀r∈[((g,l,63):Nat×List Value×TypeId)],r.2.2≠50:=by
 intro r hr
 rw [List.mem_singleton.1 hr]
 show (63:Nat)≠50
 decide
theorem all_n {w:World} {nb m c:Nat} {p:Nms} (h:NmAt w nb m c p) (hcc:c≤90000) (hpl:p.length≤90000) (hM:MaxL w) :
  Calls Tryz.prog 23 #[.pointer (some ⟨nb,0,none⟩)] w fun e w'=>∃v,e=.returned v∧SpN w.heap.size w' v p∧Below w.heap.size w w':=by
 have hm:=Mem.start w
 have HM:Hid (MaxL w):=hM
 have HR:Hid (NmAt w nb m c p):=h
 have HOK:Hid (NmOk p):=h.ok
 obtain ⟨N,hN⟩:∃N,N=p.length:=⟨_,rfl⟩
 have HN:Hid (∀_:Unit,N=p.length):=fun _=>hN
 have hN9:N≤90000:=by omega
 have HU:Hid (∀W,Below w.heap.size w W→Calls Tryz.prog 46 #[.pointer (some ⟨nb,0,none⟩),.agg (pvv []).toArray] W fun e w'=>∃p0 cap,e=.returned (.slice p0 N cap)∧(0<N→∃b,p0=some ⟨b,0,none⟩∧b<w'.heap.size∧∀i x,p[i]?=some x→∀j u,(pvv x.1)[j]?=some u→w'.cell? ⟨b,i * 2+j,none⟩=some u)∧Below W.heap.size W w'):=fun W hW=>by
  refine (under_n (HR.out.below hW) hcc (HM.out.below hW) PlOk.nil).mono ?_
  rintro e w' ⟨v,rfl,⟨p0,cap,hv,hc⟩,hb⟩
  rw [undN_root,List.length_map,←hN] at hv hc
  refine ⟨p0,cap,by rw [hv],fun h0=>?_,hb⟩
  obtain ⟨b,h1,_,h3,h4⟩:=hc h0
  exact ⟨b,h1,h3,fun i x hx j u hu=>h4 i x.1 (by rw [List.getElem?_map,hx];rfl) j u hu⟩
 clear h hM hN hpl
 go_enter Tryz.func23,Tryz.ntmps23
 go_wp2_with (first
  | (go_at_call 28;refine (bG _).mono ?_;rintro e w' ⟨he,hb⟩;subst he;replace hm:=hm.call hb;clear hb)
  | (go_at_call 46;refine (HU.out _ hm.below).mono ?_;rintro e w2 ⟨p0,cap,he,hcc2,hb⟩;subst he;have HC2:Hid (0<N→∃b,p0=some ⟨b,0,none⟩∧b<w2.heap.size∧∀i x,p[i]?=some x→∀j u,(pvv x.1)[j]?=some u→w2.cell? ⟨b,i * 2+j,none⟩=some u):=hcc2;clear hcc2;replace hm:=hm.call hb;clear hb))
 have HB2:Hid (Below w.heap.size w w2):=hm.below
 have hz2:=hm.size
 have HR2:Hid (NmAt w2 nb m c p):=HR.out.below HB2.out
 have HM0:Hid (Mem w2 [] w2 []):=Mem.start w2
 have HO0:Hid (w2.ownsRow w2.heap.size 50 5 (.slice none 0 0) 0 ((p.take 0).flatMap spv)):=⟨rfl,Or.inl ⟨rfl,rfl⟩⟩
 clear hm HU
 go_loopw [10,3] (fun vi va wr=>∃k:Nat,k≤N∧vi=.int .i64 (k:Int)∧∃vb,vb=va∧Hid (Mem w2 [] wr [])∧Hid (wr.ownsRow w2.heap.size 50 5 vb k ((p.take k).flatMap spv))) (fun vi _ _=>match vi with | .int _ k=>N - k.toNat|_=>0)
 case atStart=>exact ⟨0,by omega,rfl,_,rfl,HM0,HO0⟩
 case round =>
  obtain ⟨k,hk,rfl,va,rfl,HMM,HOW⟩:=hrel
  by_cases hlt:k<N
  ·have hki:(k:Int)<(N:Int):=by omega
   have hw:IntKind.i64.wrap ((k:Int)+1)=(k:Int)+1:=bO _ (by omega) (by omega)
   have hk9:k≤100000:=by omega
   have hkp:k<p.length:=by rw [←HN.out ()];exact hlt
   obtain ⟨x,hx⟩:∃x,x=p[k]:=⟨_,rfl⟩
   have HPK:Hid (∀_:Unit,p[k]?=some x):=fun _=>by rw [hx];simp [hkp]
   obtain ⟨ks,hks⟩:∃ks,ks=x.1:=⟨_,rfl⟩
   have hxp:x∈p:=by rw [hx];exact List.getElem_mem hkp
   have HKS:Hid (∀_:Unit,PlOk ks):=fun _=>by rw [hks];exact HOK.out.ok x hxp
   have HLV:Hid (∀_:Unit,spw x=lookW p ks):=fun _=>by rw [hks,dK (HOK.out.get hxp)]
   obtain ⟨b,hb0,hb1,hb2⟩:=HC2.out (by omega)
   subst hb0
   have HC:Hid (∀j u,(pvv ks)[j]?=some u→wr.cell? ⟨b,k * 2+j,none⟩=some u):=fun j u hu=>by
    rw [HMM.out.below.cell (p:=⟨b,k * 2+j,none⟩) hb1]
    rw [hks] at hu
    exact hb2 k x (HPK.out ()) j u hu
   have hm:=Mem.start wr
   clear hx hks hxp hb1 hb2
   go_wp2_with (first
    | ((with_reducible refine ab (some 12) (.indexAddr 87 (.tmp 8) (.tmp 10)) ?_);go_must (refine aa (.pointer (some ⟨b,k * 2,none⟩)) rfl (ap 2 k un_nps au rfl rfl rfl hlt) ?_))
    | ((with_reducible refine ab (some 13) (.load 63 (.tmp 12)) ?_);go_must (refine aa (.agg (pvv ks).toArray) rfl (aA (k * 2) 2 (pvv ks) _ rfl HC.out aH rfl au rfl) ?_))
    | ((with_reducible refine ab (some 5) (.alloc 63) ?_);refine ae _ aL hm ?_;clear hm;intro w3 g5 hm)
    | ((with_reducible refine ab none (.store 63 (.tmp 5) (.tmp 13)) ?_);refine af 0 (pvv ks) hm rfl rfl rfl 2 au rfl rfl (aI _) ?_;clear hm;intro w4 hm))
   replace HOW:Hid (w4.ownsRow w2.heap.size 50 5 va k ((p.take k).flatMap spv)):=aq HOW.out hm.below
   replace hm:=Mem.link HMM.out hm
   refine am ?_
   refine ag (T:=fun W=>∃l,Mem w2 [] W (l++[(g5,pvv ks,63)])) (by kernel_rfl) hm ?_
   intro wc hbw hmw
   clear hm
   have hm:=hmw
   replace HOW:Hid (wc.ownsRow w2.heap.size 50 5 va k ((p.take k).flatMap spv)):=aq HOW.out hbw
   clear hbw hmw
   refine aT 0 (v:=va) rfl (by kernel_rfl) rfl (fun W _=>by go_simp) ⟨[],hm⟩ ?_
   go_simp
   refine aT 1 (v:=.pointer (some ⟨nb,0,none⟩)) rfl (by kernel_rfl) rfl (fun W _=>by go_simp) ⟨[],hm⟩ ?_
   go_simp
   refine aT 2 (v:=.pointer (some ⟨nb,0,none⟩)) rfl (by kernel_rfl) rfl (fun W _=>by go_simp) ⟨[],hm⟩ ?_
   go_simp
   refine aT 3 (v:=.pointer (some ⟨nb,0,none⟩)) rfl (by kernel_rfl) rfl (fun W _=>by go_simp) ⟨[],hm⟩ ?_
   go_simp
   refine aT 4 (v:=.map (some m)) rfl (by kernel_rfl) rfl (fun W hW=>by obtain ⟨l,hW⟩:=hW;exact ad 0 (.map (some m)) ((HR2.out.below hW.below).row) rfl cE rfl) ⟨[],hm⟩ ?_
   go_simp
   refine aT 5 (v:=.agg (pvv ks).toArray) rfl (by kernel_rfl) rfl (fun W hW=>by obtain ⟨l,hW⟩:=hW;exact al 0 (pvv ks) (hW.row (g5,pvv ks,63) (by simp)) rfl _ aH rfl 2 au (Nat.le_refl 2) rfl) ⟨[],hm⟩ ?_
   go_simp
   refine aT 6 (v:=.agg (spw x).toArray) rfl (by kernel_rfl) rfl (fun W hW=>by obtain ⟨l,hW⟩:=hW;exact co ((HR2.out.below hW.below).look1 (HKS.out ()) (spw x) (HLV.out ())) rfl rfl) ⟨[],hm⟩ ?_
   go_simp
   refine aT 7 (v:=.agg (spv x).toArray) rfl (by kernel_rfl) rfl (fun W _=>exec_fldS (spv x) _ rfl rfl) ⟨[],hm⟩ ?_
   go_simp
   refine aO 8 (by kernel_rfl) rfl rfl ?_
   intro K hK
   refine cn (spv x) rfl rfl rfl hm ?_
   clear hm
   intro w6 g8 hm hb8
   replace HOW:Hid (w6.ownsRow w2.heap.size 50 5 va k ((p.take k).flatMap spv)):=aq HOW.out hb8
   clear hb8
   refine wpList_nil ?_
   refine hK _ _ ⟨[_],hm⟩ ?_
   clear hK K
   go_simp
   refine aO 9 (by kernel_rfl) rfl rfl ?_
   intro K hK
   refine bg (.agg spZ.toArray) 5 48 rfl ay dn rfl (by omega) (by omega) HOW.out hm.size rfl rfl (hm.get 0 rfl) rfl (bS x) hk9 ?_
   intro v9 w9 ho9 hg9 hl9
   replace hm:=hm.tail.grownT hg9 HOW.out (np_ne_sp _ _) (Nat.le_refl _)
   clear HOW
   have HOW:Hid (w9.ownsRow w2.heap.size 50 5 v9 (k+1) ((p.take k).flatMap spv++spv x)):=ho9
   clear ho9 hg9 hl9
   refine wpList_nil ?_
   refine hK _ _ ⟨[],hm⟩ ?_
   clear hK K
   go_simp
   refine aT 10 (v:=v9) rfl (by kernel_rfl) rfl (fun W _=>by go_simp) ⟨[],hm⟩ ?_
   go_simp
   refine wpAnyH_done (by kernel_rfl) ?_ _
   simp only [endsIn]
   go_wp2_with fail
   go_roundw
   case rel =>
    refine ⟨k+1,by omega,by go_num,v9,rfl,hm.tail,?_⟩
    have h9:=HOW.out
    show World.ownsRow _ _ _ _ _ _ _
    rw [List.take_add_one,HPK.out (),List.flatMap_append]
    simpa using h9
   case measure=>show N - ((k:Int)+1).toNat<N - (k:Int).toNat;omega
  ·have hin:k=N:=by omega
   have hki:¬(k:Int)<(N:Int):=by omega
   have HE:Hid (∀_:Unit,p.take k=p):=fun _=>List.take_of_length_le (by rw [hin,HN.out ()];exact Nat.le_refl _)
   go_wp2_with fail
   go_ret
   have h9:=HOW.out
   rw [HE.out ()] at h9
   obtain ⟨q1,q2,q3,q4⟩:=spn_of_own h9 (hin.trans (HN.out ()))
   refine ⟨va,rfl,⟨q1,q2,q3,fun h0=>?_⟩,HB2.out.trans (HMM.out.below.mono hz2)⟩
   obtain ⟨b,h1,h2,h3⟩:=q4 h0
   exact ⟨b,h1,by omega,h3⟩
open Go Go.RowKit Go.Maps
def delK (p:Value→Value→Prop) (key:Value):Value→Value→Prop:=fun k v=>k≠key∧p k v
section
variable {P:Program} {kT:TypeId} {w w':World} {m q:Nat} {p:Value→Value→Prop}
theorem KM.delRun (h:KM P kT w m q p) (K:Keyed P kT) {t e:TypeId} (ht:P.underlying t=some (.map kT e)) {key:Value} {kl:Lit} (hk:keyOf P kT key=some kl) (ty:TypeId) :
  ∃w',(Builtin.delete_ #[t,kT] ty #[.map (some m),key]).run P w=.ok (.tuple #[]) w'∧KM P kT w' m q (delK p key)∧Upd m w w':=by
 obtain ⟨D,ho,h1,h2⟩:=h
 obtain ⟨w',hr,ho2,hg⟩:=ho.drop K ht hk ty
 refine ⟨w',hr,⟨_,ho2,fun k kl' hk'=>?_,fun k kl' v z hk' hv=>?_⟩,⟨hg.grown.os,hg.grown.tape,hg.grown.output,hg.grown.size,fun k hk hne=>hg.grown.block k hk (by simpa using hne)⟩⟩
 ·by_cases he:kl'=kl
  ·subst he
   have e2:k=key:=K.inj hk' hk
   rw [has_del_same]
   constructor
   ·intro h;cases h
   ·rintro ⟨v,hv⟩;exact absurd e2 hv.1
  ·have e2:k≠key:=fun e=>he (by subst e;exact Option.some.inj (hk'.symm.trans hk))
   rw [has_del_other he,h1 k kl' hk']
   constructor
   ·rintro ⟨v,hv⟩;exact ⟨v,e2,hv⟩
   ·rintro ⟨v,hv⟩;exact ⟨v,hv.2⟩
 ·by_cases he:kl'=kl
  ·subst he
   exact absurd (K.inj hk' hk) hv.1
  ·rw [atKey_del_other he]
   exact h2 k kl' v z hk' hv.2
end
section
variable {P:Program} {kT:TypeId} {ops:Array Oper} {rest:List Oper} {a:Act} {w w0 w':World} {Q:Exit→Act→World→Prop} {dst:Option Tmp} {typ:TypeId} {pos:String} {aft:Array Edge} {gd:Option (Nat×Bool)} {m q:Nat} {p:Value→Value→Prop}
theorem wpl_kmDel {x k:Operand} {t e:TypeId} {key:Value} {kl:Lit} (st:KM P kT w m q p) (K:Keyed P kT) (ht:P.underlying t=some (.map kT e)) (hkey:keyOf P kT key=some kl) (hx:a.eval x=.map (some m)) (hk:a.eval k=key)
  (hh:∀w',KM P kT w' m q (delK p key)→Upd m w w'→wpList P ops Q rest (a.put dst (.tuple #[])) w') :
  wpList P ops Q ({dst:=dst,op:=.call {callee:=.builtin .delete,args:=#[x,k],argTypes:=#[t,kT]},type:=typ,pos:=pos,after:=aft,guard:=none}::rest) a w:=by
 obtain ⟨w',hr,hs,hu⟩:=st.delRun K ht hkey typ
 refine wpList_plain rfl fun K hK=>?_
 have h9:=hK _ _ (hh w' hs hu)
 unfold Oper.wp execOp
 simp only [resolve,invoke,builtin,Sem.run_bind,Sem.run_pure,Result.andThen_ok,List.map_toArray,List.map_cons,List.map_nil,hx,hk,hr]
 exact h9
end
theorem nmK_add {p:Nms} {x:Sp} (hp:NmOk p) (hx:PlOk x.1) (hn:hasN p x.1=false) (k v:Value):putK (NmK p) (.agg (pvv x.1).toArray) (.agg (spw x).toArray) k v↔NmK (addN p x) k v:=by
 constructor
 ·rintro (⟨rfl,rfl⟩|⟨_,y,hy,rfl,rfl⟩)
  ·exact ⟨x,cD.2 (Or.inl rfl),rfl,rfl⟩
  ·exact ⟨y,cD.2 (Or.inr hy),rfl,rfl⟩
 ·rintro ⟨y,hy,rfl,rfl⟩
  rcases cD.1 hy with rfl|hy
  ·exact Or.inl ⟨rfl,rfl⟩
  ·refine Or.inr ⟨fun e=>?_,y,hy,rfl,rfl⟩
   have:=aE.2 ⟨y,hy,cB (hp.ok y hy) hx e⟩
   rw [hn] at this;cases this
def lessN (p U:Nms) (k:Nat):Nms:=p.filter fun x => !(U.take k).any fun y=>decide (y.1=x.1)
theorem nmK_less {p U:Nms} (hp:NmOk p) {k:Nat} {x:Sp} (hx:U[k]?=some x) (hxp:x∈p) (key v:Value):delK (NmK (lessN p U k)) (.agg (pvv x.1).toArray) key v↔NmK (lessN p U (k+1)) key v:=by
 have e:∀y:Sp,((U.take (k+1)).any fun z=>decide (z.1=y.1))=(((U.take k).any fun z=>decide (z.1=y.1))||decide (x.1=y.1)):=fun y=>by
  rw [List.take_add_one,hx]
  simp
 constructor
 ·rintro ⟨h1,y,hy,rfl,rfl⟩
  obtain ⟨y1,y2⟩:=List.mem_filter.1 hy
  refine ⟨y,List.mem_filter.2 ⟨y1,?_⟩,rfl,rfl⟩
  rw [e y]
  have h2:¬x.1=y.1:=fun h=>h1 (by rw [h])
  rw [Bool.not_eq_true'] at y2 ⊢
  rw [y2,decide_eq_false h2];rfl
 ·rintro ⟨y,hy,rfl,rfl⟩
  obtain ⟨y1,y2⟩:=List.mem_filter.1 hy
  rw [e y,Bool.not_eq_true',Bool.or_eq_false_iff] at y2
  refine ⟨fun h=>?_,y,List.mem_filter.2 ⟨y1,by rw [y2.1];rfl⟩,rfl,rfl⟩
  have h3:=cB (hp.ok y y1) (hp.ok x hxp) h
  exact (of_decide_eq_false y2.2) h3.symm
theorem less_zero (p U:Nms):lessN p U 0=p:=by
 unfold lessN
 rw [List.filter_eq_self]
 intro x _
 simp
theorem less_all {p:Nms} (ks:List ByteArray) {k:Nat} (hk:(undN p ks).length≤k):lessN p (undN p ks) k=delN p ks:=by
 unfold lessN delN
 rw [List.take_of_length_le hk]
 refine List.filter_congr fun x hx=>?_
 congr 1
 rw [Bool.eq_iff_iff,List.any_eq_true]
 constructor
 ·rintro ⟨y,hy,e⟩
  obtain ⟨y1,y2⟩:=List.mem_filter.1 hy
  rw [←of_decide_eq_true e];exact y2
 ·intro h
  exact ⟨x,List.mem_filter.2 ⟨hx,h⟩,by simp⟩
theorem limOk_held (b e:Int):(decide (b=heldI b)&&decide (e=heldI e))=limOk b e:=by
 have h:∀x:Int,decide (x=heldI x)=decide (0≤x∧x≤1000000):=fun x=>by
  rw [Bool.eq_iff_iff,decide_eq_true_iff,decide_eq_true_iff]
  unfold heldI
  constructor
  ·intro h;omega
  ·intro h;omega
 unfold limOk
 rw [h,h]
theorem dG {w:World} {B N:Nat} {v:Value} {l:List ByteArray} (h:w.ownsRow B 9 1 v N (strs l)) (hN:N=l.length):StN B w v l:=by
 have hl:=World.ownsRow.lt h
 have hc:=@World.ownsRow.cells _ _ _ _ _ _ _ h
 rcases h.2 with ⟨hv,h0⟩|⟨g,cap,cur,hv,_⟩
 ·subst hv
  have hl0:l=[]:=List.length_eq_zero_iff.1 (by omega)
  subst hl0
  exact ⟨none,0,rfl,fun h=>absurd h (by simp)⟩
 ·subst hv
  refine ⟨some ⟨g,0,none⟩,cap,by rw [hN],fun _=>⟨g,rfl,(hl g rfl).1,(hl g rfl).2,fun i x hx=>?_⟩⟩
  have h2:=hc (g:=g) rfl i (.string x) (by unfold strs;rw [List.getElem?_map,hx];rfl)
  rw [bn,Nat.zero_add] at h2
  exact h2
theorem StN.lower {B B':Nat} {w:World} {v:Value} {l:List ByteArray} (h:StN B w v l) (hb:B'≤B):StN B' w v l:=by
 obtain ⟨p,cap,hv,hc⟩:=h
 refine ⟨p,cap,hv,fun h0=>?_⟩
 obtain ⟨b,h1,h2,h3⟩:=hc h0
 exact ⟨b,h1,by omega,h3⟩
theorem fl {w:World} {m n c:Nat} {es:Array MapEntry} (h:w.heap[m]?=some (.map es c)):w.cell? ⟨m,n,none⟩=none:=by
 simp [World.cell?,h]
end Go.Proofs.YtdmohffogfbnbaaGreatDoor
