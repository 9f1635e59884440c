import Derived.Test.YtdkkdkgdaambiaaGreatDoorQb22
set_option maxRecDepth 100000
set_option maxHeartbeats 4000000
namespace Go.Proofs.YtdkkdkgdaambiaaGreatDoor
open Go Go.RowKit Go.Maps
theorem l8 {l:List Int} (h:Bytes l):strB (strOf l)=l:=by
 unfold strB strOf
 simp only [List.map_map]
 apply List.ext_getElem
 ·simp
 ·intro i h1 h2
  have:=h l[i] (List.getElem_mem h2)
  simp
  omega
theorem open_none (g mb:Nat) (kv:Value) (d:Dk) (pg k:Nat) (ks kP kS kN A:List Int) (hA:secs d.now 0 32=A) (hkP:deriveOf ks labPage 0=kP) (hkS:deriveOf ks labSuper 0=kS) (hkN:deriveOf ks labSuper 1=kN) (hn:d.n=32+8 * pg) (hp0:4≤pg) (hpg:pg≤400) (hkl:ks.length=32) (hkb:Bytes ks) (hon:On d k) (hnew:newA kS kN pg A = -1) (w:World) (ht:Tab w) (hq:QTab w) (hd:DkAt w g mb kv d) :
  Calls Tryz.prog 28 #[.pointer (some ⟨g,0,none⟩),.agg (u8s ks).toArray] w fun e w'=>e=.returned (.tuple #[.pointer none,.int .i64 72])∧Below w.heap.size w w':=by
 have lP:kP.length=32∧Bytes kP:=by rw [←hkP];exact ⟨aC _ _,bg _ _⟩
 have lS:kS.length=32∧Bytes kS:=by rw [←hkS];exact ⟨aC _ _,bg _ _⟩
 have lN:kN.length=32∧Bytes kN:=by rw [←hkN];exact ⟨aC _ _,bg _ _⟩
 have HT0:Hid (Tab w):=ht
 have HQ0:Hid (QTab w):=hq
 have HD:Hid (DkAt w g mb kv d):=hd
 have HON:Hid (On d k):=hon
 have HN:Hid (d.n=32+8 * pg):=hn
 have HA:Hid (∀_:Unit,secs d.now 0 32=A):=fun _=>hA
 have HKB:Hid (Bytes ks):=hkb
 have HKU:Hid ((u8s ks).length=32):=by show _=_;rw [ab,hkl]
 have HKY:Hid (∀_:Unit,deriveOf ks labPage 0++(deriveOf ks labSuper 0++deriveOf ks labSuper 1)=kP++(kS++kN)):=fun _=>by rw [hkP,hkS,hkN]
 have HLL:Hid ((kP.length=32∧Bytes kP)∧(kS.length=32∧Bytes kS)∧(kN.length=32∧Bytes kN)):=⟨lP,lS,lN⟩
 have hpI:¬((pg:Int)<4):=by omega
 have HNW:Hid (∀_:Unit,newN (validN kS kN pg (place A 0) (A.drop 299)) (validN kS kN pg (place A 1) (A.drop 299)) (limitAt (place A 0)) (limitAt (place A 1)) = -1):=fun _=>hnew
 have hm:=Mem.start w
 clear ht hq hd hon hkb hkP hkS hkN lP lS lN hA hnew
 go_enter Tryz.func28,Tryz.ntmps28
 go_wp2_with (first
  | ((with_reducible refine aa (some 3) (.box 61 (.tmp 1)) ?_);refine ak (u8s ks) rfl hm ?_;clear hm;intro w1 gk hm)
  | (go_at_call 54;refine (dv g mb kv d pg HN.out hpg _ (DkAt.below HD.out hm.below)).mono ?_;rintro e w2 ⟨rfl,hw⟩;replace hw:=hw.symm;subst hw)
  | ((with_reducible refine aa (some 15) (.load 61 (.tmp 3)) ?_);refine aq 0 hm rfl rfl _ aJ rfl 32 aH (HKU.out) ?_)
  | (go_at_call 55;refine (gM ks hkl HKB.out _ (Tab.mem HT0.out hm (by simp))).mono ?_;rintro e w3 ⟨he,hb⟩;rw [HKY.out ()] at he;subst he;replace hm:=hm.call hb;clear hb)
  | ((with_reducible refine aa (some 17) (.build 77 #[(0,.tmp 14),(1,.tmp 16)]) ?_);go_must (refine aS (hdP g kP kS kN++tlP ⟨0,0,0⟩ 0 {data:=#[]} none none false) _ rfl (i3 g kP kS kN HLL.out.1.1 HLL.out.2.1.1 HLL.out.2.2.1) ?_))
  | ((with_reducible refine aa (some 18) (.box 77 (.tmp 17)) ?_);refine ak (hdP g kP kS kN++tlP ⟨0,0,0⟩ 0 {data:=#[]} none none false) rfl hm ?_;clear hm;intro w4 gp hm))
 have HP:Hid (PgR w4 gp g mb kv (⟨kP,kS,kN,⟨0,0,0⟩,0,{data:=#[]},fun _=>none,fun _=>none,false⟩:Pg) none none d):=⟨⟨HLL.out.1,HLL.out.2.1,HLL.out.2.2⟩,hm.get 0 rfl,DkAt.below HD.out hm.below⟩
 have HGP:Hid (w.heap.size≤gp):=by have h9:=hm.fresh _ (List.mem_cons_self ..);show _≤_;simpa using h9
 have HB4:Hid (Below w.heap.size w w4):=hm.below
 have HT:Hid (Tab w4):=Tab.mem HT0.out hm (by simp)
 have HQ:Hid (QTab w4):=QTab.mem HQ0.out hm (by simp)
 clear hm HT0 HQ0
 have hm:=Mem.start w4
 go_wp2_with (first
  | (go_at_call 38;refine (df gp g mb kv (⟨kP,kS,kN,⟨0,0,0⟩,0,{data:=#[]},fun _=>none,fun _=>none,false⟩:Pg) none none d pg A (HA.out ()) HN.out hpg HON.out.off _ (Tab.mem HT.out hm (by simp)) (QTab.mem HQ.out hm (by simp)) (PgR.mem HP.out hm)).mono ?_;rintro e wa ⟨gA,cA,lA,x,y,he,hcA,hgA,hrA,hx,hy,hb⟩;subst he;have HGA:Hid (Row wa gA (u8s A++lA) 5):=hrA;have HGE:Hid (w4.heap.size≤gA):=Nat.le_trans hm.size hgA;have HX:Hid (BlkIs wa w4.heap.size kS kN pg A 0 x):=hx.mono hm.size;have HY:Hid (BlkIs wa w4.heap.size kS kN pg A 1 y):=hy.mono hm.size;replace hm:=hm.call hb;clear hgA hrA hx hy hb)
  | ((with_reducible refine aa (some 7) (.alloc 94) ?_);refine aX _ dH hm ?_;clear hm;intro wb g7 hb hm;replace HGA:Hid (Row wb gA (u8s A++lA) 5):=Row.below' HGA.out hb;replace HX:Hid (BlkIs wb w4.heap.size kS kN pg A 0 x):=HX.out.below hb;replace HY:Hid (BlkIs wb w4.heap.size kS kN pg A 1 y):=HY.out.below hb;clear hb)
  | ((with_reducible refine aa none (.store 94 (.tmp 7) (.tmp 22)) ?_);refine af 0 (grC (.slice (some ⟨gA,0,none⟩) 2048 cA) x y) (Mem.enter (hm.get 0 rfl)) rfl rfl rfl 11 br rfl rfl (er _ _ _ _ _) ?_;intro wc hq;replace HGA:Hid (Row wc gA (u8s A++lA) 5):=hq.toUpd.row HGA.out (aY HGA.out (hm.get 0 rfl) (by decide));replace HX:Hid (BlkIs wc w4.heap.size kS kN pg A 0 x):=HX.out.updRow (hm.get 0 rfl) hq.toUpd;replace HY:Hid (BlkIs wc w4.heap.size kS kN pg A 1 y):=HY.out.updRow (hm.get 0 rfl) hq.toUpd;replace hm:Mem w4 [] wc [(g7,grC (.slice (some ⟨gA,0,none⟩) 2048 cA) x y,94)]:=hm.upd 0 rfl hq.toUpd (hq.get 0 rfl);clear hq)
  | ((with_reducible refine aa (some 36) (.load 94 (.tmp 7)) ?_);obtain ⟨fs,hfs⟩:=b8;go_must (refine aq 0 hm rfl rfl _ hfs rfl 11 br rfl ?_);clear hfs fs)
  | (go_at_call 63;refine (cL _ x y _).mono ?_;rintro e wn ⟨he,hb⟩;rw [HX.out.v,HY.out.v,HX.out.l,HY.out.l,HNW.out ()] at he;subst he;replace HGA:Hid (Row wn gA (u8s A++lA) 5):=Row.below' HGA.out hb;replace HX:Hid (BlkIs wn w4.heap.size kS kN pg A 0 x):=HX.out.below hb;replace HY:Hid (BlkIs wn w4.heap.size kS kN pg A 1 y):=HY.out.below hb;replace hm:=hm.call hb;clear hb))
 go_ret2
 exact ⟨rfl,HB4.out.trans (hm.below.mono HB4.out.size)⟩
theorem open_zero (g mb:Nat) (kv:Value) (d:Dk) (pg k:Nat) (ks kP kS kN A:List Int) (hA:secs d.now 0 32=A) (hkP:deriveOf ks labPage 0=kP) (hkS:deriveOf ks labSuper 0=kS) (hkN:deriveOf ks labSuper 1=kN) (hn:d.n=32+8 * pg) (hp0:4≤pg) (hpg:pg≤400) (hkl:ks.length=32) (hkb:Bytes ks) (hon:On d k) (l n:Nat) (root:Int) (mt:List Int) (f:Gens) (hs:SupIs kS kN pg A 0 l root mt f) (ho:limitAt (place A (1 - 0))<(l:Int)) (hl0:0<l) (hl:l<1152921504606846976) (hnn:mt.length=n) (hk:k<8000000) (hg2:∀q∈foot g mb kv,2≤q) (w:World) (hw2:2≤w.heap.size) (ht:Tab w) (hq:QTab w) (hd:DkAt w g mb kv d) :
  Calls Tryz.prog 28 #[.pointer (some ⟨g,0,none⟩),.agg (u8s ks).toArray] w fun e w'=>∃gp ml mu,e=.returned (.tuple #[.pointer (some ⟨gp,0,none⟩),.int .i64 0])∧PgAt w' gp g mb kv ml mu (⟨kP,kS,kN,⟨l,l,l+1⟩,root,strOf mt,f,f,false⟩:Pg) (keepD d A (wg A f) (keepA kS kN pg A (1 - 0) (l+1) root mt f))∧w.heap.size≤gp∧w.heap.size≤ml∧w.heap.size≤mu∧UpdS (foot g mb kv) w w':=by
 have hnx:=iT hpg (by omega) hs ho
 have hnew:newA kS kN pg A=0:=hnx.2.2
 have HG20:Hid (∀q∈foot g mb kv,2≤q):=hg2
 have HSZ:Hid ((strOf mt).size=n):=by show _=_;rw [jC];exact hnn
 have hnn2:n≤200:=by rw [←hnn];exact hs.mt.2
 have HRT:Hid (0≤root∧root<4294967296):=hs.root
 have HMB:Hid (∀_:Unit,strB (strOf mt)=mt):=fun _=>l8 hs.mt.1
 have HGN:Hid (∀_:Unit,(⟨0,0,0⟩:Gn).more l=⟨l,l,l+1⟩):=fun _=>by
  unfold Gn.more
  simp only [hl0,if_true,Gn.from]
  simp
 have HATK:Hid (∀_:Unit,atA kS kN pg A=1 - 0∧knA kS kN pg A=(l:Int)):=fun _=>⟨hnx.1,hnx.2.1⟩
 have HBLK:Hid (∀W b z,BlkIs W b kS kN pg A 0 z→z.r=root∧z.s=strOf mt∧StV W (.map z.m) f∧∀m,z.m=some m→b≤m):=fun W b z hz=>by
  obtain ⟨q,h1,h2⟩:=hz.st
  obtain ⟨h3,h4,h5⟩:=h2 (by rw [hz.v];exact hs.valid hpg)
  rw [hs.rootIs] at h3
  rw [hs.metaIs] at h4
  rw [hs.states hpg] at h5
  exact ⟨h3,h4,h5▸h1,hz.new⟩
 have lP:kP.length=32∧Bytes kP:=by rw [←hkP];exact ⟨aC _ _,bg _ _⟩
 have lS:kS.length=32∧Bytes kS:=by rw [←hkS];exact ⟨aC _ _,bg _ _⟩
 have lN:kN.length=32∧Bytes kN:=by rw [←hkN];exact ⟨aC _ _,bg _ _⟩
 have HT0:Hid (Tab w):=ht
 have HQ0:Hid (QTab w):=hq
 have HD:Hid (DkAt w g mb kv d):=hd
 have HON:Hid (On d k):=hon
 have HN:Hid (d.n=32+8 * pg):=hn
 have HA:Hid (∀_:Unit,secs d.now 0 32=A):=fun _=>hA
 have HKB:Hid (Bytes ks):=hkb
 have HKU:Hid ((u8s ks).length=32):=by show _=_;rw [ab,hkl]
 have HKY:Hid (∀_:Unit,deriveOf ks labPage 0++(deriveOf ks labSuper 0++deriveOf ks labSuper 1)=kP++(kS++kN)):=fun _=>by rw [hkP,hkS,hkN]
 have HLL:Hid ((kP.length=32∧Bytes kP)∧(kS.length=32∧Bytes kS)∧(kN.length=32∧Bytes kN)):=⟨lP,lS,lN⟩
 have hpI:¬((pg:Int)<4):=by omega
 have HNW:Hid (∀_:Unit,newN (validN kS kN pg (place A 0) (A.drop 299)) (validN kS kN pg (place A 1) (A.drop 299)) (limitAt (place A 0)) (limitAt (place A 1))=0):=fun _=>hnew
 have hm:=Mem.start w
 clear ht hq hd hon hkb hkP hkS hkN lP lS lN hA hnew hnx hs ho hg2 hnn
 go_enter Tryz.func28,Tryz.ntmps28
 go_wp2_with (first
  | ((with_reducible refine aa (some 3) (.box 61 (.tmp 1)) ?_);refine ak (u8s ks) rfl hm ?_;clear hm;intro w1 gk hm)
  | (go_at_call 54;refine (dv g mb kv d pg HN.out hpg _ (DkAt.below HD.out hm.below)).mono ?_;rintro e w2 ⟨rfl,hw⟩;replace hw:=hw.symm;subst hw)
  | ((with_reducible refine aa (some 15) (.load 61 (.tmp 3)) ?_);refine aq 0 hm rfl rfl _ aJ rfl 32 aH (HKU.out) ?_)
  | (go_at_call 55;refine (gM ks hkl HKB.out _ (Tab.mem HT0.out hm (by simp))).mono ?_;rintro e w3 ⟨he,hb⟩;rw [HKY.out ()] at he;subst he;replace hm:=hm.call hb;clear hb)
  | ((with_reducible refine aa (some 17) (.build 77 #[(0,.tmp 14),(1,.tmp 16)]) ?_);go_must (refine aS (hdP g kP kS kN++tlP ⟨0,0,0⟩ 0 {data:=#[]} none none false) _ rfl (i3 g kP kS kN HLL.out.1.1 HLL.out.2.1.1 HLL.out.2.2.1) ?_))
  | ((with_reducible refine aa (some 18) (.box 77 (.tmp 17)) ?_);refine ak (hdP g kP kS kN++tlP ⟨0,0,0⟩ 0 {data:=#[]} none none false) rfl hm ?_;clear hm;intro w4 gp hm))
 have HP:Hid (PgR w4 gp g mb kv (⟨kP,kS,kN,⟨0,0,0⟩,0,{data:=#[]},fun _=>none,fun _=>none,false⟩:Pg) none none d):=⟨⟨HLL.out.1,HLL.out.2.1,HLL.out.2.2⟩,hm.get 0 rfl,DkAt.below HD.out hm.below⟩
 have HGP:Hid (w.heap.size≤gp):=by have h9:=hm.fresh _ (List.mem_cons_self ..);show _≤_;simpa using h9
 have HB4:Hid (Below w.heap.size w w4):=hm.below
 have HT:Hid (Tab w4):=Tab.mem HT0.out hm (by simp)
 have HQ:Hid (QTab w4):=QTab.mem HQ0.out hm (by simp)
 clear hm HT0 HQ0
 have hm:=Mem.start w4
 have HG2:Hid (∀q∈gp::foot g mb kv,2≤q):=fun q hq=>by
  simp only [List.mem_cons] at hq
  rcases hq with rfl|hq
  ·exact Nat.le_trans hw2 HGP.out
  ·exact HG20.out q hq
 go_wp2_with (first
  | (go_at_call 38;refine (df gp g mb kv (⟨kP,kS,kN,⟨0,0,0⟩,0,{data:=#[]},fun _=>none,fun _=>none,false⟩:Pg) none none d pg A (HA.out ()) HN.out hpg HON.out.off _ (Tab.mem HT.out hm (by simp)) (QTab.mem HQ.out hm (by simp)) (PgR.mem HP.out hm)).mono ?_;rintro e wa ⟨gA,cA,lA,x,y,he,hcA,hgA,hrA,hx,hy,hb⟩;subst he;have HGA:Hid (Row wa gA (u8s A++lA) 5):=hrA;have HGE:Hid (w4.heap.size≤gA):=Nat.le_trans hm.size hgA;have HX:Hid (BlkIs wa w4.heap.size kS kN pg A 0 x):=hx.mono hm.size;have HY:Hid (BlkIs wa w4.heap.size kS kN pg A 1 y):=hy.mono hm.size;replace hm:=hm.call hb;clear hgA hrA hx hy hb)
  | ((with_reducible refine aa (some 7) (.alloc 94) ?_);refine aX _ dH hm ?_;clear hm;intro wb g7 hb hm;replace HGA:Hid (Row wb gA (u8s A++lA) 5):=Row.below' HGA.out hb;replace HX:Hid (BlkIs wb w4.heap.size kS kN pg A 0 x):=HX.out.below hb;replace HY:Hid (BlkIs wb w4.heap.size kS kN pg A 1 y):=HY.out.below hb;clear hb)
  | ((with_reducible refine aa none (.store 94 (.tmp 7) (.tmp 22)) ?_);refine af 0 (grC (.slice (some ⟨gA,0,none⟩) 2048 cA) x y) (Mem.enter (hm.get 0 rfl)) rfl rfl rfl 11 br rfl rfl (er _ _ _ _ _) ?_;intro wc hq;replace HGA:Hid (Row wc gA (u8s A++lA) 5):=hq.toUpd.row HGA.out (aY HGA.out (hm.get 0 rfl) (by decide));replace HX:Hid (BlkIs wc w4.heap.size kS kN pg A 0 x):=HX.out.updRow (hm.get 0 rfl) hq.toUpd;replace HY:Hid (BlkIs wc w4.heap.size kS kN pg A 1 y):=HY.out.updRow (hm.get 0 rfl) hq.toUpd;replace hm:Mem w4 [] wc [(g7,grC (.slice (some ⟨gA,0,none⟩) 2048 cA) x y,94)]:=hm.upd 0 rfl hq.toUpd (hq.get 0 rfl);clear hq)
  | ((with_reducible refine aa (some 36) (.load 94 (.tmp 7)) ?_);obtain ⟨fs,hfs⟩:=b8;go_must (refine aq 0 hm rfl rfl _ hfs rfl 11 br rfl ?_);clear hfs fs)
  | (go_at_call 63;refine (cL _ x y _).mono ?_;rintro e wn ⟨he,hb⟩;rw [HX.out.v,HY.out.v,HX.out.l,HY.out.l,HNW.out ()] at he;subst he;replace HGA:Hid (Row wn gA (u8s A++lA) 5):=Row.below' HGA.out hb;replace HX:Hid (BlkIs wn w4.heap.size kS kN pg A 0 x):=HX.out.below hb;replace HY:Hid (BlkIs wn w4.heap.size kS kN pg A 1 y):=HY.out.below hb;replace hm:=hm.call hb;clear hb))
 obtain ⟨hr,hsS,hst,hnewm⟩:=HBLK.out _ _ x HX.out
 obtain ⟨xl,xv,xr,xs,mo⟩:=x
 have hr':xr=root:=hr
 have hs':xs=strOf mt:=hsS
 subst hr' hs'
 have HST:Hid (StV wn (.map mo) f):=hst
 have HNM:Hid (∀m,mo=some m→w4.heap.size≤m):=hnewm
 have HG7:Hid (Row wn g7 (grC (.slice (some ⟨gA,0,none⟩) 2048 cA) ⟨xl,xv,xr,strOf mt,mo⟩ y) 94):=hm.get 0 rfl
 have HPN_:Hid (PgR wn gp g mb kv (⟨kP,kS,kN,⟨0,0,0⟩,0,{data:=#[]},fun _=>none,fun _=>none,false⟩:Pg) none none d):=PgR.mem HP.out hm
 have HFR:Hid (∀q:Nat,w4.heap.size≤q→q ∉ gp::foot g mb kv):=fun q hq hh=>by have h1:=HP.out.lt q hh;omega
 have HG7N:Hid (w4.heap.size≤g7):=by have h9:=hm.fresh _ (List.mem_cons_self ..);show _≤_;simpa using h9
 have HTN:Hid (Tab wn):=Tab.mem HT.out hm (by simp)
 have HQN:Hid (QTab wn):=QTab.mem HQ.out hm (by simp)
 have HBN:Hid (Below w.heap.size w wn):=HB4.out.trans (hm.below.mono HB4.out.size)
 clear hr hsS hst hnewm hm HT HQ
 have hm:=Mem.start wn
 refine ar ?_
 refine dB (T:=fun W=>Row W g7 (grC (.slice (some ⟨gA,0,none⟩) 2048 cA) ⟨xl,xv,xr,strOf mt,mo⟩ y) 94) (by kernel_rfl) hm ?_
 clear hm
 intro wo hb hm
 have HT7:Hid (Row wo g7 (grC (.slice (some ⟨gA,0,none⟩) 2048 cA) ⟨xl,xv,xr,strOf mt,mo⟩ y) 94):=Row.below' HG7.out hb
 obtain ⟨fg,hfg⟩:=b8
 obtain ⟨fu,hfu⟩:=dQ
 refine aT 0 (v:=.pointer (some ⟨gp,0,none⟩)) rfl (by kernel_rfl) rfl (fun W _=>by go_simp) HT7.out ?_
 go_simp
 refine aT 1 (v:=.agg (grC (.slice (some ⟨gA,0,none⟩) 2048 cA) ⟨xl,xv,xr,strOf mt,mo⟩ y).toArray) rfl (by kernel_rfl) rfl (fun W hW=>ao 0 _ hW rfl _ hfg rfl 11 br (by show 0+11≤11;omega) rfl) HT7.out ?_
 go_simp
 refine aT 2 (v:=.int .i64 0) rfl (by kernel_rfl) rfl (fun W _=>by go_simp) HT7.out ?_
 go_simp
 refine aT 3 (v:=.pointer (some ⟨g7,1,none⟩)) rfl (by kernel_rfl) rfl (fun W _=>by go_simp) HT7.out ?_
 go_simp
 refine aT 4 (v:=.pointer (some ⟨g7,1,none⟩)) rfl (by kernel_rfl) rfl (fun W _=>by go_simp) HT7.out ?_
 go_simp
 refine aT 5 (v:=.pointer (some ⟨g7,3,none⟩)) rfl (by kernel_rfl) rfl (fun W _=>by go_simp) HT7.out ?_
 go_simp
 refine aT 6 (v:=.agg (supC xr (strOf mt) (.map mo)).toArray) rfl (by kernel_rfl) rfl (fun W hW=>ao 3 (supC xr (strOf mt) (.map mo)) hW rfl _ hfu rfl 3 bI (by show 3+3≤11;omega) rfl) HT7.out ?_
 go_simp
 refine aO 7 (by kernel_rfl) rfl rfl ?_
 intro K hK
 have HXo:Hid (BlkIs wo w4.heap.size kS kN pg A 0 ⟨xl,xv,xr,strOf mt,mo⟩):=HX.out.below hb
 have HYo:Hid (BlkIs wo w4.heap.size kS kN pg A 1 y):=HY.out.below hb
 go_wp2_with (go_at_call 39;refine (iv gp g mb kv (⟨kP,kS,kN,⟨0,0,0⟩,0,{data:=#[]},fun _=>none,fun _=>none,false⟩:Pg) none none d pg k n l (1 - 0) gA cA w4.heap.size w4.heap.size lA _ _ xr (strOf mt) mo f A _ _ _ (HA.out ()) (HATK.out ()).1 (HATK.out ()).2 (HGN.out ()) rfl rfl HN.out hpg (StV.domS HST.out) (by show 0≤0∧0≤0;omega) (by show 0<_;omega) (by omega) HRT.out HSZ.out hnn2 HON.out (by omega) hcA HG2.out _ HXo.out HYo.out (Tab.updS (L:=[]) HTN.out (UpdS.of_below hb) (by simp)) (QTab.updS (L:=[]) HQN.out (UpdS.of_below hb) (by simp)) (HPN_.out.below hb) (Row.below' HGA.out hb) (fun hh=>by have h1:=HFR.out gA HGE.out;exact h1 (List.mem_cons_of_mem _ hh)) (StV.below HST.out hb) (fun m hm=>HFR.out m (HNM.out m hm))).mono ?_;rintro e wk ⟨he,hpk,huk⟩;subst he;rw [HMB.out ()] at hpk;have HPK:Hid (PgR wk gp g mb kv (⟨kP,kS,kN,⟨l,l,l+1⟩,0,{data:=#[]},fun _=>none,fun _=>none,false⟩:Pg) none none (keepD d A (wg A f) (keepA kS kN pg A (1 - 0) (l+1) xr mt f))):=hpk;have HUK:Hid (UpdS (gp::foot g mb kv) wn wk):=(UpdS.of_below hb).trans huk;have HSK:Hid (StV wk (.map mo) f):=StV.updS (StV.below HST.out hb) huk (fun m hm=>HFR.out m (HNM.out m (by simpa using hm)));have HG7K:Hid (Row wk g7 (grC (.slice (some ⟨gA,0,none⟩) 2048 cA) ⟨xl,xv,xr,strOf mt,mo⟩ y) 94):=huk.row HT7.out (HFR.out g7 HG7N.out);clear hpk huk)
 refine hK _ _ HG7K.out ?_
 clear hK K
 refine aT 8 (v:=.int .i64 0) rfl (by kernel_rfl) rfl (fun W _=>by go_simp) HG7K.out ?_
 go_simp
 refine wpAnyH_done (by kernel_rfl) ?_ _
 simp only [endsIn]
 go_wp2_with (first
  | ((with_reducible refine aa (some 59) (.load 75 (.tmp 58)) ?_);go_must (refine ag (.agg (supC xr (strOf mt) (.map mo)).toArray) rfl (ao 3 (supC xr (strOf mt) (.map mo)) HG7K.out rfl _ hfu rfl 3 bI (by show 3+3≤11;omega) rfl) ?_))
  | (go_at_call 40;refine (gD gp g mb kv (⟨kP,kS,kN,⟨l,l,l+1⟩,0,{data:=#[]},fun _=>none,fun _=>none,false⟩:Pg) none none (keepD d A (wg A f) (keepA kS kN pg A (1 - 0) (l+1) xr mt f)) xr (strOf mt) mo f _ HPK.out HSK.out).mono ?_;rintro e wz ⟨he,ml,mu,hpz,hml,hmu,huz⟩;subst he;have HPZ:Hid (PgAt wz gp g mb kv ml mu (⟨kP,kS,kN,⟨l,l,l+1⟩,xr,strOf mt,f,f,false⟩:Pg) (keepD d A (wg A f) (keepA kS kN pg A (1 - 0) (l+1) xr mt f))):=hpz;have HMZ:Hid (wk.heap.size≤ml∧wk.heap.size≤mu):=⟨hml,hmu⟩;have HUZ:Hid (UpdS (gp::foot g mb kv) wn wz):=HUK.out.trans (huz.mono (fun q hq=>by simp at hq;simp [hq]));clear hpz hml hmu huz))
 go_ret2
 have hsz:w.heap.size≤wk.heap.size:=Nat.le_trans HBN.out.size HUK.out.size
 refine ⟨gp,ml,mu,rfl,HPZ.out,HGP.out,Nat.le_trans hsz HMZ.out.1,Nat.le_trans hsz HMZ.out.2,⟨HUZ.out.os.trans HBN.out.os,HUZ.out.tape.trans HBN.out.tape,HUZ.out.output.trans HBN.out.output,Nat.le_trans HBN.out.size HUZ.out.size,fun q hq hn9=>(HUZ.out.block q (Nat.lt_of_lt_of_le hq HBN.out.size) (fun hh=>?_)).trans (HBN.out.block q hq)⟩⟩
 simp only [List.mem_cons] at hh
 rcases hh with rfl|hh
 ·have h2:=HGP.out;omega
 ·exact hn9 hh
theorem open_one (g mb:Nat) (kv:Value) (d:Dk) (pg k:Nat) (ks kP kS kN A:List Int) (hA:secs d.now 0 32=A) (hkP:deriveOf ks labPage 0=kP) (hkS:deriveOf ks labSuper 0=kS) (hkN:deriveOf ks labSuper 1=kN) (hn:d.n=32+8 * pg) (hp0:4≤pg) (hpg:pg≤400) (hkl:ks.length=32) (hkb:Bytes ks) (hon:On d k) (l n:Nat) (root:Int) (mt:List Int) (f:Gens) (hs:SupIs kS kN pg A 1 l root mt f) (ho:limitAt (place A (1 - 1))<(l:Int)) (hl0:0<l) (hl:l<1152921504606846976) (hnn:mt.length=n) (hk:k<8000000) (hg2:∀q∈foot g mb kv,2≤q) (w:World) (hw2:2≤w.heap.size) (ht:Tab w) (hq:QTab w) (hd:DkAt w g mb kv d) :
  Calls Tryz.prog 28 #[.pointer (some ⟨g,0,none⟩),.agg (u8s ks).toArray] w fun e w'=>∃gp ml mu,e=.returned (.tuple #[.pointer (some ⟨gp,0,none⟩),.int .i64 0])∧PgAt w' gp g mb kv ml mu (⟨kP,kS,kN,⟨l,l,l+1⟩,root,strOf mt,f,f,false⟩:Pg) (keepD d A (wg A f) (keepA kS kN pg A (1 - 1) (l+1) root mt f))∧w.heap.size≤gp∧w.heap.size≤ml∧w.heap.size≤mu∧UpdS (foot g mb kv) w w':=by
 have hnx:=iT hpg (by omega) hs ho
 have hnew:newA kS kN pg A=1:=hnx.2.2
 have HG20:Hid (∀q∈foot g mb kv,2≤q):=hg2
 have HSZ:Hid ((strOf mt).size=n):=by show _=_;rw [jC];exact hnn
 have hnn2:n≤200:=by rw [←hnn];exact hs.mt.2
 have HRT:Hid (0≤root∧root<4294967296):=hs.root
 have HMB:Hid (∀_:Unit,strB (strOf mt)=mt):=fun _=>l8 hs.mt.1
 have HGN:Hid (∀_:Unit,(⟨0,0,0⟩:Gn).more l=⟨l,l,l+1⟩):=fun _=>by
  unfold Gn.more
  simp only [hl0,if_true,Gn.from]
  simp
 have HATK:Hid (∀_:Unit,atA kS kN pg A=1 - 1∧knA kS kN pg A=(l:Int)):=fun _=>⟨hnx.1,hnx.2.1⟩
 have HBLK:Hid (∀W b z,BlkIs W b kS kN pg A 1 z→z.r=root∧z.s=strOf mt∧StV W (.map z.m) f∧∀m,z.m=some m→b≤m):=fun W b z hz=>by
  obtain ⟨q,h1,h2⟩:=hz.st
  obtain ⟨h3,h4,h5⟩:=h2 (by rw [hz.v];exact hs.valid hpg)
  rw [hs.rootIs] at h3
  rw [hs.metaIs] at h4
  rw [hs.states hpg] at h5
  exact ⟨h3,h4,h5▸h1,hz.new⟩
 have lP:kP.length=32∧Bytes kP:=by rw [←hkP];exact ⟨aC _ _,bg _ _⟩
 have lS:kS.length=32∧Bytes kS:=by rw [←hkS];exact ⟨aC _ _,bg _ _⟩
 have lN:kN.length=32∧Bytes kN:=by rw [←hkN];exact ⟨aC _ _,bg _ _⟩
 have HT0:Hid (Tab w):=ht
 have HQ0:Hid (QTab w):=hq
 have HD:Hid (DkAt w g mb kv d):=hd
 have HON:Hid (On d k):=hon
 have HN:Hid (d.n=32+8 * pg):=hn
 have HA:Hid (∀_:Unit,secs d.now 0 32=A):=fun _=>hA
 have HKB:Hid (Bytes ks):=hkb
 have HKU:Hid ((u8s ks).length=32):=by show _=_;rw [ab,hkl]
 have HKY:Hid (∀_:Unit,deriveOf ks labPage 0++(deriveOf ks labSuper 0++deriveOf ks labSuper 1)=kP++(kS++kN)):=fun _=>by rw [hkP,hkS,hkN]
 have HLL:Hid ((kP.length=32∧Bytes kP)∧(kS.length=32∧Bytes kS)∧(kN.length=32∧Bytes kN)):=⟨lP,lS,lN⟩
 have hpI:¬((pg:Int)<4):=by omega
 have HNW:Hid (∀_:Unit,newN (validN kS kN pg (place A 0) (A.drop 299)) (validN kS kN pg (place A 1) (A.drop 299)) (limitAt (place A 0)) (limitAt (place A 1))=1):=fun _=>hnew
 have hm:=Mem.start w
 clear ht hq hd hon hkb hkP hkS hkN lP lS lN hA hnew hnx hs ho hg2 hnn
 go_enter Tryz.func28,Tryz.ntmps28
 go_wp2_with (first
  | ((with_reducible refine aa (some 3) (.box 61 (.tmp 1)) ?_);refine ak (u8s ks) rfl hm ?_;clear hm;intro w1 gk hm)
  | (go_at_call 54;refine (dv g mb kv d pg HN.out hpg _ (DkAt.below HD.out hm.below)).mono ?_;rintro e w2 ⟨rfl,hw⟩;replace hw:=hw.symm;subst hw)
  | ((with_reducible refine aa (some 15) (.load 61 (.tmp 3)) ?_);refine aq 0 hm rfl rfl _ aJ rfl 32 aH (HKU.out) ?_)
  | (go_at_call 55;refine (gM ks hkl HKB.out _ (Tab.mem HT0.out hm (by simp))).mono ?_;rintro e w3 ⟨he,hb⟩;rw [HKY.out ()] at he;subst he;replace hm:=hm.call hb;clear hb)
  | ((with_reducible refine aa (some 17) (.build 77 #[(0,.tmp 14),(1,.tmp 16)]) ?_);go_must (refine aS (hdP g kP kS kN++tlP ⟨0,0,0⟩ 0 {data:=#[]} none none false) _ rfl (i3 g kP kS kN HLL.out.1.1 HLL.out.2.1.1 HLL.out.2.2.1) ?_))
  | ((with_reducible refine aa (some 18) (.box 77 (.tmp 17)) ?_);refine ak (hdP g kP kS kN++tlP ⟨0,0,0⟩ 0 {data:=#[]} none none false) rfl hm ?_;clear hm;intro w4 gp hm))
 have HP:Hid (PgR w4 gp g mb kv (⟨kP,kS,kN,⟨0,0,0⟩,0,{data:=#[]},fun _=>none,fun _=>none,false⟩:Pg) none none d):=⟨⟨HLL.out.1,HLL.out.2.1,HLL.out.2.2⟩,hm.get 0 rfl,DkAt.below HD.out hm.below⟩
 have HGP:Hid (w.heap.size≤gp):=by have h9:=hm.fresh _ (List.mem_cons_self ..);show _≤_;simpa using h9
 have HB4:Hid (Below w.heap.size w w4):=hm.below
 have HT:Hid (Tab w4):=Tab.mem HT0.out hm (by simp)
 have HQ:Hid (QTab w4):=QTab.mem HQ0.out hm (by simp)
 clear hm HT0 HQ0
 have hm:=Mem.start w4
 have HG2:Hid (∀q∈gp::foot g mb kv,2≤q):=fun q hq=>by
  simp only [List.mem_cons] at hq
  rcases hq with rfl|hq
  ·exact Nat.le_trans hw2 HGP.out
  ·exact HG20.out q hq
 go_wp2_with (first
  | (go_at_call 38;refine (df gp g mb kv (⟨kP,kS,kN,⟨0,0,0⟩,0,{data:=#[]},fun _=>none,fun _=>none,false⟩:Pg) none none d pg A (HA.out ()) HN.out hpg HON.out.off _ (Tab.mem HT.out hm (by simp)) (QTab.mem HQ.out hm (by simp)) (PgR.mem HP.out hm)).mono ?_;rintro e wa ⟨gA,cA,lA,x,y,he,hcA,hgA,hrA,hx,hy,hb⟩;subst he;have HGA:Hid (Row wa gA (u8s A++lA) 5):=hrA;have HGE:Hid (w4.heap.size≤gA):=Nat.le_trans hm.size hgA;have HX:Hid (BlkIs wa w4.heap.size kS kN pg A 0 x):=hx.mono hm.size;have HY:Hid (BlkIs wa w4.heap.size kS kN pg A 1 y):=hy.mono hm.size;replace hm:=hm.call hb;clear hgA hrA hx hy hb)
  | ((with_reducible refine aa (some 7) (.alloc 94) ?_);refine aX _ dH hm ?_;clear hm;intro wb g7 hb hm;replace HGA:Hid (Row wb gA (u8s A++lA) 5):=Row.below' HGA.out hb;replace HX:Hid (BlkIs wb w4.heap.size kS kN pg A 0 x):=HX.out.below hb;replace HY:Hid (BlkIs wb w4.heap.size kS kN pg A 1 y):=HY.out.below hb;clear hb)
  | ((with_reducible refine aa none (.store 94 (.tmp 7) (.tmp 22)) ?_);refine af 0 (grC (.slice (some ⟨gA,0,none⟩) 2048 cA) x y) (Mem.enter (hm.get 0 rfl)) rfl rfl rfl 11 br rfl rfl (er _ _ _ _ _) ?_;intro wc hq;replace HGA:Hid (Row wc gA (u8s A++lA) 5):=hq.toUpd.row HGA.out (aY HGA.out (hm.get 0 rfl) (by decide));replace HX:Hid (BlkIs wc w4.heap.size kS kN pg A 0 x):=HX.out.updRow (hm.get 0 rfl) hq.toUpd;replace HY:Hid (BlkIs wc w4.heap.size kS kN pg A 1 y):=HY.out.updRow (hm.get 0 rfl) hq.toUpd;replace hm:Mem w4 [] wc [(g7,grC (.slice (some ⟨gA,0,none⟩) 2048 cA) x y,94)]:=hm.upd 0 rfl hq.toUpd (hq.get 0 rfl);clear hq)
  | ((with_reducible refine aa (some 36) (.load 94 (.tmp 7)) ?_);obtain ⟨fs,hfs⟩:=b8;go_must (refine aq 0 hm rfl rfl _ hfs rfl 11 br rfl ?_);clear hfs fs)
  | (go_at_call 63;refine (cL _ x y _).mono ?_;rintro e wn ⟨he,hb⟩;rw [HX.out.v,HY.out.v,HX.out.l,HY.out.l,HNW.out ()] at he;subst he;replace HGA:Hid (Row wn gA (u8s A++lA) 5):=Row.below' HGA.out hb;replace HX:Hid (BlkIs wn w4.heap.size kS kN pg A 0 x):=HX.out.below hb;replace HY:Hid (BlkIs wn w4.heap.size kS kN pg A 1 y):=HY.out.below hb;replace hm:=hm.call hb;clear hb))
 obtain ⟨hr,hsS,hst,hnewm⟩:=HBLK.out _ _ y HY.out
 obtain ⟨xl,xv,xr,xs,mo⟩:=y
 have hr':xr=root:=hr
 have hs':xs=strOf mt:=hsS
 subst hr' hs'
 have HST:Hid (StV wn (.map mo) f):=hst
 have HNM:Hid (∀m,mo=some m→w4.heap.size≤m):=hnewm
 have HG7:Hid (Row wn g7 (grC (.slice (some ⟨gA,0,none⟩) 2048 cA) x ⟨xl,xv,xr,strOf mt,mo⟩) 94):=hm.get 0 rfl
 have HPN_:Hid (PgR wn gp g mb kv (⟨kP,kS,kN,⟨0,0,0⟩,0,{data:=#[]},fun _=>none,fun _=>none,false⟩:Pg) none none d):=PgR.mem HP.out hm
 have HFR:Hid (∀q:Nat,w4.heap.size≤q→q ∉ gp::foot g mb kv):=fun q hq hh=>by have h1:=HP.out.lt q hh;omega
 have HG7N:Hid (w4.heap.size≤g7):=by have h9:=hm.fresh _ (List.mem_cons_self ..);show _≤_;simpa using h9
 have HTN:Hid (Tab wn):=Tab.mem HT.out hm (by simp)
 have HQN:Hid (QTab wn):=QTab.mem HQ.out hm (by simp)
 have HBN:Hid (Below w.heap.size w wn):=HB4.out.trans (hm.below.mono HB4.out.size)
 clear hr hsS hst hnewm hm HT HQ
 have hm:=Mem.start wn
 refine ar ?_
 refine dB (T:=fun W=>Row W g7 (grC (.slice (some ⟨gA,0,none⟩) 2048 cA) x ⟨xl,xv,xr,strOf mt,mo⟩) 94) (by kernel_rfl) hm ?_
 clear hm
 intro wo hb hm
 have HT7:Hid (Row wo g7 (grC (.slice (some ⟨gA,0,none⟩) 2048 cA) x ⟨xl,xv,xr,strOf mt,mo⟩) 94):=Row.below' HG7.out hb
 obtain ⟨fg,hfg⟩:=b8
 obtain ⟨fu,hfu⟩:=dQ
 refine aT 0 (v:=.pointer (some ⟨gp,0,none⟩)) rfl (by kernel_rfl) rfl (fun W _=>by go_simp) HT7.out ?_
 go_simp
 refine aT 1 (v:=.agg (grC (.slice (some ⟨gA,0,none⟩) 2048 cA) x ⟨xl,xv,xr,strOf mt,mo⟩).toArray) rfl (by kernel_rfl) rfl (fun W hW=>ao 0 _ hW rfl _ hfg rfl 11 br (by show 0+11≤11;omega) rfl) HT7.out ?_
 go_simp
 refine aT 2 (v:=.int .i64 1) rfl (by kernel_rfl) rfl (fun W _=>by go_simp) HT7.out ?_
 go_simp
 refine aT 3 (v:=.pointer (some ⟨g7,1,none⟩)) rfl (by kernel_rfl) rfl (fun W _=>by go_simp) HT7.out ?_
 go_simp
 refine aT 4 (v:=.pointer (some ⟨g7,6,none⟩)) rfl (by kernel_rfl) rfl (fun W _=>by go_simp) HT7.out ?_
 go_simp
 refine aT 5 (v:=.pointer (some ⟨g7,8,none⟩)) rfl (by kernel_rfl) rfl (fun W _=>by go_simp) HT7.out ?_
 go_simp
 refine aT 6 (v:=.agg (supC xr (strOf mt) (.map mo)).toArray) rfl (by kernel_rfl) rfl (fun W hW=>ao 8 (supC xr (strOf mt) (.map mo)) hW rfl _ hfu rfl 3 bI (by show 8+3≤11;omega) rfl) HT7.out ?_
 go_simp
 refine aO 7 (by kernel_rfl) rfl rfl ?_
 intro K hK
 have HXo:Hid (BlkIs wo w4.heap.size kS kN pg A 0 x):=HX.out.below hb
 have HYo:Hid (BlkIs wo w4.heap.size kS kN pg A 1 ⟨xl,xv,xr,strOf mt,mo⟩):=HY.out.below hb
 go_wp2_with (go_at_call 39;refine (iv gp g mb kv (⟨kP,kS,kN,⟨0,0,0⟩,0,{data:=#[]},fun _=>none,fun _=>none,false⟩:Pg) none none d pg k n l (1 - 1) gA cA w4.heap.size w4.heap.size lA _ _ xr (strOf mt) mo f A _ _ _ (HA.out ()) (HATK.out ()).1 (HATK.out ()).2 (HGN.out ()) rfl rfl HN.out hpg (StV.domS HST.out) (by show 0≤0∧0≤0;omega) (by show 0<_;omega) (by omega) HRT.out HSZ.out hnn2 HON.out (by omega) hcA HG2.out _ HXo.out HYo.out (Tab.updS (L:=[]) HTN.out (UpdS.of_below hb) (by simp)) (QTab.updS (L:=[]) HQN.out (UpdS.of_below hb) (by simp)) (HPN_.out.below hb) (Row.below' HGA.out hb) (fun hh=>by have h1:=HFR.out gA HGE.out;exact h1 (List.mem_cons_of_mem _ hh)) (StV.below HST.out hb) (fun m hm=>HFR.out m (HNM.out m hm))).mono ?_;rintro e wk ⟨he,hpk,huk⟩;subst he;rw [HMB.out ()] at hpk;have HPK:Hid (PgR wk gp g mb kv (⟨kP,kS,kN,⟨l,l,l+1⟩,0,{data:=#[]},fun _=>none,fun _=>none,false⟩:Pg) none none (keepD d A (wg A f) (keepA kS kN pg A (1 - 1) (l+1) xr mt f))):=hpk;have HUK:Hid (UpdS (gp::foot g mb kv) wn wk):=(UpdS.of_below hb).trans huk;have HSK:Hid (StV wk (.map mo) f):=StV.updS (StV.below HST.out hb) huk (fun m hm=>HFR.out m (HNM.out m (by simpa using hm)));have HG7K:Hid (Row wk g7 (grC (.slice (some ⟨gA,0,none⟩) 2048 cA) x ⟨xl,xv,xr,strOf mt,mo⟩) 94):=huk.row HT7.out (HFR.out g7 HG7N.out);clear hpk huk)
 refine hK _ _ HG7K.out ?_
 clear hK K
 refine aT 8 (v:=.int .i64 0) rfl (by kernel_rfl) rfl (fun W _=>by go_simp) HG7K.out ?_
 go_simp
 refine wpAnyH_done (by kernel_rfl) ?_ _
 simp only [endsIn]
 go_wp2_with (first
  | ((with_reducible refine aa (some 59) (.load 75 (.tmp 58)) ?_);go_must (refine ag (.agg (supC xr (strOf mt) (.map mo)).toArray) rfl (ao 8 (supC xr (strOf mt) (.map mo)) HG7K.out rfl _ hfu rfl 3 bI (by show 8+3≤11;omega) rfl) ?_))
  | (go_at_call 40;refine (gD gp g mb kv (⟨kP,kS,kN,⟨l,l,l+1⟩,0,{data:=#[]},fun _=>none,fun _=>none,false⟩:Pg) none none (keepD d A (wg A f) (keepA kS kN pg A (1 - 1) (l+1) xr mt f)) xr (strOf mt) mo f _ HPK.out HSK.out).mono ?_;rintro e wz ⟨he,ml,mu,hpz,hml,hmu,huz⟩;subst he;have HPZ:Hid (PgAt wz gp g mb kv ml mu (⟨kP,kS,kN,⟨l,l,l+1⟩,xr,strOf mt,f,f,false⟩:Pg) (keepD d A (wg A f) (keepA kS kN pg A (1 - 1) (l+1) xr mt f))):=hpz;have HMZ:Hid (wk.heap.size≤ml∧wk.heap.size≤mu):=⟨hml,hmu⟩;have HUZ:Hid (UpdS (gp::foot g mb kv) wn wz):=HUK.out.trans (huz.mono (fun q hq=>by simp at hq;simp [hq]));clear hpz hml hmu huz))
 go_ret2
 have hsz:w.heap.size≤wk.heap.size:=Nat.le_trans HBN.out.size HUK.out.size
 refine ⟨gp,ml,mu,rfl,HPZ.out,HGP.out,Nat.le_trans hsz HMZ.out.1,Nat.le_trans hsz HMZ.out.2,⟨HUZ.out.os.trans HBN.out.os,HUZ.out.tape.trans HBN.out.tape,HUZ.out.output.trans HBN.out.output,Nat.le_trans HBN.out.size HUZ.out.size,fun q hq hn9=>(HUZ.out.block q (Nat.lt_of_lt_of_le hq HBN.out.size) (fun hh=>?_)).trans (HBN.out.block q hq)⟩⟩
 simp only [List.mem_cons] at hh
 rcases hh with rfl|hh
 ·have h2:=HGP.out;omega
 ·exact hn9 hh
end Go.Proofs.YtdkkdkgdaambiaaGreatDoor
