import Derived.Test.YtmlbjfklaehjnaaGreatDoorQc20
import Derived.Test.YtmlbjfklaehjnaaGreatDoorQc11
set_option maxRecDepth 100000
set_option maxHeartbeats 4000000
namespace Go.Proofs.YtmlbjfklaehjnaaGreatDoor
open Go Go.RowKit Go.Maps
theorem fill_ptr (place:Nat→Option (Nat×Nat)) (L:List Value) (i off:Nat) (q:Option Addr) (rest:List (Nat×Value)) (hp:place i=some (off,1)) (hl:off+1≤L.length) :
  Instr.fill place L.toArray ((i,.pointer q)::rest)=Instr.fill place (splice L off [.pointer q]).toArray rest:=by
 have h9:=kt off [.pointer q] 0 L (by simpa using hl)
 rw [Nat.add_zero] at h9
 show (match place i with|none=>none|some (o,s)=>if (#[Value.pointer q].size≠s||o+#[Value.pointer q].size > L.toArray.size)=true then none else Instr.fill place (#[Value.pointer q].zipIdx.foldl (fun (A:Array Value) (x:Value×Nat)=>A.setIfInBounds (o+x.2) x.1) L.toArray) rest)=_
 rw [hp]
 simp only
 have h7:¬((#[Value.pointer q].size≠1||off+#[Value.pointer q].size > L.toArray.size)=true):=by
  have h8:L.toArray.size=L.length:=by simp
  rw [h8]
  show ¬((decide ((1:Nat)≠1)||decide (off+1 > L.length))=true)
  simp
  omega
 rw [if_neg h7,←h9]
 congr 1
def pgZ:List Value:=.pointer none::(u8s (List.replicate 96 0)++tlP ⟨0,0,0⟩ 0 {data:=#[]} none none false)
theorem info_pgr:(Tryz.prog.info? 113).map (fun i=>(i.zero,i.size))=some (some (.agg pgZ.toArray),105):=by kernel_rfl
theorem un_pgr:∃fs,Tryz.prog.underlying 113=some (.struct fs):=⟨_,Tryz.underlying113⟩
theorem pl_pgr:(match Tryz.prog.underlying 113 with|some (.struct fs)=>fs.toList.mapM (fun f=>(Tryz.prog.info? f.type).map fun i=>(f.offset,i.size))|_=>none)=some [(0,1),(1,96),(97,3),(100,3),(103,1),(104,1)]:=by kernel_rfl
theorem built_pgr (g:Nat) (K1 K2 K3:List Int) (h1:K1.length=32) (h2:K2.length=32) (h3:K3.length=32):Tryz.prog.built 113 [(0,.pointer (some ⟨g,0,none⟩)),(1,.agg (u8s (K1++(K2++K3))).toArray)]=some (hdP g K1 K2 K3++tlP ⟨0,0,0⟩ 0 {data:=#[]} none none false).toArray:=by
 have h9:=info_pgr
 cases hit:Tryz.prog.info? 113 with
 | none=>simp [hit] at h9
 | some it =>
  obtain ⟨fs,hu⟩:=un_pgr
  have h8:=pl_pgr
  rw [hu] at h8
  simp only [hit,Option.map_some,Option.some.injEq,Prod.mk.injEq] at h9
  rw [jF _ hit hu h9.1 h8]
  show Instr.fill _ pgZ.toArray _=_
  have lK:(u8s (K1++(K2++K3))).length=96:=by rw [ab];simp [h1,h2,h3]
  have lZ:(u8s (List.replicate 96 0)).length=96:=by rw [ab];simp
  have e1:splice pgZ 0 [Value.pointer (some ⟨g,0,none⟩)]=[Value.pointer (some ⟨g,0,none⟩)]++(u8s (List.replicate 96 0)++tlP ⟨0,0,0⟩ 0 {data:=#[]} none none false):=by
   have e2:=dQ [] pgZ [Value.pointer (some ⟨g,0,none⟩)] 0 rfl
   rw [List.nil_append,List.nil_append] at e2
   exact e2
  rw [fill_ptr _ _ 0 0 _ _ rfl (by rw [pgZ,List.length_cons];omega),e1,j4 _ _ 1 1 (u8s (K1++(K2++K3))) _ (by rw [lK];rfl) (by rw [lK,List.length_append,List.length_append,lZ];show 1+96≤1+(96+8);omega)]
  show some _=some _
  congr 2
  rw [dQ [Value.pointer (some ⟨g,0,none⟩)] _ _ 1 rfl,lK,List.drop_append,List.drop_of_length_le (by rw [lZ];exact Nat.le_refl _),List.nil_append,lZ]
  simp [hdP,u8s]
theorem ji:Tryz.prog.built 106 []=some (supC 0 {data:=#[]} (.map none)).toArray:=by rfl
theorem cR:Dom (fun _=>none):=fun i g h=>by cases h
theorem kept_none (pg limit:Nat) (h:limit<18446744073709551616):Kept (fun _=>none) pg limit:=⟨h,fun _ _=>rfl,fun i g hh=>by cases hh⟩
theorem iT:Bytes ([]:List Int):=fun x hx=>by cases hx
theorem strB_nil:strB {data:=#[]}=[]:=rfl
/-- The first superblock that Format writes on noughts. -/
theorem fmt_one (kS kN:List Int) (pg:Nat) (A:List Int) (hl:A.length=2048) (hb:Bytes A) (h0:limitAt (place A 0)=0) (h1:limitAt (place A 1)=0) :
  ∃a,a<2∧atA kS kN pg A=a∧knA kS kN pg A=((0:Nat):Int)∧SupIs kS kN pg (keepA kS kN pg A a 2 0 [] (fun _=>none)) a 2 0 [] (fun _=>none)∧limitAt (place (keepA kS kN pg A a 2 0 [] (fun _=>none)) (1 - a))=0:=by
 refine ⟨_,ef _ _ _ _,rfl,?_,?_,?_⟩
 ·unfold knA knownN
  rw [h0,h1]
  split
  ·split<;>rfl
  ·split<;>rfl
 ·exact keepA_sup hl hb cR (ef _ _ _ _) (kept_none pg 2 (by omega)) ⟨iT,by simp⟩ (by omega)
 ·rw [jp hl hb cR (ef _ _ _ _)]
  have h9:=ef (validN kS kN pg (place A 0) (A.drop 299)) (validN kS kN pg (place A 1) (A.drop 299)) (limitAt (place A 0)) (limitAt (place A 1))
  generalize nextP (validN kS kN pg (place A 0) (A.drop 299)) (validN kS kN pg (place A 1) (A.drop 299)) (limitAt (place A 0)) (limitAt (place A 1))=a at h9
  have h8:1 - a=0∨1 - a=1:=by omega
  rcases h8 with h8|h8<;>rw [h8]
  ·exact h0
  ·exact h1
/-- The newest superblock stands in place a: keep goes to the other one, and knows its limit. -/
theorem keep_next {kS kN:List Int} {pg:Nat} {A:List Int} {a l:Nat} {root:Int} {mt:List Int} {f:Gens} (hp:pg≤400) (ha:a<2) (hs:SupIs kS kN pg A a l root mt f) (ho:limitAt (place A (1 - a))<(l:Int)) :
  atA kS kN pg A=1 - a∧knA kS kN pg A=(l:Int)∧newA kS kN pg A=(a:Int):=by
 have hv:=hs.valid hp
 have hli:=hs.lim
 have h9:a=0∨a=1:=by omega
 unfold atA knA newA nextP knownN newN
 rcases h9 with rfl|rfl
 ·rw [show 1 - 0=1 from rfl] at ho
  rw [hv,hli,if_pos rfl,if_pos rfl,if_pos rfl,if_neg (fun h=>by have:=h.2;omega),if_neg (fun h=>by have:=h.2;omega),if_neg (fun h=>by have:=h.2;omega)]
  exact ⟨rfl,rfl,rfl⟩
 ·rw [hv,hli]
  rw [show 1 - 1=0 from rfl] at ho
  cases validN kS kN pg (place A 0) (A.drop 299) with
  | true =>
   rw [if_pos rfl,if_pos rfl,if_pos rfl,if_pos ⟨rfl,ho⟩,if_pos ⟨rfl,ho⟩,if_pos ⟨rfl,ho⟩]
   exact ⟨rfl,rfl,rfl⟩
  | false =>
   rw [if_neg (show ¬(false=true) by simp),if_neg (show ¬(false=true) by simp),if_neg (show ¬(false=true) by simp),if_pos rfl,if_pos rfl,if_pos rfl]
   exact ⟨rfl,rfl,rfl⟩
theorem format_ok (g mb:Nat) (kv:Value) (d:Dk) (pg k:Nat) (ks kP kS kN A:List Int) (hA:secs d.now 0 32=A) (h0:limitAt (place A 0)=0) (h1:limitAt (place A 1)=0) (hkP:deriveOf ks labPage 0=kP) (hkS:deriveOf ks labSuper 0=kS) (hkN:deriveOf ks labSuper 1=kN)
  (hn:d.n=32+8 * pg) (hp0:4≤pg) (hpg:pg≤400) (hkl:ks.length=32) (hkb:Bytes ks) (hon:On d k) (hk:k<8000000) (w:World) (hw2:2≤w.heap.size) (hg2:∀q∈foot g mb kv,2≤q) (ht:Tab w) (hq:QTab w) (hd:DkAt w g mb kv d) :
  Calls Tryz.prog 26 #[.pointer (some ⟨g,0,none⟩),.agg (u8s ks).toArray] w fun e w'=>∃gp ml mu d' a,e=.returned (.tuple #[.pointer (some ⟨gp,0,none⟩),.int .i64 0])∧PgAt w' gp g mb kv ml mu (⟨kP,kS,kN,⟨3,3,4⟩,0,{data:=#[]},fun _=>none,fun _=>none,false⟩:Pg) d'∧On d' (k+132)∧d'.n=d.n∧a<2∧SupIs kS kN pg (secs d'.now 0 32) a 2 0 [] (fun _=>none)∧SupIs kS kN pg (secs d'.now 0 32) (1 - a) 4 0 [] (fun _=>none)∧(∀j,32≤j→d'.now j=d.now j)∧(∀j,d'.pend j=none)∧w.heap.size≤gp∧w.heap.size≤ml∧w.heap.size≤mu∧UpdS (foot g mb kv) w w':=by
 have lP:kP.length=32∧Bytes kP:=by rw [←hkP];exact ⟨aW _ _,cS _ _⟩
 have lS:kS.length=32∧Bytes kS:=by rw [←hkS];exact ⟨aW _ _,cS _ _⟩
 have lN:kN.length=32∧Bytes kN:=by rw [←hkN];exact ⟨aW _ _,cS _ _⟩
 have hAL:A.length=2048:=by rw [←hA];exact cJ (fun i hi=>hd.ok.now (by omega))
 have hAB:Bytes A:=by rw [←hA];exact dz 32 (fun i hi=>hd.ok.nowB (by omega))
 obtain ⟨a,ha,hat,hkn,hs1,ho1⟩:=fmt_one kS kN pg A hAL hAB h0 h1
 obtain ⟨B,hB⟩:∃B,B=keepA kS kN pg A a 2 0 [] (fun _=>none):=⟨_,rfl⟩
 rw [←hB] at hs1 ho1
 have hBL:B.length=2048:=by rw [hB];exact ev hAL hAB cR ha
 have hBB:Bytes B:=by rw [hB];exact fb hAL hAB cR iT
 have hnx:=keep_next hpg ha hs1 (by rw [ho1];omega)
 obtain ⟨C,hC⟩:∃C,C=keepA kS kN pg B (1 - a) 4 0 [] (fun _=>none):=⟨_,rfl⟩
 have hs2:SupIs kS kN pg C (1 - a) 4 0 [] (fun _=>none):=by rw [hC];exact keepA_sup hBL hBB cR (by omega) (kept_none pg 4 (by omega)) ⟨iT,by simp⟩ (by omega)
 have hs3:SupIs kS kN pg C a 2 0 [] (fun _=>none):=by
  have h9:=keepA_other (kS:=kS) (kN:=kN) (pg:=pg) (A:=B) (at_:=1 - a) (limit:=4) (root:=0) (mt:=[]) (f:=fun _=>none) hBL hBB cR (by omega) (limit':=2) (root':=0) (mt':=[]) (f':=fun _=>none) (by rw [show 1 - (1 - a)=a by omega];exact hs1) (fun i g h=>by cases h)
  rw [show 1 - (1 - a)=a by omega,←hC] at h9
  exact h9
 have hCL:C.length=2048:=by rw [hC];exact ev hBL hBB cR (by omega)
 have hCB:Bytes C:=by rw [hC];exact fb hBL hBB cR iT
 obtain ⟨d1,hd1⟩:∃x,x=keepD d A A B:=⟨_,rfl⟩
 obtain ⟨d2,hd2⟩:∃x,x=keepD d1 B B C:=⟨_,rfl⟩
 have hk1:=kg hd.ok hon.off hon.left hA hAL hAB hBL hBB (by omega)
 have hk1o:=mh hon.off hon.left hon.s0 hon.s1 A A B
 rw [←hd1] at hk1 hk1o
 have hok1:d1.Ok:=by rw [hd1];exact jl (jl hd.ok _ hAB) _ hBB
 have hon1:On d1 (k+66):=⟨hk1o.1,hk1o.2.1,hk1o.2.2.1,hk1o.2.2.2.1⟩
 have hk2:=kg hok1 hon1.off hon1.left hk1.1 hBL hBB hCL hCB (by rw [hk1o.2.2.2.2.1];omega)
 have hk2o:=mh hon1.off hon1.left hon1.s0 hon1.s1 B B C
 rw [←hd2] at hk2 hk2o
 have HT0:Hid (Tab w):=ht
 have HQ0:Hid (QTab w):=hq
 have HD:Hid (DkAt w g mb kv d):=hd
 have HON1:Hid (On d k):=hon
 have HON2:Hid (On d1 (k+66)):=hon1
 have HN1:Hid (d.n=32+8 * pg):=hn
 have HN2:Hid (d1.n=32+8 * pg):=by show _=_;rw [hk1o.2.2.2.2.1];exact hn
 have HA1:Hid (∀_:Unit,secs d.now 0 32=A):=fun _=>hA
 have HA2:Hid (∀_:Unit,secs d1.now 0 32=B):=fun _=>hk1.1
 have HL1:Hid ((0≤limitAt (place A 0)∧limitAt (place A 0)<1152921504606846976)∧(0≤limitAt (place A 1)∧limitAt (place A 1)<1152921504606846976)∧max (limitAt (place A 0)+1) (limitAt (place A 1)+1)=((1:Nat):Int)):=by show _∧_∧_;rw [h0,h1];omega
 have HL2:Hid ((0≤limitAt (place B 0)∧limitAt (place B 0)<1152921504606846976)∧(0≤limitAt (place B 1)∧limitAt (place B 1)<1152921504606846976)∧max (limitAt (place B 0)+1) (limitAt (place B 1)+1)=((3:Nat):Int)):=by
  have h9:=hs1.lim
  have h8:a=0∨a=1:=by omega
  show _∧_∧_
  rcases h8 with rfl|rfl
  ·rw [h9,show place B 1=place B (1 - 0) from rfl,ho1];omega
  ·rw [h9,show place B 0=place B (1 - 1) from rfl,ho1];omega
 have HAT1:Hid (∀_:Unit,atA kS kN pg A=a∧knA kS kN pg A=((0:Nat):Int)∧(Gn.from 1).more 0=⟨1,1,2⟩∧keepA kS kN pg A a 2 0 (strB {data:=#[]}) (fun _=>none)=B):=fun _=>⟨hat,hkn,by simp [Gn.from,Gn.more],by rw [strB_nil,hB]⟩
 have HAT2:Hid (∀_:Unit,atA kS kN pg B=1 - a∧knA kS kN pg B=((2:Nat):Int)∧(Gn.from 3).more 2=⟨3,3,4⟩∧keepA kS kN pg B (1 - a) 4 0 (strB {data:=#[]}) (fun _=>none)=C):=fun _=>⟨hnx.1,hnx.2.1,by simp [Gn.from,Gn.more],by rw [strB_nil,hC]⟩
 have HFIN:Hid (On d2 (k+132)∧d2.n=d.n∧a<2∧SupIs kS kN pg (secs d2.now 0 32) a 2 0 [] (fun _=>none)∧SupIs kS kN pg (secs d2.now 0 32) (1 - a) 4 0 [] (fun _=>none)∧(∀j,32≤j→d2.now j=d.now j)∧(∀j,d2.pend j=none)):=by
  refine ⟨⟨hk2o.1,hk2o.2.1,hk2o.2.2.1,by have:=hk2o.2.2.2.1;omega⟩,by rw [hk2o.2.2.2.2.1,hk1o.2.2.2.2.1],ha,by rw [hk2.1];exact hs3,by rw [hk2.1];exact hs2,fun j hj=>by rw [hk2.2 j hj,hk1.2 j hj],hk2o.2.2.2.2.2⟩
 have HD1E:Hid (∀_:Unit,keepD d A A B=d1):=fun _=>hd1.symm
 have HD2E:Hid (∀_:Unit,keepD d1 B B C=d2):=fun _=>hd2.symm
 have HKB:Hid (Bytes ks):=hkb
 have HKU:Hid ((u8s ks).length=32):=by show _=_;rw [ab,hkl]
 have HKY:Hid (∀_:Unit,deriveOf ks labPage 0++(deriveOf ks labSuper 0++deriveOf ks labSuper 1)=kP++(kS++kN)):=fun _=>by rw [hkP,hkS,hkN]
 have HLL:Hid ((kP.length=32∧Bytes kP)∧(kS.length=32∧Bytes kS)∧(kN.length=32∧Bytes kN)):=⟨lP,lS,lN⟩
 have HG20:Hid (∀q∈foot g mb kv,2≤q):=hg2
 have hpI:¬((pg:Int)<4):=by omega
 have hm:=Mem.start w
 clear ht hq hd hon hkb hkP hkS hkN lP lS lN hg2 hA h0 h1 hAL hAB hat hkn hs1 ho1 hB hBL hBB hnx hC hs2 hs3 hCL hCB hd1 hd2 hk1 hk1o hok1 hon1 hk2 hk2o ha
 go_enter Tryz.func26,Tryz.ntmps26
 go_wp2_with (first
  | ((with_reducible refine aa (some 3) (.box 72 (.tmp 1)) ?_);refine ak (u8s ks) rfl hm ?_;clear hm;intro w1 gk hm)
  | (go_at_call 42;refine (iq g mb kv d pg HN1.out hpg _ (DkAt.below HD.out hm.below)).mono ?_;rintro e w2 ⟨rfl,hw⟩;replace hw:=hw.symm;subst hw)
  | ((with_reducible refine aa (some 14) (.load 72 (.tmp 3)) ?_);refine am 0 hm rfl rfl _ a0 rfl 32 a9 (HKU.out) ?_)
  | (go_at_call 43;refine (keysOf_any ks hkl HKB.out _ (Tab.mem HT0.out hm (by simp))).mono ?_;rintro e w3 ⟨he,hb⟩;rw [HKY.out ()] at he;subst he;replace hm:=hm.call hb;clear hb)
  | ((with_reducible refine aa (some 16) (.build 113 #[(0,.tmp 13),(1,.tmp 15)]) ?_);go_must (refine aB (hdP g kP kS kN++tlP ⟨0,0,0⟩ 0 {data:=#[]} none none false) _ rfl (built_pgr g kP kS kN HLL.out.1.1 HLL.out.2.1.1 HLL.out.2.2.1) ?_))
  | ((with_reducible refine aa (some 17) (.box 113 (.tmp 16)) ?_);refine ak (hdP g kP kS kN++tlP ⟨0,0,0⟩ 0 {data:=#[]} none none false) rfl hm ?_;clear hm;intro w4 gp hm))
 have HP1:Hid (PgR w4 gp g mb kv (⟨kP,kS,kN,⟨0,0,0⟩,0,{data:=#[]},fun _=>none,fun _=>none,false⟩:Pg) none none d):=⟨⟨HLL.out.1,HLL.out.2.1,HLL.out.2.2⟩,hm.get 0 rfl,DkAt.below HD.out hm.below⟩
 have HGP:Hid (w.heap.size≤gp):=by have h9:=hm.fresh _ (List.mem_cons_self ..);show _≤_;simpa using h9
 have HB4:Hid (Below w.heap.size w w4):=hm.below
 have HT1:Hid (Tab w4):=Tab.mem HT0.out hm (by simp)
 have HQ1:Hid (QTab w4):=QTab.mem HQ0.out hm (by simp)
 have HG2:Hid (∀q∈gp::foot g mb kv,2≤q):=fun q hq=>by
  simp only [List.mem_cons] at hq
  rcases hq with rfl|hq
  ·exact Nat.le_trans hw2 HGP.out
  ·exact HG20.out q hq
 clear hm HT0 HQ0
 refine wp_loop_rounds 3 ?_
 rw [rounds_succ]
 go_wp2_with (first
  | (go_at_call 44;refine (eL gp g mb kv (⟨kP,kS,kN,⟨0,0,0⟩,0,{data:=#[]},fun _=>none,fun _=>none,false⟩:Pg) none none d pg A (HA1.out ()) (HN1.out) hpg HON1.out.off _ HT1.out HQ1.out HP1.out).mono ?_;rintro e wa1 ⟨gA1,cA1,lA1,x1,y1,he,hcA1,hgA,hrA,hx,hy,hb⟩;subst he;have HGA1:Hid (Row wa1 gA1 (u8s A++lA1) 5):=hrA;have HGE1:Hid (w4.heap.size≤gA1):=hgA;have HX1:Hid (BlkIs wa1 w4.heap.size kS kN pg A 0 x1):=hx;have HY1:Hid (BlkIs wa1 w4.heap.size kS kN pg A 1 y1):=hy;have hm:=(Mem.start w4).call hb;clear hgA hrA hx hy hb)
  | ((with_reducible refine aa (some 7) (.alloc 123) ?_);refine az _ eU hm ?_;clear hm;intro wb1 g71 hb hm;replace HGA1:Hid (Row wb1 gA1 (u8s A++lA1) 5):=Row.below' HGA1.out hb;replace HX1:Hid (BlkIs wb1 w4.heap.size kS kN pg A 0 x1):=HX1.out.below hb;replace HY1:Hid (BlkIs wb1 w4.heap.size kS kN pg A 1 y1):=HY1.out.below hb;clear hb)
  | ((with_reducible refine aa none (.store 123 (.tmp 7) (.tmp 23)) ?_);refine ag 0 (grC (.slice (some ⟨gA1,0,none⟩) 2048 cA1) x1 y1) (Mem.enter (hm.get 0 rfl)) rfl rfl rfl 11 bH rfl rfl (fP _ _ _ _ _) ?_;intro wc1 hq;replace HGA1:Hid (Row wc1 gA1 (u8s A++lA1) 5):=hq.toUpd.row HGA1.out (aQ HGA1.out (hm.get 0 rfl) (by decide));replace HX1:Hid (BlkIs wc1 w4.heap.size kS kN pg A 0 x1):=HX1.out.updRow (hm.get 0 rfl) hq.toUpd;replace HY1:Hid (BlkIs wc1 w4.heap.size kS kN pg A 1 y1):=HY1.out.updRow (hm.get 0 rfl) hq.toUpd;replace hm:Mem w4 [] wc1 [(g71,grC (.slice (some ⟨gA1,0,none⟩) 2048 cA1) x1 y1,123)]:=hm.upd 0 rfl hq.toUpd (hq.get 0 rfl);clear hq)
  | ((with_reducible refine aa (some 29) (.load 123 (.tmp 7)) ?_);obtain ⟨fs,hfs⟩:=cM;go_must (refine am 0 hm rfl rfl _ hfs rfl 11 bH rfl ?_);clear hfs fs)
  | (go_at_call 46;refine (limit_any _ x1 y1 (by rw [HX1.out.l];exact HL1.out.1) (by rw [HY1.out.l];exact HL1.out.2.1) _).mono ?_;rintro e wd1 ⟨he,hb⟩;rw [HX1.out.l,HY1.out.l,HL1.out.2.2] at he;subst he;replace HGA1:Hid (Row wd1 gA1 (u8s A++lA1) 5):=Row.below' HGA1.out hb;replace HX1:Hid (BlkIs wd1 w4.heap.size kS kN pg A 0 x1):=HX1.out.below hb;replace HY1:Hid (BlkIs wd1 w4.heap.size kS kN pg A 1 y1):=HY1.out.below hb;replace hm:=hm.call hb;clear hb)
  | (go_at_call 45;refine (fN 1 _).mono ?_;rintro e we1 ⟨he,hb⟩;subst he;replace HGA1:Hid (Row we1 gA1 (u8s A++lA1) 5):=Row.below' HGA1.out hb;replace HX1:Hid (BlkIs we1 w4.heap.size kS kN pg A 0 x1):=HX1.out.below hb;replace HY1:Hid (BlkIs we1 w4.heap.size kS kN pg A 1 y1):=HY1.out.below hb;replace hm:=hm.call hb;clear hb)
  | ((with_reducible refine aa none (.store 111 (.tmp 33) (.tmp 31)) ?_);go_must (refine iV 0 97 (gnC (Gn.from 1)) (hdP g kP kS kN++tlP (Gn.from 1) 0 {data:=#[]} none none false) (Mem.enter (PgR.row (PgR.mem HP1.out hm))) rfl rfl rfl 3 bX rfl (by rw [List.length_append,PgR.hlen HP1.out];show 97+3≤97+8;omega) (lz _) (gV (PgR.hlen HP1.out) ⟨0,0,0⟩ (Gn.from 1) _) ?_);intro wf1 hq;have HG71:Hid (Row wf1 g71 (grC (.slice (some ⟨gA1,0,none⟩) 2048 cA1) x1 y1) 123):=hq.toUpd.row (hm.get 0 rfl) (aQ (hm.get 0 rfl) (PgR.row (PgR.mem HP1.out hm)) (by decide));have HPX1:Hid (PgR wf1 gp g mb kv (⟨kP,kS,kN,(Gn.from 1),0,{data:=#[]},fun _=>none,fun _=>none,false⟩:Pg) none none d):=(PgR.mem HP1.out hm).setRow (P':=(⟨kP,kS,kN,(Gn.from 1),0,{data:=#[]},fun _=>none,fun _=>none,false⟩:Pg)) hq.toUpd ⟨HLL.out.1,HLL.out.2.1,HLL.out.2.2⟩ (hq.get 0 rfl);replace HGA1:Hid (Row wf1 gA1 (u8s A++lA1) 5):=hq.toUpd.row HGA1.out (aQ HGA1.out (PgR.row (PgR.mem HP1.out hm)) (by decide));replace HX1:Hid (BlkIs wf1 w4.heap.size kS kN pg A 0 x1):=HX1.out.updRow (PgR.row (PgR.mem HP1.out hm)) hq.toUpd;replace HY1:Hid (BlkIs wf1 w4.heap.size kS kN pg A 1 y1):=HY1.out.updRow (PgR.row (PgR.mem HP1.out hm)) hq.toUpd;have HUX1:Hid (UpdS (gp::foot g mb kv) w4 wf1):=(UpdS.of_below hm.below).trans (UpdS.of_upd hq.toUpd (by simp));clear hq hm)
  | ((with_reducible refine aa (some 35) (.load 123 (.tmp 7)) ?_);obtain ⟨fs,hfs⟩:=cM;go_must (refine ae (.agg (grC (.slice (some ⟨gA1,0,none⟩) 2048 cA1) x1 y1).toArray) rfl (ao 0 (grC (.slice (some ⟨gA1,0,none⟩) 2048 cA1) x1 y1) HG71.out rfl _ hfs rfl 11 bH (by show 0+11≤11;omega) rfl) ?_);clear hfs fs)
  | ((with_reducible refine aa (some 36) (.build 106 #[]) ?_);go_must (refine aB (supC 0 {data:=#[]} (.map none)) _ rfl ji ?_))
  | (go_at_call 47;refine (keep_g gp g mb kv (⟨kP,kS,kN,(Gn.from 1),0,{data:=#[]},fun _=>none,fun _=>none,false⟩:Pg) none none d pg k 0 0 a gA1 cA1 w4.heap.size w4.heap.size lA1 x1 y1 0 {data:=#[]} none (fun _=>none) A A B ⟨1,1,2⟩ (HA1.out ()) (HAT1.out ()).1 (HAT1.out ()).2.1 (HAT1.out ()).2.2.1 (wg_none A) (HAT1.out ()).2.2.2 HN1.out hpg cR (by show 1≤1∧1≤1;omega) (by show 1<_;omega) (by omega) (by omega) rfl (by omega) HON1.out (by omega) hcA1 HG2.out _ HX1.out HY1.out (Tab.updS HT1.out HUX1.out HG2.out) (QTab.updS HQ1.out HUX1.out HG2.out) HPX1.out HGA1.out (fun hh=>by have h1:=(PgR.dk HP1.out).lt gA1 hh;have h2:=HGE1.out;omega) (Or.inl ⟨rfl,rfl⟩) (fun m hm=>by cases hm)).mono ?_;rintro e wk1 ⟨he,hpk,huk⟩;subst he;have HP2:Hid (PgR wk1 gp g mb kv (⟨kP,kS,kN,⟨1,1,2⟩,0,{data:=#[]},fun _=>none,fun _=>none,false⟩:Pg) none none (keepD d A A B)):=hpk;have HUK1:Hid (UpdS (gp::foot g mb kv) w4 wk1):=HUX1.out.trans huk;have HT2:Hid (Tab wk1):=Tab.updS HT1.out HUK1.out HG2.out;have HQ2:Hid (QTab wk1):=QTab.updS HQ1.out HUK1.out HG2.out;clear hpk huk HX1 HY1 HGA1 HG71 HPX1 HUX1))
 rw [HD1E.out ()] at HP2
 rw [rounds_succ]
 go_wp2_with (first
  | (go_at_call 44;refine (eL gp g mb kv (⟨kP,kS,kN,⟨1,1,2⟩,0,{data:=#[]},fun _=>none,fun _=>none,false⟩:Pg) none none d1 pg B (HA2.out ()) (HN2.out) hpg HON2.out.off _ HT2.out HQ2.out HP2.out).mono ?_;rintro e wa2 ⟨gA2,cA2,lA2,x2,y2,he,hcA2,hgA,hrA,hx,hy,hb⟩;subst he;have HGA2:Hid (Row wa2 gA2 (u8s B++lA2) 5):=hrA;have HGE2:Hid (wk1.heap.size≤gA2):=hgA;have HX2:Hid (BlkIs wa2 wk1.heap.size kS kN pg B 0 x2):=hx;have HY2:Hid (BlkIs wa2 wk1.heap.size kS kN pg B 1 y2):=hy;have hm:=(Mem.start wk1).call hb;clear hgA hrA hx hy hb)
  | ((with_reducible refine aa (some 7) (.alloc 123) ?_);refine az _ eU hm ?_;clear hm;intro wb2 g72 hb hm;replace HGA2:Hid (Row wb2 gA2 (u8s B++lA2) 5):=Row.below' HGA2.out hb;replace HX2:Hid (BlkIs wb2 wk1.heap.size kS kN pg B 0 x2):=HX2.out.below hb;replace HY2:Hid (BlkIs wb2 wk1.heap.size kS kN pg B 1 y2):=HY2.out.below hb;clear hb)
  | ((with_reducible refine aa none (.store 123 (.tmp 7) (.tmp 23)) ?_);refine ag 0 (grC (.slice (some ⟨gA2,0,none⟩) 2048 cA2) x2 y2) (Mem.enter (hm.get 0 rfl)) rfl rfl rfl 11 bH rfl rfl (fP _ _ _ _ _) ?_;intro wc2 hq;replace HGA2:Hid (Row wc2 gA2 (u8s B++lA2) 5):=hq.toUpd.row HGA2.out (aQ HGA2.out (hm.get 0 rfl) (by decide));replace HX2:Hid (BlkIs wc2 wk1.heap.size kS kN pg B 0 x2):=HX2.out.updRow (hm.get 0 rfl) hq.toUpd;replace HY2:Hid (BlkIs wc2 wk1.heap.size kS kN pg B 1 y2):=HY2.out.updRow (hm.get 0 rfl) hq.toUpd;replace hm:Mem wk1 [] wc2 [(g72,grC (.slice (some ⟨gA2,0,none⟩) 2048 cA2) x2 y2,123)]:=hm.upd 0 rfl hq.toUpd (hq.get 0 rfl);clear hq)
  | ((with_reducible refine aa (some 29) (.load 123 (.tmp 7)) ?_);obtain ⟨fs,hfs⟩:=cM;go_must (refine am 0 hm rfl rfl _ hfs rfl 11 bH rfl ?_);clear hfs fs)
  | (go_at_call 46;refine (limit_any _ x2 y2 (by rw [HX2.out.l];exact HL2.out.1) (by rw [HY2.out.l];exact HL2.out.2.1) _).mono ?_;rintro e wd2 ⟨he,hb⟩;rw [HX2.out.l,HY2.out.l,HL2.out.2.2] at he;subst he;replace HGA2:Hid (Row wd2 gA2 (u8s B++lA2) 5):=Row.below' HGA2.out hb;replace HX2:Hid (BlkIs wd2 wk1.heap.size kS kN pg B 0 x2):=HX2.out.below hb;replace HY2:Hid (BlkIs wd2 wk1.heap.size kS kN pg B 1 y2):=HY2.out.below hb;replace hm:=hm.call hb;clear hb)
  | (go_at_call 45;refine (fN 3 _).mono ?_;rintro e we2 ⟨he,hb⟩;subst he;replace HGA2:Hid (Row we2 gA2 (u8s B++lA2) 5):=Row.below' HGA2.out hb;replace HX2:Hid (BlkIs we2 wk1.heap.size kS kN pg B 0 x2):=HX2.out.below hb;replace HY2:Hid (BlkIs we2 wk1.heap.size kS kN pg B 1 y2):=HY2.out.below hb;replace hm:=hm.call hb;clear hb)
  | ((with_reducible refine aa none (.store 111 (.tmp 33) (.tmp 31)) ?_);go_must (refine iV 0 97 (gnC (Gn.from 3)) (hdP g kP kS kN++tlP (Gn.from 3) 0 {data:=#[]} none none false) (Mem.enter (PgR.row (PgR.mem HP2.out hm))) rfl rfl rfl 3 bX rfl (by rw [List.length_append,PgR.hlen HP2.out];show 97+3≤97+8;omega) (lz _) (gV (PgR.hlen HP2.out) ⟨1,1,2⟩ (Gn.from 3) _) ?_);intro wf2 hq;have HG72:Hid (Row wf2 g72 (grC (.slice (some ⟨gA2,0,none⟩) 2048 cA2) x2 y2) 123):=hq.toUpd.row (hm.get 0 rfl) (aQ (hm.get 0 rfl) (PgR.row (PgR.mem HP2.out hm)) (by decide));have HPX2:Hid (PgR wf2 gp g mb kv (⟨kP,kS,kN,(Gn.from 3),0,{data:=#[]},fun _=>none,fun _=>none,false⟩:Pg) none none d1):=(PgR.mem HP2.out hm).setRow (P':=(⟨kP,kS,kN,(Gn.from 3),0,{data:=#[]},fun _=>none,fun _=>none,false⟩:Pg)) hq.toUpd ⟨HLL.out.1,HLL.out.2.1,HLL.out.2.2⟩ (hq.get 0 rfl);replace HGA2:Hid (Row wf2 gA2 (u8s B++lA2) 5):=hq.toUpd.row HGA2.out (aQ HGA2.out (PgR.row (PgR.mem HP2.out hm)) (by decide));replace HX2:Hid (BlkIs wf2 wk1.heap.size kS kN pg B 0 x2):=HX2.out.updRow (PgR.row (PgR.mem HP2.out hm)) hq.toUpd;replace HY2:Hid (BlkIs wf2 wk1.heap.size kS kN pg B 1 y2):=HY2.out.updRow (PgR.row (PgR.mem HP2.out hm)) hq.toUpd;have HUX2:Hid (UpdS (gp::foot g mb kv) wk1 wf2):=(UpdS.of_below hm.below).trans (UpdS.of_upd hq.toUpd (by simp));clear hq hm)
  | ((with_reducible refine aa (some 35) (.load 123 (.tmp 7)) ?_);obtain ⟨fs,hfs⟩:=cM;go_must (refine ae (.agg (grC (.slice (some ⟨gA2,0,none⟩) 2048 cA2) x2 y2).toArray) rfl (ao 0 (grC (.slice (some ⟨gA2,0,none⟩) 2048 cA2) x2 y2) HG72.out rfl _ hfs rfl 11 bH (by show 0+11≤11;omega) rfl) ?_);clear hfs fs)
  | ((with_reducible refine aa (some 36) (.build 106 #[]) ?_);go_must (refine aB (supC 0 {data:=#[]} (.map none)) _ rfl ji ?_))
  | (go_at_call 47;refine (keep_g gp g mb kv (⟨kP,kS,kN,(Gn.from 3),0,{data:=#[]},fun _=>none,fun _=>none,false⟩:Pg) none none d1 pg (k+66) 0 2 (1 - a) gA2 cA2 wk1.heap.size wk1.heap.size lA2 x2 y2 0 {data:=#[]} none (fun _=>none) B B C ⟨3,3,4⟩ (HA2.out ()) (HAT2.out ()).1 (HAT2.out ()).2.1 (HAT2.out ()).2.2.1 (wg_none B) (HAT2.out ()).2.2.2 HN2.out hpg cR (by show 3≤3∧3≤3;omega) (by show 3<_;omega) (by omega) (by omega) rfl (by omega) HON2.out (by omega) hcA2 HG2.out _ HX2.out HY2.out (Tab.updS HT2.out HUX2.out HG2.out) (QTab.updS HQ2.out HUX2.out HG2.out) HPX2.out HGA2.out (fun hh=>by have h1:=(PgR.dk HP2.out).lt gA2 hh;have h2:=HGE2.out;omega) (Or.inl ⟨rfl,rfl⟩) (fun m hm=>by cases hm)).mono ?_;rintro e wk2 ⟨he,hpk,huk⟩;subst he;have HP3:Hid (PgR wk2 gp g mb kv (⟨kP,kS,kN,⟨3,3,4⟩,0,{data:=#[]},fun _=>none,fun _=>none,false⟩:Pg) none none (keepD d1 B B C)):=hpk;have HUK2:Hid (UpdS (gp::foot g mb kv) wk1 wk2):=HUX2.out.trans huk;have HT3:Hid (Tab wk2):=Tab.updS HT2.out HUK2.out HG2.out;have HQ3:Hid (QTab wk2):=QTab.updS HQ2.out HUK2.out HG2.out;clear hpk huk HX2 HY2 HGA2 HG72 HPX2 HUX2))
 rw [HD2E.out ()] at HP3
 rw [rounds_succ]
 go_wp2_with (first
  | ((with_reducible refine aa (some 43) (.build 106 #[]) ?_);go_must (refine aB (supC 0 {data:=#[]} (.map none)) _ rfl ji ?_))
  | (go_at_call 48;refine (pbegin_any gp g mb kv (⟨kP,kS,kN,⟨3,3,4⟩,0,{data:=#[]},fun _=>none,fun _=>none,false⟩:Pg) none none d2 0 {data:=#[]} none (fun _=>none) _ HP3.out (Or.inl ⟨rfl,rfl⟩)).mono ?_;rintro e wz ⟨he,ml,mu,hpz,hml,hmu,huz⟩;subst he;have HPZ:Hid (PgAt wz gp g mb kv ml mu (⟨kP,kS,kN,⟨3,3,4⟩,0,{data:=#[]},fun _=>none,fun _=>none,false⟩:Pg) d2):=hpz;have HMZ:Hid (wk2.heap.size≤ml∧wk2.heap.size≤mu):=⟨hml,hmu⟩;have HUZ:Hid (UpdS (gp::foot g mb kv) w4 wz):=(HUK1.out.trans HUK2.out).trans (huz.mono (fun q hq=>by simp at hq;simp [hq]));clear hpz hml hmu huz))
 go_ret2
 have hsz:w.heap.size≤wk2.heap.size:=Nat.le_trans HB4.out.size (Nat.le_trans HUK1.out.size HUK2.out.size)
 obtain ⟨f1,f2,f3,f4,f5,f6,f7⟩:=HFIN.out
 refine ⟨gp,ml,mu,d2,a,rfl,HPZ.out,f1,f2,f3,f4,f5,f6,f7,HGP.out,Nat.le_trans hsz HMZ.out.1,Nat.le_trans hsz HMZ.out.2,⟨HUZ.out.os.trans HB4.out.os,HUZ.out.tape.trans HB4.out.tape,HUZ.out.output.trans HB4.out.output,Nat.le_trans HB4.out.size HUZ.out.size,fun q hq hn9=>(HUZ.out.block q (Nat.lt_of_lt_of_le hq HB4.out.size) (fun hh=>?_)).trans (HB4.out.block q hq)⟩⟩
 simp only [List.mem_cons] at hh
 rcases hh with rfl|hh
 ·have h2:=HGP.out;omega
 ·exact hn9 hh
end Go.Proofs.YtmlbjfklaehjnaaGreatDoor
