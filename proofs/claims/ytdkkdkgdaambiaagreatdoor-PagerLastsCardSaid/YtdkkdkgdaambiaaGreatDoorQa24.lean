import Derived.Test.YtdkkdkgdaambiaaGreatDoorQa23
import Derived.Test.YtdkkdkgdaambiaaGreatDoorQa14
set_option maxRecDepth 100000
namespace Go.Proofs.YtdkkdkgdaambiaaGreatDoor
open Go Go.RowKit Go.Maps
def gnC (n:Gn):List Value:=[.int .u64 (n.first:Int),.int .u64 (n.next:Int),.int .u64 (n.limit:Int)]
theorem gnC_one (n:Gn):∀v∈gnC n,v.oneCell'=true:=fun v hv=>by
 simp only [gnC,List.mem_cons,List.not_mem_nil,or_false] at hv
 rcases hv with rfl | rfl | rfl<;>rfl
theorem hd_gens {h:List Value} (hl:h.length=97) (n:Gn) (t:List Value):((h++(gnC n++t)).drop 97).take 3=gnC n:=by
 rw [←hl,List.drop_left]
 rfl
theorem gens_splice {h:List Value} (hl:h.length=97) (n n':Gn) (t:List Value):splice (h++(gnC n++t)) 97 (gnC n')=h++(gnC n'++t):=by
 rw [splice_at h _ _ 97 hl]
 rfl
theorem more_bare (g:Gn) (known:Nat) (h1:g.first≤g.next) (h2:g.next≤g.limit) (hb:g.limit<2305843009213693952) (hkb:known<2305843009213693952) (w:World) :
  Calls Tryz.prog 73 #[gnV g,.int .u64 (known:Int)] w fun e w'=>e=.returned (gnV (g.more known))∧Below w.heap.size w w':=by
 by_cases hk:g.limit<known
 ·exact more_new g known h1 h2 hb hkb hk w
 ·exact more_same g known h1 h2 hb hkb hk w
theorem On.rewA {d:Dk} {k:Nat} (h:On d k) (A A1:List Int):On (rewArea d A A1) (k+33)∧(rewArea d A A1).n=d.n:=by
 obtain ⟨a,b,c,_,e,f⟩:=rewArea_still h.off h.left A A1
 have h0:=h.s0
 have h1:=h.s1
 exact ⟨⟨a,b,by omega,by omega⟩,c⟩
theorem blockBytes_at (K1 K2 K3 KS:List Int) (hks:K1++(K2++K3)=KS) (limit root:Int) (pages n:Nat) (mt:ByteArray) (mv:Value) (p:Sts) (hl1:K1.length=32) (hl2:K2.length=32) (hl3:K3.length=32) (hkb:Bytes K2) (hkc:Bytes K3) (hp:pages≤400) (hrt:0≤root∧root<4294967296) (hmt:mt.size=n) (hn:n≤200) (w:World) (ht:Tab w) (hq:QTab w) (hs:StV w mv p) :
  Calls Tryz.prog 76 #[.agg (u8s KS).toArray,.int .i64 (pages:Int),.int .u64 limit,.agg (supC root mt mv).toArray] w fun e w'=>∃v,e=.returned v∧OwnB 5 w' w.heap.size v (blockN K2 K3 pages limit (bodyN root (strB mt) p) p)∧Below w.heap.size w w':=by
 subst hks
 exact blockBytes_any K1 K2 K3 limit root pages n mt mv p hl1 hl2 hl3 hkb hkc hp hrt hmt hn w ht hq hs
theorem StV.updS {L:List Nat} {w w':World} {mv:Value} {p:Sts} (h:StV w mv p) (hu:UpdS L w w') (ha:∀m,mv=.map (some m)→m ∉ L):StV w' mv p:=by
 rcases h with h | ⟨m,rfl,h⟩
 ·exact Or.inl h
 ·exact Or.inr ⟨m,rfl,h.updS hu (ha m rfl)⟩
theorem Tab.updS {w w':World} {L:List Nat} (h:Tab w) (hu:UpdS L w w') (hL:∀q∈L,2≤q):Tab w':=Tab.mem h (⟨hu.os,hu.tape,hu.output,hu.size,hu.block,fun r hr=>(by cases hr),(by simp),fun r hr=>(by cases hr)⟩:Mem w L w' []) (fun hh=>by have:=hL _ hh;omega)
theorem QTab.updS {w w':World} {L:List Nat} (h:QTab w) (hu:UpdS L w w') (hL:∀q∈L,2≤q):QTab w':=QTab.mem h (⟨hu.os,hu.tape,hu.output,hu.size,hu.block,fun r hr=>(by cases hr),(by simp),fun r hr=>(by cases hr)⟩:Mem w L w' []) (fun hh=>by have:=hL _ hh;omega)
set_option maxHeartbeats 4000000 in
theorem keep_any (gp g mb:Nat) (kv:Value) (P:Pg) (ml mu:Option Nat) (d:Dk) (pg k n kn at_ gA cA:Nat) (lA:List Value) (k0 k1:Bk) (root:Int) (mt:ByteArray) (mo:Option Nat) (p:Sts) (A A1 A2:List Int) (GN:Gn)
  (hA:secs d.now 0 32=A) (hat:nextP k0.v k1.v k0.l k1.l=at_) (hkn:knownN k0.v k1.v k0.l k1.l=(kn:Int)) (hGN:P.gn.more kn=GN) (hA1:wg A p=A1) (hA2:keepA P.kS P.kN pg A at_ GN.limit root (strB mt) p=A2)
  (hn:d.n=32+8 * pg) (hpg:pg≤400) (hdom:Dom p) (hgo:P.gn.first≤P.gn.next∧P.gn.next≤P.gn.limit) (hgb:P.gn.limit<2305843009213693952) (hknb:kn<2305843009213693952) (hrt:0≤root∧root<4294967296) (hmt:mt.size=n) (hnm:n≤200) (hon:On d k) (hk:k<9000000) (hcA:2048≤cA) (hg2:∀q∈gp::foot g mb kv,2≤q)
  (w:World) (ht:Tab w) (hq:QTab w) (hp:PgR w gp g mb kv P ml mu d) (hrA:Row w gA (u8s A++lA) 5) (hgA:gA ∉ foot g mb kv) (hs:StV w (.map mo) p) (hap:∀m,mo=some m→m ∉ gp::foot g mb kv) :
  Calls Tryz.prog 39 #[.pointer (some ⟨gp,0,none⟩),.agg (grC (.slice (some ⟨gA,0,none⟩) 2048 cA) k0 k1).toArray,.agg (supC root mt (.map mo)).toArray] w fun e w'=>e=.returned (.int .i64 0)∧PgR w' gp g mb kv {P with gn:=GN} ml mu (keepD d A A1 A2)∧UpdS (gp::foot g mb kv) w w':=by
 have HT:Hid (Tab w):=ht
 have HQ:Hid (QTab w):=hq
 have HP:Hid (PgR w gp g mb kv P ml mu d):=hp
 have HS:Hid (StV w (.map mo) p):=hs
 have HON:Hid (On d k):=hon
 have HAP:Hid (∀m,mo=some m→m ∉ gp::foot g mb kv):=hap
 have HRT:Hid (0≤root∧root<4294967296):=hrt
 have HGA:Hid (Row w gA (u8s A++lA) 5):=hrA
 have HFGA:Hid (gA ∉ foot g mb kv):=hgA
 have HG2:Hid (∀q∈gp::foot g mb kv,2≤q):=hg2
 have HAE:Hid (∀_:Unit,secs d.now 0 32=A):=fun _=>hA
 have HAL:Hid (A.length=2048):=by show _=_;rw [←hA];exact secs_length (fun i hi=>hp.dk.ok.now (by omega))
 have HAB:Hid (Bytes A):=by rw [←hA];exact secs_bytesP 32 (fun i hi=>hp.dk.ok.nowB (by omega))
 have HA1E:Hid (∀_:Unit,wg A p=A1):=fun _=>hA1
 have HA1L:Hid (A1.length=2048):=by rw [←hA1];exact wg_length HAL.out HAB.out hdom
 have HA1B:Hid (Bytes A1):=by rw [←hA1];exact wg_bytes HAL.out HAB.out hdom
 obtain ⟨KS,hKS⟩:∃KS,KS=P.kP++(P.kS++P.kN):=⟨_,rfl⟩
 have HKE:Hid (∀_:Unit,P.kP++(P.kS++P.kN)=KS):=fun _=>hKS.symm
 have hat2:at_<2:=by rw [←hat];exact nextP_lt _ _ _ _
 have HAT:Hid (∀_:Unit,nextP k0.v k1.v k0.l k1.l=at_):=fun _=>hat
 have HKN:Hid (∀_:Unit,knownN k0.v k1.v k0.l k1.l=(kn:Int)):=fun _=>hkn
 have HGNE:Hid (∀_:Unit,P.gn.more kn=GN):=fun _=>hGN
 have HGO:Hid (P.gn.first≤P.gn.next∧P.gn.next≤P.gn.limit):=hgo
 obtain ⟨BB,hBB⟩:∃BB,BB=blockN P.kS P.kN pg GN.limit (bodyN root (strB mt) p) p:=⟨_,rfl⟩
 have HBB:Hid (∀_:Unit,blockN P.kS P.kN pg GN.limit (bodyN root (strB mt) p) p=BB):=fun _=>hBB.symm
 have HBL:Hid (BB.length=299):=by rw [hBB];exact blockN_length _ _ _ _ (bodyN_length _ _ _) _
 have HBBB:Hid (Bytes BB):=by rw [hBB];exact blockN_bytes _ _ _ _ (bodyN_bytes _ (strB_bytes mt) _) _
 have HA2E:Hid (∀_:Unit,withB A1 at_ BB=A2):=fun _=>by rw [←hA2,keepA,hA1,hBB]
 have HA2L:Hid (A2.length=2048):=by rw [←hA2];exact keepA_length HAL.out HAB.out hdom hat2
 have HA2B:Hid (Bytes A2):=by rw [←hA2];exact keepA_bytes HAL.out HAB.out hdom (strB_bytes mt)
 have HD1:Hid (On (rewArea d A A1) (k+33)∧(rewArea d A A1).n=d.n):=hon.rewA A A1
 have HGV:Hid (∀_:Unit,gnV P.gn=.agg (gnC P.gn).toArray∧gnV GN=.agg (gnC GN).toArray):=fun _=>⟨rfl,rfl⟩
 have hm:=Mem.start w
 clear ht hq hp hs hon hap hrt hrA hgA hA hat hkn hGN hA1 hA2 hKS hgo hBB hg2 hdom
 go_enter Tryz.func39,Tryz.ntmps39
 go_wp2_with (first
  | ((with_reducible refine at_op (some 4) (.box 94 (.tmp 1)) ?_);refine wpl_box (grC (.slice (some ⟨gA,0,none⟩) 2048 cA) k0 k1) rfl hm ?_;clear hm;intro w1 gG hm)
  | ((with_reducible refine at_op (some 5) (.box 75 (.tmp 2)) ?_);refine wpl_box (supC root mt (.map mo)) rfl hm ?_;clear hm;intro w2 gS hm)
  | ((with_reducible refine at_op (some 15) (.load 94 (.tmp 4)) ?_);obtain ⟨fs,hfs⟩:=un_grd;go_must (refine wpl_ldw 1 hm rfl rfl _ hfs rfl 11 sz_grd rfl ?_);clear hfs fs)
  | (go_at_call 72;refine (next_any _ k0 k1 _).mono ?_;rintro e w3 ⟨he,hb⟩;rw [HAT.out (),HKN.out ()] at he;subst he;replace hm:=hm.call hb;clear hb)
  | ((with_reducible refine at_op (some 22) (.load 72 (.tmp 21)) ?_);obtain ⟨fs,hfs⟩:=un_gens;go_must (refine wpl_execG (gnV P.gn) rfl (exec_ldsG 97 (gnC P.gn) (PgR.row (PgR.mem HP.out hm)) rfl _ hfs rfl 3 sz_gens (by rw [List.length_append,PgR.hlen HP.out];show 97+3≤97+8;omega) (hd_gens (PgR.hlen HP.out) P.gn _)) ?_);clear hfs fs)
  | (go_at_call 73;refine (more_bare P.gn kn HGO.out.1 HGO.out.2 hgb hknb _).mono ?_;rintro e w4 ⟨he,hb⟩;rw [HGNE.out ()] at he;subst he;replace hm:=hm.call hb;clear hb)
  | ((with_reducible refine at_op (some 9) (.alloc 72) ?_);refine wpl_alloc _ zero_gens hm ?_;clear hm;intro w5 g9 hm)
  | ((with_reducible refine at_op none (.store 72 (.tmp 9) (.tmp 24)) ?_);refine wpl_stw 0 (gnC GN) hm rfl rfl rfl 3 sz_gens rfl rfl (gnC_one _) ?_;clear hm;intro w6 hm)
  | ((with_reducible refine at_op (some 26) (.load 22 (.tmp 25)) ?_);go_must (refine wpl_ldc 2 0 (.slice (some ⟨gA,0,none⟩) 2048 cA) hm rfl rfl ag_bs rfl ?_))
  | ((with_reducible refine at_op (some 28) (.load 73 (.tmp 27)) ?_);go_must (refine wpl_ldc 1 2 (.map mo) hm rfl rfl ag_smap rfl ?_))
  | (go_at_call 74;refine (withGens_any A _ (.map mo) p HAL.out HAB.out _ ⟨_,cA,by rw [HAL.out],by rw [HAL.out];exact hcA,fun _=>⟨gA,0,rfl,seg_hd (Row.below' HGA.out hm.below)⟩⟩ (StV.below HS.out hm.below)).mono ?_;rintro e w7 ⟨gW,rfl,hge,hr,hb⟩;rw [HA1E.out ()] at hr;replace hm:Mem w [] w7 [(gW,u8s A1,5),(g9,gnC GN,72),(gS,supC root mt (.map mo),75),(gG,grC (.slice (some ⟨gA,0,none⟩) 2048 cA) k0 k1,94)]:=hm.callNew hb hr hge;clear hb hr hge))
 have HP7:Hid (PgR w7 gp g mb kv P ml mu d):=PgR.mem HP.out hm
 have HB7:Hid (Below w.heap.size w w7):=hm.below
 replace HGA:Hid (Row w7 gA (u8s A++lA) 5):=Row.below' HGA.out hm.below
 have HGW:Hid (Row w7 gW (u8s A1) 5):=hm.get 0 rfl
 have HGN:Hid (Row w7 g9 (gnC GN) 72):=hm.get 1 rfl
 have HGS:Hid (Row w7 gS (supC root mt (.map mo)) 75):=hm.get 2 rfl
 have HGG:Hid (Row w7 gG (grC (.slice (some ⟨gA,0,none⟩) 2048 cA) k0 k1) 94):=hm.get 3 rfl
 have HNEW:Hid (∀r∈[gW,g9,gS,gG],w.heap.size≤r):=fun r hr=>by
  simp only [List.mem_cons,List.not_mem_nil,or_false] at hr
  have h9:=hm.fresh
  rcases hr with rfl | rfl | rfl | rfl
  ·have:=h9 _ (List.mem_of_getElem? (i:=0) rfl);simpa using this
  ·have:=h9 _ (List.mem_of_getElem? (i:=1) rfl);simpa using this
  ·have:=h9 _ (List.mem_of_getElem? (i:=2) rfl);simpa using this
  ·have:=h9 _ (List.mem_of_getElem? (i:=3) rfl);simpa using this
 have HFF:Hid (∀r∈[gW,g9,gS,gG],r ∉ gp::foot g mb kv):=fun r hr hh=>by have h1:=HP.out.lt r hh;have h2:=HNEW.out r hr;omega
 have HFGW:Hid (gW ∉ foot g mb kv):=fun hh=>HFF.out gW (by simp) (List.mem_cons_of_mem _ hh)
 have HFGN:Hid (g9 ∉ foot g mb kv):=fun hh=>HFF.out g9 (by simp) (List.mem_cons_of_mem _ hh)
 have HFGS:Hid (gS ∉ foot g mb kv):=fun hh=>HFF.out gS (by simp) (List.mem_cons_of_mem _ hh)
 have HFGG:Hid (gG ∉ foot g mb kv):=fun hh=>HFF.out gG (by simp) (List.mem_cons_of_mem _ hh)
 have HS7:Hid (StV w7 (.map mo) p):=StV.below HS.out hm.below
 have HT7:Hid (Tab w7):=Tab.mem HT.out hm (by simp)
 have HQ7:Hid (QTab w7):=QTab.mem HQ.out hm (by simp)
 clear hm HT HQ HS
 have hm:=Mem.start w7
 refine wp_ends0 ?_
 refine anyH_start (T:=fun W=>W.cell? ⟨gp,0,none⟩=some (.pointer (some ⟨g,0,none⟩))∧W.cell? ⟨gG,0,none⟩=some (.slice (some ⟨gA,0,none⟩) 2048 cA)) (by kernel_rfl) hm ?_
 clear hm
 intro w8 hm
 have HC8:Hid (w8.cell? ⟨gp,0,none⟩=some (.pointer (some ⟨g,0,none⟩))∧w8.cell? ⟨gG,0,none⟩=some (.slice (some ⟨gA,0,none⟩) 2048 cA)):=⟨(PgR.mem HP7.out hm).cell0,((Row.below' HGG.out hm.below).cell 0).trans rfl⟩
 refine aT 0 (v:=.pointer (some ⟨gp,0,none⟩)) rfl (by kernel_rfl) rfl (fun W _=>by go_simp) HC8.out ?_
 go_simp
 refine aT 1 (v:=.pointer (some ⟨gp,0,none⟩)) rfl (by kernel_rfl) rfl (fun W _=>by go_simp) HC8.out ?_
 go_simp
 refine aT 2 (v:=.pointer (some ⟨gp,0,none⟩)) rfl (by kernel_rfl) rfl (fun W _=>by go_simp) HC8.out ?_
 go_simp
 refine aT 3 (v:=.pointer (some ⟨g,0,none⟩)) rfl (by kernel_rfl) rfl (fun W hW=>exec_ldx (.pointer (some ⟨g,0,none⟩)) hW.1 rfl ag_dkp) HC8.out ?_
 go_simp
 refine aT 4 (v:=.pointer (some ⟨gG,0,none⟩)) rfl (by kernel_rfl) rfl (fun W _=>by go_simp) HC8.out ?_
 go_simp
 refine aT 5 (v:=.slice (some ⟨gA,0,none⟩) 2048 cA) rfl (by kernel_rfl) rfl (fun W hW=>exec_ldx (.slice (some ⟨gA,0,none⟩) 2048 cA) hW.2 rfl ag_bs) HC8.out ?_
 go_simp
 refine aT 6 (v:=.slice (some ⟨gW,0,none⟩) 2048 2048) rfl (by kernel_rfl) rfl (fun W _=>by go_simp) HC8.out ?_
 go_simp
 refine aO 7 (by kernel_rfl) rfl rfl ?_
 intro K hK
 go_wp2_with (go_at_call 75;refine (rewriteArea_any g mb kv d A A1 _ _ k HON.out (by omega) HAL.out HA1L.out HAB.out HA1B.out (by omega) _ (PgR.dk (PgR.mem HP7.out hm)) ⟨_,cA,by rw [HAL.out],by rw [HAL.out];exact hcA,fun _=>⟨gA,0,rfl,HFGA.out,seg_hd (Row.below' HGA.out hm.below)⟩⟩ (SlA.of_row (Row.below' HGW.out hm.below) 2048 HA1L.out.symm HFGW.out 2048 (Nat.le_refl _))).mono ?_;rintro e w9 ⟨he,hd9,hu9⟩;subst he;have HU9:Hid (UpdS (foot g mb kv) w7 w9):=(UpdS.of_below hm.below).trans hu9;have HP9:Hid (PgR w9 gp g mb kv P ml mu (rewArea d A A1)):=PgR.setDisk (PgR.mem HP7.out hm) hd9 hu9;clear hd9 hu9 hm)
 replace HGA:Hid (Row w9 gA (u8s A++lA) 5):=(HU9.out).row HGA.out HFGA.out
 replace HGW:Hid (Row w9 gW (u8s A1) 5):=(HU9.out).row HGW.out HFGW.out
 replace HGG:Hid (Row w9 gG (grC (.slice (some ⟨gA,0,none⟩) 2048 cA) k0 k1) 94):=(HU9.out).row HGG.out HFGG.out
 replace HGS:Hid (Row w9 gS (supC root mt (.map mo)) 75):=(HU9.out).row HGS.out HFGS.out
 replace HGN:Hid (Row w9 g9 (gnC GN) 72):=(HU9.out).row HGN.out HFGN.out
 replace HS7:Hid (StV w9 (.map mo) p):=StV.updS HS7.out HU9.out (fun m hm hh=>HAP.out m (by simpa using hm) (List.mem_cons_of_mem _ hh))
 replace HT7:Hid (Tab w9):=Tab.updS HT7.out HU9.out (fun q hq=>HG2.out q (List.mem_cons_of_mem _ hq))
 replace HQ7:Hid (QTab w9):=QTab.updS HQ7.out HU9.out (fun q hq=>HG2.out q (List.mem_cons_of_mem _ hq))
 have HC9:Hid (w9.cell? ⟨gp,0,none⟩=some (.pointer (some ⟨g,0,none⟩))∧w9.cell? ⟨gG,0,none⟩=some (.slice (some ⟨gA,0,none⟩) 2048 cA)):=⟨HP9.out.cell0,(HGG.out.cell 0).trans rfl⟩
 have HUW9:Hid (UpdS (gp::foot g mb kv) w w9):=(UpdS.of_below HB7.out).trans (HU9.out.mono (fun q hq=>List.mem_cons_of_mem _ hq))
 refine hK _ _ HC9.out ?_
 clear hK K
 refine aT 8 (v:=.int .i64 0) rfl (by kernel_rfl) rfl (fun W _=>by go_simp) HC9.out ?_
 go_simp
 refine wpAnyH_done (by kernel_rfl) ?_ _
 simp only [endsIn]
 clear HC8 HC9 HP7
 go_wp2_with fail
 have hm:=Mem.start w9
 refine wp_ends0 ?_
 refine anyH_start (T:=fun W=>Mem w9 [] W []) (by kernel_rfl) hm ?_
 clear hm
 intro wa hm
 obtain ⟨fk,hfk⟩:=un_kys
 obtain ⟨fu,hfu⟩:=un_sup
 refine aT 0 (v:=.pointer (some ⟨gp,0,none⟩)) rfl (by kernel_rfl) rfl (fun W _=>by go_simp) hm ?_
 go_simp
 refine aT 1 (v:=.pointer (some ⟨gp,0,none⟩)) rfl (by kernel_rfl) rfl (fun W _=>by go_simp) hm ?_
 go_simp
 refine aT 2 (v:=.pointer (some ⟨gp,1,none⟩)) rfl (by kernel_rfl) rfl (fun W _=>by go_simp) hm ?_
 go_simp
 refine aT 3 (v:=.agg (u8s KS).toArray) rfl (by kernel_rfl) rfl (fun W hW=>exec_ldsG 1 (u8s KS) (PgR.row (PgR.mem HP9.out hW)) rfl _ hfk rfl 96 sz_kys (by rw [List.length_append,PgR.hlen HP.out];show 1+96≤97+8;omega) (by rw [hd_keys g _ HP.out.ok.kP.1 HP.out.ok.kS.1 HP.out.ok.kN.1,HKE.out ()])) hm ?_
 go_simp
 refine aT 4 (v:=.pointer (some ⟨gp,0,none⟩)) rfl (by kernel_rfl) rfl (fun W _=>by go_simp) hm ?_
 go_simp
 refine aT 6 (v:=.pointer (some ⟨g9,2,none⟩)) rfl (by kernel_rfl) rfl (fun W _=>by go_simp) hm ?_
 go_simp
 refine aT 7 (v:=.int .u64 (GN.limit:Int)) rfl (by kernel_rfl) rfl (fun W hW=>exec_ldx (.int .u64 (GN.limit:Int)) (((Row.below' HGN.out hW.below).cell 2).trans rfl) rfl ag_u64) hm ?_
 go_simp
 refine aT 8 (v:=.agg (supC root mt (.map mo)).toArray) rfl (by kernel_rfl) rfl (fun W hW=>exec_ldsG 0 (supC root mt (.map mo)) (Row.below' HGS.out hW.below) rfl _ hfu rfl 3 sz_sup (by show 0+3≤3;omega) rfl) hm ?_
 go_simp
 refine aO 5 (by kernel_rfl) rfl rfl ?_
 intro K hK
 go_wp2_with (go_at_call 26;refine (plenR_any gp g mb kv P ml mu (rewArea d A A1) pg (by rw [HD1.out.2];exact hn) hpg _ (PgR.mem HP9.out hm)).mono ?_;rintro e wb ⟨rfl,rfl⟩)
 refine hK _ _ hm ?_
 clear hK K
 refine aO 9 (by kernel_rfl) rfl rfl ?_
 intro K hK
 go_wp2_with (go_at_call 76;refine (blockBytes_at P.kP P.kS P.kN KS (HKE.out ()) (GN.limit:Int) root pg n mt (.map mo) p HP.out.ok.kP.1 HP.out.ok.kS.1 HP.out.ok.kN.1 HP.out.ok.kS.2 HP.out.ok.kN.2 hpg HRT.out hmt hnm _ (Tab.mem HT7.out hm (by simp)) (QTab.mem HQ7.out hm (by simp)) (StV.below HS7.out hm.below)).mono ?_;rintro e wc ⟨v,he,ho,hb⟩;rw [HBB.out ()] at ho;obtain ⟨gB,cB,lB,hv,hgB,hrB,hcB⟩:=OwnB.row ho (by rw [HBL.out];omega);rw [HBL.out] at hv hcB;subst hv;subst he;have HRB:Hid (Row wc gB (u8s BB++lB) 5):=hrB;replace hm:=hm.call hb;clear ho hgB hrB hb)
 refine hK _ _ hm ?_
 clear hK K
 refine aT 10 (v:=.slice (some ⟨gB,0,none⟩) 299 cB) rfl (by kernel_rfl) rfl (fun W _=>by go_simp) hm ?_
 go_simp
 refine wpAnyH_done (by kernel_rfl) ?_ _
 simp only [endsIn]
 have HPC:Hid (PgR wc gp g mb kv P ml mu (rewArea d A A1)):=PgR.mem HP9.out hm
 replace HGW:Hid (Row wc gW (u8s A1) 5):=Row.below' HGW.out hm.below
 replace HGN:Hid (Row wc g9 (gnC GN) 72):=Row.below' HGN.out hm.below
 have HBC:Hid (Below w9.heap.size w9 wc):=hm.below
 clear hm HT7 HQ7 HS7 HGS HGG HGA
 go_wp2_with fail
 have hm:=Mem.start wc
 refine wp_ends0 ?_
 refine anyH_start (T:=fun W=>W.cell? ⟨gp,0,none⟩=some (.pointer (some ⟨g,0,none⟩))) (by kernel_rfl) hm ?_
 clear hm
 intro wd hm
 have HCD:Hid (wd.cell? ⟨gp,0,none⟩=some (.pointer (some ⟨g,0,none⟩))):=(PgR.mem HPC.out hm).cell0
 refine aT 0 (v:=.pointer (some ⟨gp,0,none⟩)) rfl (by kernel_rfl) rfl (fun W _=>by go_simp) HCD.out ?_
 go_simp
 refine aT 1 (v:=.pointer (some ⟨gp,0,none⟩)) rfl (by kernel_rfl) rfl (fun W _=>by go_simp) HCD.out ?_
 go_simp
 refine aT 2 (v:=.pointer (some ⟨gp,0,none⟩)) rfl (by kernel_rfl) rfl (fun W _=>by go_simp) HCD.out ?_
 go_simp
 refine aT 3 (v:=.pointer (some ⟨g,0,none⟩)) rfl (by kernel_rfl) rfl (fun W hW=>exec_ldx (.pointer (some ⟨g,0,none⟩)) hW rfl ag_dkp) HCD.out ?_
 go_simp
 refine aT 4 (v:=.slice (some ⟨gW,0,none⟩) 2048 2048) rfl (by kernel_rfl) rfl (fun W _=>by go_simp) HCD.out ?_
 go_simp
 refine aT 5 (v:=.slice (some ⟨gW,0,none⟩) 2048 2048) rfl (by kernel_rfl) rfl (fun W _=>by go_simp) HCD.out ?_
 go_simp
 refine aT 6 (v:=.int .i64 (at_:Int)) rfl (by kernel_rfl) rfl (fun W _=>by go_simp) HCD.out ?_
 go_simp
 refine aT 7 (v:=.slice (some ⟨gB,0,none⟩) 299 cB) rfl (by kernel_rfl) rfl (fun W _=>by go_simp) HCD.out ?_
 go_simp
 refine aO 8 (by kernel_rfl) rfl rfl ?_
 intro K hK
 go_wp2_with (go_at_call 77;refine (withBlock_any A1 BB _ _ at_ (by omega) HA1L.out HBL.out _ (old_all (Row.below' HGW.out hm.below) HA1L.out (Nat.le_refl _)) ⟨_,cB,by rw [HBL.out],by rw [HBL.out];exact hcB,fun _=>⟨gB,0,rfl,seg_hd (Row.below' HRB.out hm.below)⟩⟩).mono ?_;rintro e we ⟨gZ,rfl,hge,hr,hb⟩;rw [HA2E.out ()] at hr;have HRZ:Hid (Row we gZ (u8s A2) 5):=hr;have HFZ:Hid (gZ ∉ foot g mb kv):=(fun hh=>by have h1:=(PgR.dk HPC.out).lt gZ hh;have h2:=Nat.le_trans hm.size hge;omega);replace hm:=hm.call hb;clear hb hr hge)
 have HCE:Hid (we.cell? ⟨gp,0,none⟩=some (.pointer (some ⟨g,0,none⟩))):=(PgR.mem HPC.out hm).cell0
 refine hK _ _ HCE.out ?_
 clear hK K
 refine aO 9 (by kernel_rfl) rfl rfl ?_
 intro K hK
 go_wp2_with (go_at_call 75;refine (rewriteArea_any g mb kv (rewArea d A A1) A1 A2 _ _ (k+33) HD1.out.1 (by omega) HA1L.out HA2L.out HA1B.out HA2B.out (by rw [HD1.out.2];omega) _ (PgR.dk (PgR.mem HPC.out hm)) (SlA.of_row (Row.below' HGW.out hm.below) 2048 HA1L.out.symm HFGW.out 2048 (Nat.le_refl _)) (SlA.of_row HRZ.out 2048 HA2L.out.symm HFZ.out 2048 (Nat.le_refl _))).mono ?_;rintro e wf ⟨he,hdf,huf⟩;subst he;have HUF:Hid (UpdS (foot g mb kv) wc wf):=(UpdS.of_below hm.below).trans huf;have HPF:Hid (PgR wf gp g mb kv P ml mu (keepD d A A1 A2)):=PgR.setDisk (PgR.mem HPC.out hm) hdf huf;clear hdf huf hm)
 replace HGN:Hid (Row wf g9 (gnC GN) 72):=HUF.out.row HGN.out HFGN.out
 have HCF:Hid (wf.cell? ⟨gp,0,none⟩=some (.pointer (some ⟨g,0,none⟩))):=HPF.out.cell0
 have HUWF:Hid (UpdS (gp::foot g mb kv) w wf):=(HUW9.out.trans (UpdS.of_below HBC.out)).trans (HUF.out.mono (fun q hq=>List.mem_cons_of_mem _ hq))
 refine hK _ _ HCF.out ?_
 clear hK K
 refine aT 10 (v:=.int .i64 0) rfl (by kernel_rfl) rfl (fun W _=>by go_simp) HCF.out ?_
 go_simp
 refine wpAnyH_done (by kernel_rfl) ?_ _
 simp only [endsIn]
 go_wp2_with (first
  | ((with_reducible refine at_op (some 65) (.load 72 (.tmp 9)) ?_);obtain ⟨fs,hfs⟩:=un_gens;go_must (refine wpl_execG (.agg (gnC GN).toArray) rfl (exec_ldsG 0 (gnC GN) HGN.out rfl _ hfs rfl 3 sz_gens (by show 0+3≤3;omega) rfl) ?_);clear hfs fs)
  | ((with_reducible refine at_op none (.store 72 (.tmp 67) (.tmp 65)) ?_);go_must (refine wpl_sts 0 97 (gnC GN) (hdP g P.kP P.kS P.kN++tlP GN P.root P.mt ml mu P.off) (Mem.enter (PgR.row HPF.out)) rfl rfl rfl 3 sz_gens rfl (by rw [List.length_append,PgR.hlen HPF.out];show 97+3≤97+8;omega) (gnC_one _) (gens_splice (PgR.hlen HPF.out) P.gn GN _) ?_);intro wg_ hq;have HUG:Hid (Upd gp wf wg_):=hq.toUpd;have HPG:Hid (PgR wg_ gp g mb kv {P with gn:=GN} ml mu (keepD d A A1 A2)):=PgR.setRow HPF.out hq.toUpd ⟨HPF.out.ok.kP,HPF.out.ok.kS,HPF.out.ok.kN⟩ (hq.get 0 rfl);clear hq))
 go_ret
 exact ⟨rfl,HPG.out,HUWF.out.trans (UpdS.of_upd HUG.out (by simp))⟩
open Go Go.RowKit Go.Maps
theorem copyV (mN:Nat) (mv:Value) (p:Sts) (w:World) (h1:StM w mN (fun _=>none)) (h2:StV w mv p) (hne:mv≠.map (some mN)) :
  Calls Tryz.prog 78 #[.map (some mN),mv] w fun e w'=>e=.returned (.tuple #[])∧StM w' mN p∧UpdS [mN] w w':=by
 rcases h2 with ⟨rfl,rfl⟩ | ⟨m,rfl,h2⟩
 ·refine (copyS_nil mN w).mono ?_
  rintro e w' ⟨he,hb⟩
  exact ⟨he,h1.below hb,UpdS.of_below hb⟩
 ·exact copyS mN m p (fun e=>hne (by rw [e])) w h1 h2
theorem last_splice {h:List Value} (hl:h.length=97) (n:Gn) (b c e f i x y z:Value):splice (h++(gnC n++[b,c,e,f,i])) 100 [x,y,z]=h++(gnC n++[x,y,z,f,i]):=by
 rw [show h++(gnC n++[b,c,e,f,i])=(h++gnC n)++[b,c,e,f,i] by simp,splice_at (h++gnC n) _ _ 100 (by rw [List.length_append,hl];rfl)]
 simp
def atA (kS kN:List Int) (pg:Nat) (A:List Int):Nat:=nextP (validN kS kN pg (place A 0) (A.drop 299)) (validN kS kN pg (place A 1) (A.drop 299)) (limitAt (place A 0)) (limitAt (place A 1))
def knA (kS kN:List Int) (pg:Nat) (A:List Int):Int:=knownN (validN kS kN pg (place A 0) (A.drop 299)) (validN kS kN pg (place A 1) (A.drop 299)) (limitAt (place A 0)) (limitAt (place A 1))
def newA (kS kN:List Int) (pg:Nat) (A:List Int):Int:=newN (validN kS kN pg (place A 0) (A.drop 299)) (validN kS kN pg (place A 1) (A.drop 299)) (limitAt (place A 0)) (limitAt (place A 1))
theorem keep_g (gp g mb:Nat) (kv:Value) (P:Pg) (ml mu:Option Nat) (d:Dk) (pg k n kn at_ gA cA b0 b1:Nat) (lA:List Value) (k0 k1:Bk) (root:Int) (mt:ByteArray) (mo:Option Nat) (p:Sts) (A A1 A2:List Int) (GN:Gn)
  (hA:secs d.now 0 32=A) (hat:atA P.kS P.kN pg A=at_) (hkn:knA P.kS P.kN pg A=(kn:Int)) (hGN:P.gn.more kn=GN) (hA1:wg A p=A1) (hA2:keepA P.kS P.kN pg A at_ GN.limit root (strB mt) p=A2)
  (hn:d.n=32+8 * pg) (hpg:pg≤400) (hdom:Dom p) (hgo:P.gn.first≤P.gn.next∧P.gn.next≤P.gn.limit) (hgb:P.gn.limit<2305843009213693952) (hknb:kn<2305843009213693952) (hrt:0≤root∧root<4294967296) (hmt:mt.size=n) (hnm:n≤200) (hon:On d k) (hk:k<9000000) (hcA:2048≤cA) (hg2:∀q∈gp::foot g mb kv,2≤q)
  (w:World) (hk0:BlkIs w b0 P.kS P.kN pg A 0 k0) (hk1:BlkIs w b1 P.kS P.kN pg A 1 k1) (ht:Tab w) (hq:QTab w) (hp:PgR w gp g mb kv P ml mu d) (hrA:Row w gA (u8s A++lA) 5) (hgA:gA ∉ foot g mb kv) (hs:StV w (.map mo) p) (hap:∀m,mo=some m→m ∉ gp::foot g mb kv) :
  Calls Tryz.prog 39 #[.pointer (some ⟨gp,0,none⟩),.agg (grC (.slice (some ⟨gA,0,none⟩) 2048 cA) k0 k1).toArray,.agg (supC root mt (.map mo)).toArray] w fun e w'=>e=.returned (.int .i64 0)∧PgR w' gp g mb kv {P with gn:=GN} ml mu (keepD d A A1 A2)∧UpdS (gp::foot g mb kv) w w' :=
 keep_any gp g mb kv P ml mu d pg k n kn at_ gA cA lA k0 k1 root mt mo p A A1 A2 GN hA (by rw [hk0.v,hk1.v,hk0.l,hk1.l];exact hat) (by rw [hk0.v,hk1.v,hk0.l,hk1.l];exact hkn) hGN hA1 hA2 hn hpg hdom hgo hgb hknb hrt hmt hnm hon hk hcA hg2 w ht hq hp hrA hgA hs hap
set_option maxHeartbeats 2000000 in
theorem pbegin_any (gp g mb:Nat) (kv:Value) (P:Pg) (ml mu:Option Nat) (d:Dk) (root:Int) (mt:ByteArray) (mo:Option Nat) (p:Sts) (w:World) (hp:PgR w gp g mb kv P ml mu d) (hs:StV w (.map mo) p) :
  Calls Tryz.prog 40 #[.pointer (some ⟨gp,0,none⟩),.agg (supC root mt (.map mo)).toArray] w fun e w'=>e=.returned (.tuple #[])∧∃ml' mu',PgAt w' gp g mb kv ml' mu' {P with root:=root,mt:=mt,last:=p,used:=p} d∧w.heap.size≤ml'∧w.heap.size≤mu'∧UpdS [gp] w w':=by
 have HP:Hid (PgR w gp g mb kv P ml mu d):=hp
 have HS:Hid (StV w (.map mo) p):=hs
 have hm:=Mem.start w
 clear hp hs
 go_enter Tryz.func40,Tryz.ntmps40
 go_wp2_with (first
  | ((with_reducible refine at_op (some 3) (.box 75 (.tmp 1)) ?_);refine wpl_box (supC root mt (.map mo)) rfl hm ?_;clear hm;intro w1 gs hm)
  | ((with_reducible refine at_op (some 6) (.load 30 (.tmp 5)) ?_);go_must (refine wpl_ldc 0 0 (.int .u32 root) hm rfl rfl ag_u32x rfl ?_))
  | ((with_reducible refine at_op (some 8) (.load 9 (.tmp 7)) ?_);go_must (refine wpl_ldc 0 1 (.string mt) hm rfl rfl ag_strP rfl ?_))
  | ((with_reducible refine at_op (some 9) (.makeMap 73 none) ?_);go_must (refine wpl_mkMap hm ?_);have HW2:Hid (w.heap.size≤w1.heap.size):=hm.size;clear hm;intro w2 mN hm hmapD hgeD;have HMD:Hid (StM w2 mN (fun _=>none)):=StM.new hmapD;have HMG:Hid (w1.heap.size≤mN):=hgeD;clear hmapD hgeD)
  | ((with_reducible refine at_op (some 10) (.build 75 #[(0,.tmp 6),(1,.tmp 8),(2,.tmp 9)]) ?_);go_must (refine wpl_build (supC root mt (.map (some mN))) _ rfl (built_sup _ _ _) ?_))
  | ((with_reducible refine at_op none (.store 75 (.tmp 12) (.tmp 10)) ?_);go_must (refine wpl_sts 0 100 (supC root mt (.map (some mN))) (hdP g P.kP P.kS P.kN++tlP P.gn root mt (some mN) mu P.off) (Mem.enter (PgR.row (PgR.mem HP.out hm))) rfl rfl rfl 3 sz_sup rfl (by rw [List.length_append,PgR.hlen HP.out];show 100+3≤97+8;omega) (supC_one _ _ _) (last_splice (PgR.hlen HP.out) P.gn _ _ _ _ _ _ _ _) ?_);intro wE hq;have HUE:Hid (Upd gp w2 wE):=hq.toUpd;have HRE:Hid (Row wE gp (hdP g P.kP P.kS P.kN++tlP P.gn root mt (some mN) mu P.off) 77):=hq.get 0 rfl;clear hq))
 have HGS2:Hid (Row w2 gs (supC root mt (.map mo)) 75):=hm.get 0 rfl
 have HGP2:Hid (Row w2 gp _ 77):=PgR.row (PgR.mem HP.out hm)
 have HPE:Hid (PgR wE gp g mb kv {P with root:=root,mt:=mt} (some mN) mu d):=(PgR.mem HP.out hm).setRow (P':={P with root:=root,mt:=mt}) HUE.out ⟨HP.out.ok.kP,HP.out.ok.kS,HP.out.ok.kN⟩ HRE.out
 have HGSE:Hid (Row wE gs (supC root mt (.map mo)) 75):=HUE.out.row HGS2.out (row_typed HGS2.out HGP2.out (by decide))
 have HSE:Hid (StV wE (.map mo) p):=StV.updRow (StV.below HS.out hm.below) HGP2.out HUE.out
 have HME:Hid (StM wE mN (fun _=>none)):=by
  obtain ⟨es,c,hmp⟩:=HMD.out.isMap
  exact HMD.out.upd HUE.out (row_ne_map HGP2.out hmp)
 have HUWE:Hid (UpdS [gp] w wE):=(UpdS.of_below hm.below).trans (UpdS.of_upd HUE.out (by simp))
 have HMW:Hid (w.heap.size≤mN):=Nat.le_trans HW2.out HMG.out
 have HMNV:Hid ((.map mo:Value)≠.map (some mN)):=fun e=>by
  rcases HS.out with ⟨h1,_⟩ | ⟨m,h1,h2⟩
  ·rw [h1] at e;simp at e
  ·rw [h1] at e
   simp only [Value.map.injEq,Option.some.injEq] at e
   have h3:=h2.lt
   have h4:=HMW.out
   omega
 have HMGS:Hid (gs≠mN):=by
  obtain ⟨es,c,hmp⟩:=HME.out.isMap
  exact row_ne_map HGSE.out hmp
 have HMMB:Hid (mN≠mb):=fun e=>by have h1:=HMW.out;have h2:=HP.out.lt mb (by simp [foot]);omega
 clear hm HMD HGS2 HGP2 HUE HRE
 have hm:=Mem.start wE
 refine wp_ends0 ?_
 refine anyH_start (T:=fun W=>W.cell? ⟨gp,97+5,none⟩=some (.map (some mN))∧W.cell? ⟨gs,2,none⟩=some (.map mo)) (by kernel_rfl) hm ?_
 clear hm
 intro wF hm
 have HTF:Hid (wF.cell? ⟨gp,97+5,none⟩=some (.map (some mN))∧wF.cell? ⟨gs,2,none⟩=some (.map mo)):=⟨((HPE.out.below hm.below).cell 5).trans rfl,((Row.below' HGSE.out hm.below).cell 2).trans rfl⟩
 refine aT 0 (v:=.pointer (some ⟨gp,0,none⟩)) rfl (by kernel_rfl) rfl (fun W _=>by go_simp) HTF.out ?_
 go_simp
 refine aT 1 (v:=.pointer (some ⟨gp,0,none⟩)) rfl (by kernel_rfl) rfl (fun W _=>by go_simp) HTF.out ?_
 go_simp
 refine aT 2 (v:=.pointer (some ⟨gp,100,none⟩)) rfl (by kernel_rfl) rfl (fun W _=>by go_simp) HTF.out ?_
 go_simp
 refine aT 3 (v:=.pointer (some ⟨gp,102,none⟩)) rfl (by kernel_rfl) rfl (fun W _=>by go_simp) HTF.out ?_
 go_simp
 refine aT 4 (v:=.map (some mN)) rfl (by kernel_rfl) rfl (fun W hW=>exec_ldx (.map (some mN)) hW.1 rfl ag_smap) HTF.out ?_
 go_simp
 refine aT 5 (v:=.pointer (some ⟨gs,2,none⟩)) rfl (by kernel_rfl) rfl (fun W _=>by go_simp) HTF.out ?_
 go_simp
 refine aT 6 (v:=.map mo) rfl (by kernel_rfl) rfl (fun W hW=>exec_ldx (.map mo) hW.2 rfl ag_smap) HTF.out ?_
 go_simp
 refine aO 7 (by kernel_rfl) rfl rfl ?_
 intro K hK
 go_wp2_with (go_at_call 78;refine (copyV mN (.map mo) p _ (HME.out.below hm.below) (StV.below HSE.out hm.below) HMNV.out).mono ?_;rintro e wG ⟨rfl,hsG,huG⟩;have HSG:Hid (StM wG mN p):=hsG;have HUG:Hid (UpdS [mN] wF wG):=huG;clear hsG huG)
 have HPG:Hid (PgR wG gp g mb kv {P with root:=root,mt:=mt} (some mN) mu d):=(HPE.out.below hm.below).keep (fun q hq=>HUG.out.block q ((HPE.out.below hm.below).lt q hq) (fun hh=>by
  simp only [List.mem_cons,List.not_mem_nil,or_false] at hh
  have h1:=HP.out.lt q hq
  have h2:=HMW.out
  omega))
 have HGSG:Hid (Row wG gs (supC root mt (.map mo)) 75):=HUG.out.row (Row.below' HGSE.out hm.below) (by simpa using HMGS.out)
 have HTG:Hid (wG.cell? ⟨gp,97+5,none⟩=some (.map (some mN))∧wG.cell? ⟨gs,2,none⟩=some (.map mo)):=⟨(HPG.out.cell 5).trans rfl,(HGSG.out.cell 2).trans rfl⟩
 refine hK _ _ HTG.out ?_
 clear hK K
 refine wpAnyH_done (by kernel_rfl) ?_ _
 simp only [endsIn]
 go_wp2_with (first
  | (go_at_call 19;refine (undoR_any gp g mb kv _ mN mu d p HMMB.out _ HPG.out HSG.out).mono ?_;rintro e wH ⟨rfl,mu',hpH,hge,huH⟩;have HPH:Hid (PgAt wH gp g mb kv mN mu' {P with root:=root,mt:=mt,last:=p,used:=p} d):=hpH;have HGEH:Hid (wG.heap.size≤mu'):=hge;have HUH:Hid (UpdS [gp] wG wH):=huH;clear hpH hge huH))
 go_end0
 have hF:UpdS [gp] w wF:=HUWE.out.trans (UpdS.of_below hm.below)
 have hG:=UpdS.past hF HUG.out (fun q hq=>by simp only [List.mem_cons,List.not_mem_nil,or_false] at hq;rw [hq];exact HMW.out)
 exact ⟨rfl,mN,mu',HPH.out,HMW.out,Nat.le_trans hG.size HGEH.out,hG.trans HUH.out⟩
end Go.Proofs.YtdkkdkgdaambiaaGreatDoor
