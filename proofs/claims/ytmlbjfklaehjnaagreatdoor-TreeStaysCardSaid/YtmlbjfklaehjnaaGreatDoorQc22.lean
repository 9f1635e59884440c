import Derived.Test.YtmlbjfklaehjnaaGreatDoorQc21
import Derived.Test.YtmlbjfklaehjnaaGreatDoorQc11
set_option maxRecDepth 100000
set_option maxHeartbeats 4000000
namespace Go.Proofs.YtmlbjfklaehjnaaGreatDoor
open Go Go.RowKit Go.Maps
theorem PgAt.ofR {w w':World} {gp g mb ml mu:Nat} {kv:Value} {P P':Pg} {d d':Dk} (h:PgAt w gp g mb kv ml mu P d) (hr:PgR w' gp g mb kv P' (some ml) (some mu) d') (hu:UpdS (gp::foot g mb kv) w w') (h1:P'.last=P.last) (h2:P'.used=P.used):PgAt w' gp g mb kv ml mu P' d':=by
 have ha:=h.apart
 refine ⟨hr.ok,hr.row,hr.dk,?_,?_,h.ne⟩
 ·rw [h1]
  exact h.last.updS hu (fun hh=>by
   simp only [List.mem_cons] at hh
   rcases hh with hh|hh
   ·exact ha.2.2.2.1 hh.symm
   ·exact ha.2.1 hh)
 ·rw [h2]
  exact h.used.updS hu (fun hh=>by
   simp only [List.mem_cons] at hh
   rcases hh with hh|hh
   ·exact ha.2.2.2.2 hh.symm
   ·exact ha.2.2.1 hh)
theorem StM.domS {w:World} {m:Nat} {p:Sts} (h:StM w m p):Dom p:=by
 obtain ⟨q,D,ho,pm⟩:=h
 exact fun i g hh=>pm.dom i g hh
theorem StV.domS {w:World} {mv:Value} {p:Sts} (h:StV w mv p):Dom p:=by
 rcases h with ⟨_,rfl⟩|⟨m,_,h⟩
 ·exact cR
 ·exact h.domS
open Go Go.RowKit Go.Maps
def LimOk (d:Dk) (m:Nat):Prop:=∀j,j<2→limitAt (place (secs d.now 0 32) j)≤(m:Int)
theorem kX {A:List Int} (hb:Bytes A) (j:Nat):0≤limitAt (place A j):=bL ((g0 hb j).take 8)
theorem knA_nat {kS kN:List Int} {pg:Nat} {A:List Int} (hb:Bytes A) {m:Nat} (h0:limitAt (place A 0)≤(m:Int)) (h1:limitAt (place A 1)≤(m:Int)):∃kn:Nat,knA kS kN pg A=(kn:Int)∧kn≤m:=by
 have h2:=kX hb 0
 have h3:=kX hb 1
 have h4:=knownN_le (validN kS kN pg (place A 0) (A.drop 299)) (validN kS kN pg (place A 1) (A.drop 299)) h0 h1 (by omega)
 have h5:0≤knA kS kN pg A:=by
  unfold knA knownN
  split
  ·split<;>omega
  ·split<;>omega
 refine ⟨(knA kS kN pg A).toNat,by omega,?_⟩
 have h6:knA kS kN pg A≤(m:Int):=h4
 omega
/-- What keep makes of the rest: nothing. -/
theorem hO {d:Dk} {k:Nat} (hk:d.Ok) (hon:On d k) (hn:32≤d.n) {kS kN:List Int} {pg at_ limit m:Nat} {root:Int} {mt:List Int} {f:Gens} {A:List Int} (hA:secs d.now 0 32=A) (hf:Dom f) (ha:at_<2) (hm:Bytes mt) (hl:limit<18446744073709551616) (hml:m≤limit) (hlo:LimOk d m) :
  On (keepD d A (wg A f) (keepA kS kN pg A at_ limit root mt f)) (k+66)∧(keepD d A (wg A f) (keepA kS kN pg A at_ limit root mt f)).n=d.n∧(∀j,32≤j→(keepD d A (wg A f) (keepA kS kN pg A at_ limit root mt f)).now j=d.now j)∧LimOk (keepD d A (wg A f) (keepA kS kN pg A at_ limit root mt f)) limit∧secs (keepD d A (wg A f) (keepA kS kN pg A at_ limit root mt f)).now 0 32=keepA kS kN pg A at_ limit root mt f∧∀i,(keepD d A (wg A f) (keepA kS kN pg A at_ limit root mt f)).pend i=none:=by
 have hAL:A.length=2048:=by rw [←hA];exact cJ (fun i hi=>hk.now (by omega))
 have hAB:Bytes A:=by rw [←hA];exact dz 32 (fun i hi=>hk.nowB (by omega))
 have h1:=kg hk hon.off hon.left hA (dR hAL hAB hf) (lY hAL hAB hf) (ev (kS:=kS) (kN:=kN) (pg:=pg) (limit:=limit) (root:=root) (mt:=mt) hAL hAB hf ha) (fb (kS:=kS) (kN:=kN) (pg:=pg) (at_:=at_) (limit:=limit) (root:=root) hAL hAB hf hm) hn
 have h2:=mh hon.off hon.left hon.s0 hon.s1 A (wg A f) (keepA kS kN pg A at_ limit root mt f)
 refine ⟨⟨h2.1,h2.2.1,h2.2.2.1,h2.2.2.2.1⟩,h2.2.2.2.2.1,h1.2,fun j hj=>?_,h1.1,h2.2.2.2.2.2⟩
 rw [h1.1]
 have h3:=hlo 0 (by omega)
 have h4:=hlo 1 (by omega)
 rw [hA] at h3 h4
 exact keepA_lim hAL hAB hf ha hl h3 h4 (by omega) j hj
theorem hd_last {h:List Value} (hl:h.length=97) (n:Gn) (b c e f i:Value):((h++(gnC n++[b,c,e,f,i])).drop 100).take 3=[b,c,e]:=by
 rw [show h++(gnC n++[b,c,e,f,i])=(h++gnC n)++[b,c,e,f,i] by simp,show (100:Nat)=(h++gnC n).length by rw [List.length_append,hl];rfl,List.drop_left]
 rfl
theorem Gn.more_le' {g:Gn} (h:g.first≤g.next∧g.next≤g.limit) {known:Nat} (hk:known≤g.limit):(g.more known).first=g.first∧(g.more known).next=g.next∧g.limit<(g.more known).limit∧g.next<(g.more known).limit∧(g.more known).limit≤2 * g.limit+1∧(g.more known).limit=max g.limit (g.next+(g.next - g.first))+1:=by
 unfold Gn.more
 have hc:¬g.limit<known:=by omega
 simp only [hc,if_false]
 refine ⟨trivial,trivial,?_,?_,?_,trivial⟩<;>omega
theorem again_none (gp g mb:Nat) (kv:Value) (ml mu:Nat) (P:Pg) (d:Dk) (pg k kn:Nat) (hkn:knA P.kS P.kN pg (secs d.now 0 32)=(kn:Int)) (hn:d.n=32+8 * pg) (hpg:pg≤400) (hgo:P.gn.first≤P.gn.next∧P.gn.next≤P.gn.limit) (hgb:P.gn.limit<1152921504606846976) (hknb:kn≤P.gn.limit) (hrt:0≤P.root∧P.root<4294967296) (hmt:P.mt.size≤200) (hlo:LimOk d P.gn.limit) (hon:On d k) (hk:k<8000000) (hg2:∀q∈gp::foot g mb kv,2≤q) (hnew:newA P.kS P.kN pg (secs d.now 0 32) = -1) (w:World) (ht:Tab w) (hq:QTab w) (hp:PgAt w gp g mb kv ml mu P d) :
  Calls Tryz.prog 198 #[.pointer (some ⟨gp,0,none⟩)] w fun e w'=>e=.returned (.int .i64 0)∧∃d',PgAt w' gp g mb kv ml mu {P with gn:=P.gn.more kn} d'∧On d' (k+66)∧d'.n=d.n∧(∀j,32≤j→d'.now j=d.now j)∧LimOk d' (P.gn.more kn).limit∧UpdS (gp::foot g mb kv) w w':=by
 have HT:Hid (Tab w):=ht
 have HQ:Hid (QTab w):=hq
 have HP:Hid (PgAt w gp g mb kv ml mu P d):=hp
 have HON:Hid (On d k):=hon
 have HN:Hid (d.n=32+8 * pg):=hn
 have HRT:Hid (0≤P.root∧P.root<4294967296):=hrt
 have HMT:Hid (P.mt.size≤200):=hmt
 have HG2:Hid (∀q∈gp::foot g mb kv,2≤q):=hg2
 have HGO:Hid (P.gn.first≤P.gn.next∧P.gn.next≤P.gn.limit):=hgo
 obtain ⟨A,hA⟩:∃A,A=secs d.now 0 32:=⟨_,rfl⟩
 rw [←hA] at hkn hnew
 have HA:Hid (∀_:Unit,secs d.now 0 32=A):=fun _=>hA.symm
 have HKN:Hid (∀_:Unit,knA P.kS P.kN pg A=(kn:Int)):=fun _=>hkn
 have HNW:Hid (∀_:Unit,newN (validN P.kS P.kN pg (place A 0) (A.drop 299)) (validN P.kS P.kN pg (place A 1) (A.drop 299)) (limitAt (place A 0)) (limitAt (place A 1)) = -1):=fun _=>hnew
 have hml:=Gn.more_le' hgo hknb
 have HFX:Hid (∀(at_:Nat) (root:Int) (mt:List Int) (f:Sts),Dom f→at_<2→Bytes mt→_):=fun at_ root mt f h1 h2 h3=>hO (kS:=P.kS) (kN:=P.kN) (pg:=pg) (root:=root) hp.dk.ok hon (by omega) hA.symm h1 h2 h3 (limit:=(P.gn.more kn).limit) (by omega) (m:=P.gn.limit) (by omega) hlo
 have HAP:Hid (ml ∉ gp::foot g mb kv):=fun hh=>by
  have ha:=hp.apart
  simp only [List.mem_cons] at hh
  rcases hh with hh|hh
  ·exact ha.2.2.2.1 hh.symm
  ·exact ha.2.1 hh
 have hm:=Mem.start w
 clear ht hq hp hon hrt hmt hkn hnew hg2 hgo hn hlo hA hml
 go_enter Tryz.func198,Tryz.ntmps198
 go_wp2_with (first
  | (go_at_call 44;refine (eL gp g mb kv P (some ml) (some mu) d pg A (HA.out ()) HN.out hpg HON.out.off _ (Tab.mem HT.out hm (by simp)) (QTab.mem HQ.out hm (by simp)) (PgAt.toR (PgAt.mem HP.out hm))).mono ?_;rintro e wa ⟨gA,cA,lA,x,y,he,hcA,hgA,hrA,hx,hy,hb⟩;subst he;have HGA:Hid (Row wa gA (u8s A++lA) 5):=hrA;have HGE:Hid (w.heap.size≤gA):=Nat.le_trans hm.size hgA;have HX:Hid (BlkIs wa w.heap.size P.kS P.kN pg A 0 x):=hx.mono hm.size;have HY:Hid (BlkIs wa w.heap.size P.kS P.kN pg A 1 y):=hy.mono hm.size;replace hm:=hm.call hb;clear hgA hrA hx hy hb)
  | ((with_reducible refine aa (some 3) (.alloc 123) ?_);refine az _ eU hm ?_;clear hm;intro wb g7 hb hm;replace HGA:Hid (Row wb gA (u8s A++lA) 5):=Row.below' HGA.out hb;replace HX:Hid (BlkIs wb w.heap.size P.kS P.kN pg A 0 x):=HX.out.below hb;replace HY:Hid (BlkIs wb w.heap.size P.kS P.kN pg A 1 y):=HY.out.below hb;clear hb)
  | ((with_reducible refine aa none (.store 123 (.tmp 3) (.tmp 10)) ?_);refine ag 0 (grC (.slice (some ⟨gA,0,none⟩) 2048 cA) x y) (Mem.enter (hm.get 0 rfl)) rfl rfl rfl 11 bH rfl rfl (fP _ _ _ _ _) ?_;intro wc hq;replace HGA:Hid (Row wc gA (u8s A++lA) 5):=hq.toUpd.row HGA.out (aQ HGA.out (hm.get 0 rfl) (by decide));replace HX:Hid (BlkIs wc w.heap.size P.kS P.kN pg A 0 x):=HX.out.updRow (hm.get 0 rfl) hq.toUpd;replace HY:Hid (BlkIs wc w.heap.size P.kS P.kN pg A 1 y):=HY.out.updRow (hm.get 0 rfl) hq.toUpd;replace hm:Mem w [] wc [(g7,grC (.slice (some ⟨gA,0,none⟩) 2048 cA) x y,123)]:=hm.upd 0 rfl hq.toUpd (hq.get 0 rfl);clear hq)
  | ((with_reducible refine aa (some 18) (.load 106 (.tmp 17)) ?_);obtain ⟨fs,hfs⟩:=ep;go_must (refine ae (.agg (supC P.root P.mt (.map (some ml))).toArray) rfl (ao 100 (supC P.root P.mt (.map (some ml))) (PgAt.row (PgAt.mem HP.out hm)) rfl _ hfs rfl 3 b8 (by rw [List.length_append,PgAt.hlen HP.out];show 100+3≤97+8;omega) (hd_last (PgAt.hlen HP.out) P.gn _ _ _ _ _)) ?_);clear hfs fs)
  | ((with_reducible refine aa (some 5) (.alloc 106) ?_);refine az _ ir hm ?_;clear hm;intro wd g9 hb hm;replace HGA:Hid (Row wd gA (u8s A++lA) 5):=Row.below' HGA.out hb;replace HX:Hid (BlkIs wd w.heap.size P.kS P.kN pg A 0 x):=HX.out.below hb;replace HY:Hid (BlkIs wd w.heap.size P.kS P.kN pg A 1 y):=HY.out.below hb;clear hb)
  | ((with_reducible refine aa none (.store 106 (.tmp 5) (.tmp 18)) ?_);refine ag 0 (supC P.root P.mt (.map (some ml))) (Mem.enter (hm.get 0 rfl)) rfl rfl rfl 3 b8 rfl rfl (ed _ _ _) ?_;intro we hq;replace HGA:Hid (Row we gA (u8s A++lA) 5):=hq.toUpd.row HGA.out (aQ HGA.out (hm.get 0 rfl) (by decide));replace HX:Hid (BlkIs we w.heap.size P.kS P.kN pg A 0 x):=HX.out.updRow (hm.get 0 rfl) hq.toUpd;replace HY:Hid (BlkIs we w.heap.size P.kS P.kN pg A 1 y):=HY.out.updRow (hm.get 0 rfl) hq.toUpd;replace hm:Mem w [] we [(g9,supC P.root P.mt (.map (some ml)),106),(g7,grC (.slice (some ⟨gA,0,none⟩) 2048 cA) x y,123)]:=hm.upd 0 rfl hq.toUpd (hq.get 0 rfl);clear hq)
  | ((with_reducible refine aa (some 19) (.load 123 (.tmp 3)) ?_);obtain ⟨fs,hfs⟩:=cM;go_must (refine am 1 hm rfl rfl _ hfs rfl 11 bH rfl ?_);clear hfs fs)
  | (go_at_call 114;refine (dv _ x y _).mono ?_;rintro e wn ⟨he,hb⟩;rw [HX.out.v,HY.out.v,HX.out.l,HY.out.l,HNW.out ()] at he;subst he;replace HGA:Hid (Row wn gA (u8s A++lA) 5):=Row.below' HGA.out hb;replace HX:Hid (BlkIs wn w.heap.size P.kS P.kN pg A 0 x):=HX.out.below hb;replace HY:Hid (BlkIs wn w.heap.size P.kS P.kN pg A 1 y):=HY.out.below hb;replace hm:=hm.call hb;clear hb)
  | ((with_reducible refine aa (some 29) (.load 123 (.tmp 3)) ?_);obtain ⟨fs,hfs⟩:=cM;go_must (refine am 1 hm rfl rfl _ hfs rfl 11 bH rfl ?_);clear hfs fs)
  | ((with_reducible refine aa (some 30) (.load 106 (.tmp 5)) ?_);obtain ⟨fs,hfs⟩:=ep;go_must (refine am 0 hm rfl rfl _ hfs rfl 3 b8 rfl ?_);clear hfs fs)
  | (go_at_call 47;have hdm:Dom P.last:=StV.domS (Or.inr ⟨ml,rfl,PgAt.last (PgAt.mem HP.out hm)⟩);refine (keep_g gp g mb kv P (some ml) (some mu) d pg k P.mt.size kn (atA P.kS P.kN pg A) gA cA w.heap.size w.heap.size lA x y P.root P.mt (some ml) P.last A _ _ _ (HA.out ()) rfl (HKN.out ()) rfl rfl rfl HN.out hpg hdm HGO.out (by omega) (by omega) HRT.out rfl HMT.out HON.out (by omega) hcA HG2.out _ HX.out HY.out (Tab.mem HT.out hm (by simp)) (QTab.mem HQ.out hm (by simp)) (PgAt.toR (PgAt.mem HP.out hm)) HGA.out (fun hh=>by have h1:=(PgAt.dk HP.out).lt gA hh;have h2:=HGE.out;omega) (Or.inr ⟨ml,rfl,PgAt.last (PgAt.mem HP.out hm)⟩) (fun m hm=>by cases hm;exact HAP.out)).mono ?_;rintro e wk ⟨he,hpk,huk⟩;subst he;have hfx:=HFX.out (atA P.kS P.kN pg A) P.root (strB P.mt) P.last hdm (ef _ _ _ _) (cW _);have HFIN:Hid (∃d',PgAt wk gp g mb kv ml mu {P with gn:=P.gn.more kn} d'∧On d' (k+66)∧d'.n=d.n∧(∀j,32≤j→d'.now j=d.now j)∧LimOk d' (P.gn.more kn).limit∧UpdS (gp::foot g mb kv) w wk):=⟨_,(PgAt.mem HP.out hm).ofR hpk huk rfl rfl,hfx.1,hfx.2.1,hfx.2.2.1,hfx.2.2.2.1,(UpdS.of_below hm.below).trans huk⟩;clear hpk huk hm hfx hdm))
 go_ret
 exact ⟨rfl,HFIN.out⟩
theorem again_zero (gp g mb:Nat) (kv:Value) (ml mu:Nat) (P:Pg) (d:Dk) (pg k kn:Nat) (hkn:knA P.kS P.kN pg (secs d.now 0 32)=(kn:Int)) (hn:d.n=32+8 * pg) (hpg:pg≤400) (hgo:P.gn.first≤P.gn.next∧P.gn.next≤P.gn.limit) (hgb:P.gn.limit<1152921504606846976) (hknb:kn≤P.gn.limit) (hrt:0≤P.root∧P.root<4294967296) (hmt:P.mt.size≤200) (hlo:LimOk d P.gn.limit) (hon:On d k) (hk:k<8000000) (hg2:∀q∈gp::foot g mb kv,2≤q) (hnew:newA P.kS P.kN pg (secs d.now 0 32)=0) (w:World) (ht:Tab w) (hq:QTab w) (hp:PgAt w gp g mb kv ml mu P d) :
  Calls Tryz.prog 198 #[.pointer (some ⟨gp,0,none⟩)] w fun e w'=>e=.returned (.int .i64 0)∧∃d',PgAt w' gp g mb kv ml mu {P with gn:=P.gn.more kn} d'∧On d' (k+66)∧d'.n=d.n∧(∀j,32≤j→d'.now j=d.now j)∧LimOk d' (P.gn.more kn).limit∧UpdS (gp::foot g mb kv) w w':=by
 have HT:Hid (Tab w):=ht
 have HQ:Hid (QTab w):=hq
 have HP:Hid (PgAt w gp g mb kv ml mu P d):=hp
 have HON:Hid (On d k):=hon
 have HN:Hid (d.n=32+8 * pg):=hn
 have HRT:Hid (0≤P.root∧P.root<4294967296):=hrt
 have HMT:Hid (P.mt.size≤200):=hmt
 have HG2:Hid (∀q∈gp::foot g mb kv,2≤q):=hg2
 have HGO:Hid (P.gn.first≤P.gn.next∧P.gn.next≤P.gn.limit):=hgo
 obtain ⟨A,hA⟩:∃A,A=secs d.now 0 32:=⟨_,rfl⟩
 rw [←hA] at hkn hnew
 have HA:Hid (∀_:Unit,secs d.now 0 32=A):=fun _=>hA.symm
 have HKN:Hid (∀_:Unit,knA P.kS P.kN pg A=(kn:Int)):=fun _=>hkn
 have HNW:Hid (∀_:Unit,newN (validN P.kS P.kN pg (place A 0) (A.drop 299)) (validN P.kS P.kN pg (place A 1) (A.drop 299)) (limitAt (place A 0)) (limitAt (place A 1))=0):=fun _=>hnew
 have hml:=Gn.more_le' hgo hknb
 have HFX:Hid (∀(at_:Nat) (root:Int) (mt:List Int) (f:Sts),Dom f→at_<2→Bytes mt→_):=fun at_ root mt f h1 h2 h3=>hO (kS:=P.kS) (kN:=P.kN) (pg:=pg) (root:=root) hp.dk.ok hon (by omega) hA.symm h1 h2 h3 (limit:=(P.gn.more kn).limit) (by omega) (m:=P.gn.limit) (by omega) hlo
 have HAP:Hid (ml ∉ gp::foot g mb kv):=fun hh=>by
  have ha:=hp.apart
  simp only [List.mem_cons] at hh
  rcases hh with hh|hh
  ·exact ha.2.2.2.1 hh.symm
  ·exact ha.2.1 hh
 have hm:=Mem.start w
 clear ht hq hp hon hrt hmt hkn hnew hg2 hgo hn hlo hA hml
 go_enter Tryz.func198,Tryz.ntmps198
 go_wp2_with (first
  | (go_at_call 44;refine (eL gp g mb kv P (some ml) (some mu) d pg A (HA.out ()) HN.out hpg HON.out.off _ (Tab.mem HT.out hm (by simp)) (QTab.mem HQ.out hm (by simp)) (PgAt.toR (PgAt.mem HP.out hm))).mono ?_;rintro e wa ⟨gA,cA,lA,x,y,he,hcA,hgA,hrA,hx,hy,hb⟩;subst he;have HGA:Hid (Row wa gA (u8s A++lA) 5):=hrA;have HGE:Hid (w.heap.size≤gA):=Nat.le_trans hm.size hgA;have HX:Hid (BlkIs wa w.heap.size P.kS P.kN pg A 0 x):=hx.mono hm.size;have HY:Hid (BlkIs wa w.heap.size P.kS P.kN pg A 1 y):=hy.mono hm.size;replace hm:=hm.call hb;clear hgA hrA hx hy hb)
  | ((with_reducible refine aa (some 3) (.alloc 123) ?_);refine az _ eU hm ?_;clear hm;intro wb g7 hb hm;replace HGA:Hid (Row wb gA (u8s A++lA) 5):=Row.below' HGA.out hb;replace HX:Hid (BlkIs wb w.heap.size P.kS P.kN pg A 0 x):=HX.out.below hb;replace HY:Hid (BlkIs wb w.heap.size P.kS P.kN pg A 1 y):=HY.out.below hb;clear hb)
  | ((with_reducible refine aa none (.store 123 (.tmp 3) (.tmp 10)) ?_);refine ag 0 (grC (.slice (some ⟨gA,0,none⟩) 2048 cA) x y) (Mem.enter (hm.get 0 rfl)) rfl rfl rfl 11 bH rfl rfl (fP _ _ _ _ _) ?_;intro wc hq;replace HGA:Hid (Row wc gA (u8s A++lA) 5):=hq.toUpd.row HGA.out (aQ HGA.out (hm.get 0 rfl) (by decide));replace HX:Hid (BlkIs wc w.heap.size P.kS P.kN pg A 0 x):=HX.out.updRow (hm.get 0 rfl) hq.toUpd;replace HY:Hid (BlkIs wc w.heap.size P.kS P.kN pg A 1 y):=HY.out.updRow (hm.get 0 rfl) hq.toUpd;replace hm:Mem w [] wc [(g7,grC (.slice (some ⟨gA,0,none⟩) 2048 cA) x y,123)]:=hm.upd 0 rfl hq.toUpd (hq.get 0 rfl);clear hq)
  | ((with_reducible refine aa (some 18) (.load 106 (.tmp 17)) ?_);obtain ⟨fs,hfs⟩:=ep;go_must (refine ae (.agg (supC P.root P.mt (.map (some ml))).toArray) rfl (ao 100 (supC P.root P.mt (.map (some ml))) (PgAt.row (PgAt.mem HP.out hm)) rfl _ hfs rfl 3 b8 (by rw [List.length_append,PgAt.hlen HP.out];show 100+3≤97+8;omega) (hd_last (PgAt.hlen HP.out) P.gn _ _ _ _ _)) ?_);clear hfs fs)
  | ((with_reducible refine aa (some 5) (.alloc 106) ?_);refine az _ ir hm ?_;clear hm;intro wd g9 hb hm;replace HGA:Hid (Row wd gA (u8s A++lA) 5):=Row.below' HGA.out hb;replace HX:Hid (BlkIs wd w.heap.size P.kS P.kN pg A 0 x):=HX.out.below hb;replace HY:Hid (BlkIs wd w.heap.size P.kS P.kN pg A 1 y):=HY.out.below hb;clear hb)
  | ((with_reducible refine aa none (.store 106 (.tmp 5) (.tmp 18)) ?_);refine ag 0 (supC P.root P.mt (.map (some ml))) (Mem.enter (hm.get 0 rfl)) rfl rfl rfl 3 b8 rfl rfl (ed _ _ _) ?_;intro we hq;replace HGA:Hid (Row we gA (u8s A++lA) 5):=hq.toUpd.row HGA.out (aQ HGA.out (hm.get 0 rfl) (by decide));replace HX:Hid (BlkIs we w.heap.size P.kS P.kN pg A 0 x):=HX.out.updRow (hm.get 0 rfl) hq.toUpd;replace HY:Hid (BlkIs we w.heap.size P.kS P.kN pg A 1 y):=HY.out.updRow (hm.get 0 rfl) hq.toUpd;replace hm:Mem w [] we [(g9,supC P.root P.mt (.map (some ml)),106),(g7,grC (.slice (some ⟨gA,0,none⟩) 2048 cA) x y,123)]:=hm.upd 0 rfl hq.toUpd (hq.get 0 rfl);clear hq)
  | ((with_reducible refine aa (some 19) (.load 123 (.tmp 3)) ?_);obtain ⟨fs,hfs⟩:=cM;go_must (refine am 1 hm rfl rfl _ hfs rfl 11 bH rfl ?_);clear hfs fs)
  | (go_at_call 114;refine (dv _ x y _).mono ?_;rintro e wn ⟨he,hb⟩;rw [HX.out.v,HY.out.v,HX.out.l,HY.out.l,HNW.out ()] at he;subst he;replace HGA:Hid (Row wn gA (u8s A++lA) 5):=Row.below' HGA.out hb;replace HX:Hid (BlkIs wn w.heap.size P.kS P.kN pg A 0 x):=HX.out.below hb;replace HY:Hid (BlkIs wn w.heap.size P.kS P.kN pg A 1 y):=HY.out.below hb;replace hm:=hm.call hb;clear hb)
  | ((with_reducible refine aa (some 27) (.load 106 (.tmp 26)) ?_);obtain ⟨fs,hfs⟩:=ep;go_must (refine ae (.agg (supC x.r x.s (.map x.m)).toArray) rfl (ao 3 (supC x.r x.s (.map x.m)) (hm.get 1 rfl) rfl _ hfs rfl 3 b8 (by show 3+3≤11;omega) rfl) ?_);clear hfs fs)
  | ((with_reducible refine aa none (.store 106 (.tmp 5) (.tmp 27)) ?_);refine ag 0 (supC x.r x.s (.map x.m)) (Mem.enter (hm.get 0 rfl)) rfl rfl rfl 3 b8 rfl rfl (ed _ _ _) ?_;intro wo hq;replace HGA:Hid (Row wo gA (u8s A++lA) 5):=hq.toUpd.row HGA.out (aQ HGA.out (hm.get 0 rfl) (by decide));replace HX:Hid (BlkIs wo w.heap.size P.kS P.kN pg A 0 x):=HX.out.updRow (hm.get 0 rfl) hq.toUpd;replace HY:Hid (BlkIs wo w.heap.size P.kS P.kN pg A 1 y):=HY.out.updRow (hm.get 0 rfl) hq.toUpd;replace hm:Mem w [] wo [(g9,supC x.r x.s (.map x.m),106),(g7,grC (.slice (some ⟨gA,0,none⟩) 2048 cA) x y,123)]:=hm.upd 0 rfl hq.toUpd (hq.get 0 rfl);clear hq)
  | ((with_reducible refine aa (some 29) (.load 123 (.tmp 3)) ?_);obtain ⟨fs,hfs⟩:=cM;go_must (refine am 1 hm rfl rfl _ hfs rfl 11 bH rfl ?_);clear hfs fs)
  | ((with_reducible refine aa (some 30) (.load 106 (.tmp 5)) ?_);obtain ⟨fs,hfs⟩:=ep;go_must (refine am 0 hm rfl rfl _ hfs rfl 3 b8 rfl ?_);clear hfs fs)
  | (go_at_call 47;obtain ⟨q,hq1,_⟩:=HX.out.st;have hdm:Dom q:=StV.domS hq1;refine (keep_g gp g mb kv P (some ml) (some mu) d pg k x.s.size kn (atA P.kS P.kN pg A) gA cA w.heap.size w.heap.size lA x y x.r x.s x.m q A _ _ _ (HA.out ()) rfl (HKN.out ()) rfl rfl rfl HN.out hpg hdm HGO.out (by omega) (by omega) HX.out.r rfl HX.out.s HON.out (by omega) hcA HG2.out _ HX.out HY.out (Tab.mem HT.out hm (by simp)) (QTab.mem HQ.out hm (by simp)) (PgAt.toR (PgAt.mem HP.out hm)) HGA.out (fun hh=>by have h1:=(PgAt.dk HP.out).lt gA hh;have h2:=HGE.out;omega) hq1 (fun m hm hh=>by have h1:=HP.out.toR.lt m hh;have h2:=HX.out.new m hm;omega)).mono ?_;rintro e wk ⟨he,hpk,huk⟩;subst he;have hfx:=HFX.out (atA P.kS P.kN pg A) x.r (strB x.s) q hdm (ef _ _ _ _) (cW _);have HFIN:Hid (∃d',PgAt wk gp g mb kv ml mu {P with gn:=P.gn.more kn} d'∧On d' (k+66)∧d'.n=d.n∧(∀j,32≤j→d'.now j=d.now j)∧LimOk d' (P.gn.more kn).limit∧UpdS (gp::foot g mb kv) w wk):=⟨_,(PgAt.mem HP.out hm).ofR hpk huk rfl rfl,hfx.1,hfx.2.1,hfx.2.2.1,hfx.2.2.2.1,(UpdS.of_below hm.below).trans huk⟩;clear hpk huk hm hfx hdm))
 go_ret
 exact ⟨rfl,HFIN.out⟩
theorem again_one (gp g mb:Nat) (kv:Value) (ml mu:Nat) (P:Pg) (d:Dk) (pg k kn:Nat) (hkn:knA P.kS P.kN pg (secs d.now 0 32)=(kn:Int)) (hn:d.n=32+8 * pg) (hpg:pg≤400) (hgo:P.gn.first≤P.gn.next∧P.gn.next≤P.gn.limit) (hgb:P.gn.limit<1152921504606846976) (hknb:kn≤P.gn.limit) (hrt:0≤P.root∧P.root<4294967296) (hmt:P.mt.size≤200) (hlo:LimOk d P.gn.limit) (hon:On d k) (hk:k<8000000) (hg2:∀q∈gp::foot g mb kv,2≤q) (hnew:newA P.kS P.kN pg (secs d.now 0 32)=1) (w:World) (ht:Tab w) (hq:QTab w) (hp:PgAt w gp g mb kv ml mu P d) :
  Calls Tryz.prog 198 #[.pointer (some ⟨gp,0,none⟩)] w fun e w'=>e=.returned (.int .i64 0)∧∃d',PgAt w' gp g mb kv ml mu {P with gn:=P.gn.more kn} d'∧On d' (k+66)∧d'.n=d.n∧(∀j,32≤j→d'.now j=d.now j)∧LimOk d' (P.gn.more kn).limit∧UpdS (gp::foot g mb kv) w w':=by
 have HT:Hid (Tab w):=ht
 have HQ:Hid (QTab w):=hq
 have HP:Hid (PgAt w gp g mb kv ml mu P d):=hp
 have HON:Hid (On d k):=hon
 have HN:Hid (d.n=32+8 * pg):=hn
 have HRT:Hid (0≤P.root∧P.root<4294967296):=hrt
 have HMT:Hid (P.mt.size≤200):=hmt
 have HG2:Hid (∀q∈gp::foot g mb kv,2≤q):=hg2
 have HGO:Hid (P.gn.first≤P.gn.next∧P.gn.next≤P.gn.limit):=hgo
 obtain ⟨A,hA⟩:∃A,A=secs d.now 0 32:=⟨_,rfl⟩
 rw [←hA] at hkn hnew
 have HA:Hid (∀_:Unit,secs d.now 0 32=A):=fun _=>hA.symm
 have HKN:Hid (∀_:Unit,knA P.kS P.kN pg A=(kn:Int)):=fun _=>hkn
 have HNW:Hid (∀_:Unit,newN (validN P.kS P.kN pg (place A 0) (A.drop 299)) (validN P.kS P.kN pg (place A 1) (A.drop 299)) (limitAt (place A 0)) (limitAt (place A 1))=1):=fun _=>hnew
 have hml:=Gn.more_le' hgo hknb
 have HFX:Hid (∀(at_:Nat) (root:Int) (mt:List Int) (f:Sts),Dom f→at_<2→Bytes mt→_):=fun at_ root mt f h1 h2 h3=>hO (kS:=P.kS) (kN:=P.kN) (pg:=pg) (root:=root) hp.dk.ok hon (by omega) hA.symm h1 h2 h3 (limit:=(P.gn.more kn).limit) (by omega) (m:=P.gn.limit) (by omega) hlo
 have HAP:Hid (ml ∉ gp::foot g mb kv):=fun hh=>by
  have ha:=hp.apart
  simp only [List.mem_cons] at hh
  rcases hh with hh|hh
  ·exact ha.2.2.2.1 hh.symm
  ·exact ha.2.1 hh
 have hm:=Mem.start w
 clear ht hq hp hon hrt hmt hkn hnew hg2 hgo hn hlo hA hml
 go_enter Tryz.func198,Tryz.ntmps198
 go_wp2_with (first
  | (go_at_call 44;refine (eL gp g mb kv P (some ml) (some mu) d pg A (HA.out ()) HN.out hpg HON.out.off _ (Tab.mem HT.out hm (by simp)) (QTab.mem HQ.out hm (by simp)) (PgAt.toR (PgAt.mem HP.out hm))).mono ?_;rintro e wa ⟨gA,cA,lA,x,y,he,hcA,hgA,hrA,hx,hy,hb⟩;subst he;have HGA:Hid (Row wa gA (u8s A++lA) 5):=hrA;have HGE:Hid (w.heap.size≤gA):=Nat.le_trans hm.size hgA;have HX:Hid (BlkIs wa w.heap.size P.kS P.kN pg A 0 x):=hx.mono hm.size;have HY:Hid (BlkIs wa w.heap.size P.kS P.kN pg A 1 y):=hy.mono hm.size;replace hm:=hm.call hb;clear hgA hrA hx hy hb)
  | ((with_reducible refine aa (some 3) (.alloc 123) ?_);refine az _ eU hm ?_;clear hm;intro wb g7 hb hm;replace HGA:Hid (Row wb gA (u8s A++lA) 5):=Row.below' HGA.out hb;replace HX:Hid (BlkIs wb w.heap.size P.kS P.kN pg A 0 x):=HX.out.below hb;replace HY:Hid (BlkIs wb w.heap.size P.kS P.kN pg A 1 y):=HY.out.below hb;clear hb)
  | ((with_reducible refine aa none (.store 123 (.tmp 3) (.tmp 10)) ?_);refine ag 0 (grC (.slice (some ⟨gA,0,none⟩) 2048 cA) x y) (Mem.enter (hm.get 0 rfl)) rfl rfl rfl 11 bH rfl rfl (fP _ _ _ _ _) ?_;intro wc hq;replace HGA:Hid (Row wc gA (u8s A++lA) 5):=hq.toUpd.row HGA.out (aQ HGA.out (hm.get 0 rfl) (by decide));replace HX:Hid (BlkIs wc w.heap.size P.kS P.kN pg A 0 x):=HX.out.updRow (hm.get 0 rfl) hq.toUpd;replace HY:Hid (BlkIs wc w.heap.size P.kS P.kN pg A 1 y):=HY.out.updRow (hm.get 0 rfl) hq.toUpd;replace hm:Mem w [] wc [(g7,grC (.slice (some ⟨gA,0,none⟩) 2048 cA) x y,123)]:=hm.upd 0 rfl hq.toUpd (hq.get 0 rfl);clear hq)
  | ((with_reducible refine aa (some 18) (.load 106 (.tmp 17)) ?_);obtain ⟨fs,hfs⟩:=ep;go_must (refine ae (.agg (supC P.root P.mt (.map (some ml))).toArray) rfl (ao 100 (supC P.root P.mt (.map (some ml))) (PgAt.row (PgAt.mem HP.out hm)) rfl _ hfs rfl 3 b8 (by rw [List.length_append,PgAt.hlen HP.out];show 100+3≤97+8;omega) (hd_last (PgAt.hlen HP.out) P.gn _ _ _ _ _)) ?_);clear hfs fs)
  | ((with_reducible refine aa (some 5) (.alloc 106) ?_);refine az _ ir hm ?_;clear hm;intro wd g9 hb hm;replace HGA:Hid (Row wd gA (u8s A++lA) 5):=Row.below' HGA.out hb;replace HX:Hid (BlkIs wd w.heap.size P.kS P.kN pg A 0 x):=HX.out.below hb;replace HY:Hid (BlkIs wd w.heap.size P.kS P.kN pg A 1 y):=HY.out.below hb;clear hb)
  | ((with_reducible refine aa none (.store 106 (.tmp 5) (.tmp 18)) ?_);refine ag 0 (supC P.root P.mt (.map (some ml))) (Mem.enter (hm.get 0 rfl)) rfl rfl rfl 3 b8 rfl rfl (ed _ _ _) ?_;intro we hq;replace HGA:Hid (Row we gA (u8s A++lA) 5):=hq.toUpd.row HGA.out (aQ HGA.out (hm.get 0 rfl) (by decide));replace HX:Hid (BlkIs we w.heap.size P.kS P.kN pg A 0 x):=HX.out.updRow (hm.get 0 rfl) hq.toUpd;replace HY:Hid (BlkIs we w.heap.size P.kS P.kN pg A 1 y):=HY.out.updRow (hm.get 0 rfl) hq.toUpd;replace hm:Mem w [] we [(g9,supC P.root P.mt (.map (some ml)),106),(g7,grC (.slice (some ⟨gA,0,none⟩) 2048 cA) x y,123)]:=hm.upd 0 rfl hq.toUpd (hq.get 0 rfl);clear hq)
  | ((with_reducible refine aa (some 19) (.load 123 (.tmp 3)) ?_);obtain ⟨fs,hfs⟩:=cM;go_must (refine am 1 hm rfl rfl _ hfs rfl 11 bH rfl ?_);clear hfs fs)
  | (go_at_call 114;refine (dv _ x y _).mono ?_;rintro e wn ⟨he,hb⟩;rw [HX.out.v,HY.out.v,HX.out.l,HY.out.l,HNW.out ()] at he;subst he;replace HGA:Hid (Row wn gA (u8s A++lA) 5):=Row.below' HGA.out hb;replace HX:Hid (BlkIs wn w.heap.size P.kS P.kN pg A 0 x):=HX.out.below hb;replace HY:Hid (BlkIs wn w.heap.size P.kS P.kN pg A 1 y):=HY.out.below hb;replace hm:=hm.call hb;clear hb)
  | ((with_reducible refine aa (some 27) (.load 106 (.tmp 26)) ?_);obtain ⟨fs,hfs⟩:=ep;go_must (refine ae (.agg (supC y.r y.s (.map y.m)).toArray) rfl (ao 8 (supC y.r y.s (.map y.m)) (hm.get 1 rfl) rfl _ hfs rfl 3 b8 (by show 8+3≤11;omega) rfl) ?_);clear hfs fs)
  | ((with_reducible refine aa none (.store 106 (.tmp 5) (.tmp 27)) ?_);refine ag 0 (supC y.r y.s (.map y.m)) (Mem.enter (hm.get 0 rfl)) rfl rfl rfl 3 b8 rfl rfl (ed _ _ _) ?_;intro wo hq;replace HGA:Hid (Row wo gA (u8s A++lA) 5):=hq.toUpd.row HGA.out (aQ HGA.out (hm.get 0 rfl) (by decide));replace HX:Hid (BlkIs wo w.heap.size P.kS P.kN pg A 0 x):=HX.out.updRow (hm.get 0 rfl) hq.toUpd;replace HY:Hid (BlkIs wo w.heap.size P.kS P.kN pg A 1 y):=HY.out.updRow (hm.get 0 rfl) hq.toUpd;replace hm:Mem w [] wo [(g9,supC y.r y.s (.map y.m),106),(g7,grC (.slice (some ⟨gA,0,none⟩) 2048 cA) x y,123)]:=hm.upd 0 rfl hq.toUpd (hq.get 0 rfl);clear hq)
  | ((with_reducible refine aa (some 29) (.load 123 (.tmp 3)) ?_);obtain ⟨fs,hfs⟩:=cM;go_must (refine am 1 hm rfl rfl _ hfs rfl 11 bH rfl ?_);clear hfs fs)
  | ((with_reducible refine aa (some 30) (.load 106 (.tmp 5)) ?_);obtain ⟨fs,hfs⟩:=ep;go_must (refine am 0 hm rfl rfl _ hfs rfl 3 b8 rfl ?_);clear hfs fs)
  | (go_at_call 47;obtain ⟨q,hq1,_⟩:=HY.out.st;have hdm:Dom q:=StV.domS hq1;refine (keep_g gp g mb kv P (some ml) (some mu) d pg k y.s.size kn (atA P.kS P.kN pg A) gA cA w.heap.size w.heap.size lA x y y.r y.s y.m q A _ _ _ (HA.out ()) rfl (HKN.out ()) rfl rfl rfl HN.out hpg hdm HGO.out (by omega) (by omega) HY.out.r rfl HY.out.s HON.out (by omega) hcA HG2.out _ HX.out HY.out (Tab.mem HT.out hm (by simp)) (QTab.mem HQ.out hm (by simp)) (PgAt.toR (PgAt.mem HP.out hm)) HGA.out (fun hh=>by have h1:=(PgAt.dk HP.out).lt gA hh;have h2:=HGE.out;omega) hq1 (fun m hm hh=>by have h1:=HP.out.toR.lt m hh;have h2:=HY.out.new m hm;omega)).mono ?_;rintro e wk ⟨he,hpk,huk⟩;subst he;have hfx:=HFX.out (atA P.kS P.kN pg A) y.r (strB y.s) q hdm (ef _ _ _ _) (cW _);have HFIN:Hid (∃d',PgAt wk gp g mb kv ml mu {P with gn:=P.gn.more kn} d'∧On d' (k+66)∧d'.n=d.n∧(∀j,32≤j→d'.now j=d.now j)∧LimOk d' (P.gn.more kn).limit∧UpdS (gp::foot g mb kv) w wk):=⟨_,(PgAt.mem HP.out hm).ofR hpk huk rfl rfl,hfx.1,hfx.2.1,hfx.2.2.1,hfx.2.2.2.1,(UpdS.of_below hm.below).trans huk⟩;clear hpk huk hm hfx hdm))
 go_ret
 exact ⟨rfl,HFIN.out⟩
theorem again_any (gp g mb:Nat) (kv:Value) (ml mu:Nat) (P:Pg) (d:Dk) (pg k kn:Nat) (hkn:knA P.kS P.kN pg (secs d.now 0 32)=(kn:Int)) (hn:d.n=32+8 * pg) (hpg:pg≤400) (hgo:P.gn.first≤P.gn.next∧P.gn.next≤P.gn.limit) (hgb:P.gn.limit<1152921504606846976) (hknb:kn≤P.gn.limit) (hrt:0≤P.root∧P.root<4294967296) (hmt:P.mt.size≤200) (hlo:LimOk d P.gn.limit) (hon:On d k) (hk:k<8000000) (hg2:∀q∈gp::foot g mb kv,2≤q) (w:World) (ht:Tab w) (hq:QTab w) (hp:PgAt w gp g mb kv ml mu P d) :
  Calls Tryz.prog 198 #[.pointer (some ⟨gp,0,none⟩)] w fun e w'=>e=.returned (.int .i64 0)∧∃d',PgAt w' gp g mb kv ml mu {P with gn:=P.gn.more kn} d'∧On d' (k+66)∧d'.n=d.n∧(∀j,32≤j→d'.now j=d.now j)∧LimOk d' (P.gn.more kn).limit∧UpdS (gp::foot g mb kv) w w':=by
 have h9:newA P.kS P.kN pg (secs d.now 0 32) = -1∨newA P.kS P.kN pg (secs d.now 0 32)=0∨newA P.kS P.kN pg (secs d.now 0 32)=1:=by
  unfold newA newN
  split
  ·split
   ·exact Or.inr (Or.inr rfl)
   ·exact Or.inr (Or.inl rfl)
  ·split
   ·exact Or.inr (Or.inr rfl)
   ·exact Or.inl rfl
 rcases h9 with h9|h9|h9
 ·exact again_none gp g mb kv ml mu P d pg k kn hkn hn hpg hgo hgb hknb hrt hmt hlo hon hk hg2 h9 w ht hq hp
 ·exact again_zero gp g mb kv ml mu P d pg k kn hkn hn hpg hgo hgb hknb hrt hmt hlo hon hk hg2 h9 w ht hq hp
 ·exact again_one gp g mb kv ml mu P d pg k kn hkn hn hpg hgo hgb hknb hrt hmt hlo hon hk hg2 h9 w ht hq hp
theorem takeGen_has (gp g mb:Nat) (kv:Value) (ml mu:Nat) (P:Pg) (d:Dk) (hne:P.gn.next≠P.gn.limit) (hgb:P.gn.next<1152921504606846976) (w:World) (hp:PgAt w gp g mb kv ml mu P d) :
  Calls Tryz.prog 174 #[.pointer (some ⟨gp,0,none⟩)] w fun e w'=>e=.returned (.tuple #[.int .u64 (P.gn.next:Int),.int .i64 0])∧PgAt w' gp g mb kv ml mu {P with gn:={first:=P.gn.first,next:=P.gn.next+1,limit:=P.gn.limit}} d∧UpdS [gp] w w':=by
 have HP:Hid (PgAt w gp g mb kv ml mu P d):=hp
 have HNO:Hid (((P.gn.next:Int)==(P.gn.limit:Int))=false):=by show _=_;rw [beq_eq_false_iff_ne];omega
 have HW:IntKind.u64.wrap ((P.gn.next:Int)+1)=(P.gn.next:Int)+1:=by simp [IntKind.wrap,IntKind.bits,IntKind.signed];omega
 clear hp hne
 go_enter Tryz.func174,Tryz.ntmps174
 go_wp2_with (first
  | ((with_reducible refine aa (some 9) (.load 111 (.tmp 8)) ?_);obtain ⟨fs,hfs⟩:=fR;go_must (refine ae (gnV P.gn) rfl (ao 97 (gnC P.gn) (PgAt.row HP.out) rfl _ hfs rfl 3 bX (by rw [List.length_append,PgAt.hlen HP.out];show 97+3≤97+8;omega) (hd_gens (PgAt.hlen HP.out) P.gn _)) ?_);clear hfs fs)
  | (go_at_call 197;refine (none_any _ _ _ _).mono ?_;rintro e w1 ⟨he,hb⟩;rw [HNO.out] at he;subst he;have HP1:Hid (PgAt w1 gp g mb kv ml mu P d):=PgAt.below HP.out hb;have HB1:Hid (Below w.heap.size w w1):=hb;clear hb)
  | ((with_reducible refine aa (some 20) (.load 109 (.tmp 19)) ?_);go_must (refine ae (.int .u64 (P.gn.next:Int)) rfl (aF (.int .u64 (P.gn.next:Int)) ((PgAt.cell HP1.out 1).trans rfl) rfl aI) ?_))
  | ((with_reducible refine aa (some 25) (.load 109 (.tmp 24)) ?_);go_must (refine ae (.int .u64 (P.gn.next:Int)) rfl (aF (.int .u64 (P.gn.next:Int)) ((PgAt.cell HP1.out 1).trans rfl) rfl aI) ?_))
  | ((with_reducible refine aa none (.store 109 (.tmp 29) (.tmp 26)) ?_);go_must (refine aD 0 98 (.int .u64 ((P.gn.next:Int)+1)) (Mem.enter (PgAt.row HP1.out)) rfl rfl rfl sz_u64 (by rw [List.length_append,PgAt.hlen HP.out];show 98<97+8;omega) rfl rfl ?_);intro wt hq;have HUT:Hid (Upd gp _ wt):=hq.toUpd;have HRT2:Hid (Row wt gp _ 113):=hq.get 0 rfl;clear hq))
 go_ret2
 have hr2:=HRT2.out
 rw [show (98:Nat)=97+1 from rfl,tl_set (PgAt.hlen HP.out)] at hr2
 refine ⟨rfl,HP1.out.setRow (P':={P with gn:={first:=P.gn.first,next:=P.gn.next+1,limit:=P.gn.limit}}) HUT.out ⟨HP.out.ok.kP,HP.out.ok.kS,HP.out.ok.kN⟩ ?_ rfl rfl,(UpdS.of_below HB1.out).trans (UpdS.of_upd HUT.out (by simp))⟩
 have e:(((P.gn.next+1:Nat):Nat):Int)=(P.gn.next:Int)+1:=by omega
 unfold tlP
 simp only [e]
 exact hr2
theorem takeGen_none (gp g mb:Nat) (kv:Value) (ml mu:Nat) (P:Pg) (d:Dk) (pg k kn:Nat) (hkn:knA P.kS P.kN pg (secs d.now 0 32)=(kn:Int)) (hn:d.n=32+8 * pg) (hpg:pg≤400) (hgo:P.gn.first≤P.gn.next∧P.gn.next≤P.gn.limit) (hgb:P.gn.limit<1152921504606846976) (hknb:kn≤P.gn.limit) (hrt:0≤P.root∧P.root<4294967296) (hmt:P.mt.size≤200) (hlo:LimOk d P.gn.limit) (hon:On d k) (hk:k<8000000) (hg2:∀q∈gp::foot g mb kv,2≤q) (heq:P.gn.next=P.gn.limit) (w:World) (ht:Tab w) (hq:QTab w) (hp:PgAt w gp g mb kv ml mu P d) :
  Calls Tryz.prog 174 #[.pointer (some ⟨gp,0,none⟩)] w fun e w'=>e=.returned (.tuple #[.int .u64 (P.gn.next:Int),.int .i64 0])∧∃d',PgAt w' gp g mb kv ml mu {P with gn:={first:=(P.gn.more kn).first,next:=(P.gn.more kn).next+1,limit:=(P.gn.more kn).limit}} d'∧On d' (k+66)∧d'.n=d.n∧(∀j,32≤j→d'.now j=d.now j)∧LimOk d' (P.gn.more kn).limit∧UpdS (gp::foot g mb kv) w w':=by
 have HP:Hid (PgAt w gp g mb kv ml mu P d):=hp
 have HNO:Hid (((P.gn.next:Int)==(P.gn.limit:Int))=true):=by show _=_;rw [beq_iff_eq];omega
 have hml:=Gn.more_le' hgo hknb
 have HMN:Hid ((P.gn.more kn).next=P.gn.next):=hml.2.1
 have HW:IntKind.u64.wrap ((P.gn.next:Int)+1)=(P.gn.next:Int)+1:=by simp [IntKind.wrap,IntKind.bits,IntKind.signed];omega
 have HAG:Hid (∀W,Below w.heap.size w W→Calls Tryz.prog 198 #[.pointer (some ⟨gp,0,none⟩)] W fun e w'=>e=.returned (.int .i64 0)∧∃d',PgAt w' gp g mb kv ml mu {P with gn:=P.gn.more kn} d'∧On d' (k+66)∧d'.n=d.n∧(∀j,32≤j→d'.now j=d.now j)∧LimOk d' (P.gn.more kn).limit∧UpdS (gp::foot g mb kv) W w'):=fun W hW =>
  again_any gp g mb kv ml mu P d pg k kn hkn hn hpg hgo hgb hknb hrt hmt hlo hon hk hg2 W (Tab.updS (L:=[]) ht (UpdS.of_below hW) (by simp)) (QTab.updS (L:=[]) hq (UpdS.of_below hW) (by simp)) (hp.below hW)
 clear hp heq ht hq hkn hn hgo hrt hmt hlo hon hg2 hml
 go_enter Tryz.func174,Tryz.ntmps174
 go_wp2_with (first
  | ((with_reducible refine aa (some 9) (.load 111 (.tmp 8)) ?_);obtain ⟨fs,hfs⟩:=fR;go_must (refine ae (gnV P.gn) rfl (ao 97 (gnC P.gn) (PgAt.row HP.out) rfl _ hfs rfl 3 bX (by rw [List.length_append,PgAt.hlen HP.out];show 97+3≤97+8;omega) (hd_gens (PgAt.hlen HP.out) P.gn _)) ?_);clear hfs fs)
  | (go_at_call 197;refine (none_any _ _ _ _).mono ?_;rintro e w1 ⟨he,hb⟩;rw [HNO.out] at he;subst he;have HB1:Hid (Below w.heap.size w w1):=hb;clear hb)
  | (go_at_call 198;refine (HAG.out _ HB1.out).mono ?_;rintro e w2 ⟨he,d',hp2,hon2,hn2,hnow2,hl2,hu2⟩;subst he;have HP2:Hid (PgAt w2 gp g mb kv ml mu {P with gn:=P.gn.more kn} d'):=hp2;have HD2:Hid (On d' (k+66)∧d'.n=d.n∧(∀j,32≤j→d'.now j=d.now j)∧LimOk d' (P.gn.more kn).limit):=⟨hon2,hn2,hnow2,hl2⟩;have HU2:Hid (UpdS (gp::foot g mb kv) w w2):=(UpdS.of_below HB1.out).trans hu2;clear hp2 hon2 hn2 hnow2 hl2 hu2)
  | ((with_reducible refine aa (some 20) (.load 109 (.tmp 19)) ?_);go_must (refine ae (.int .u64 (P.gn.next:Int)) rfl (aF (.int .u64 (P.gn.next:Int)) (by rw [PgAt.cell HP2.out 1];show some (Value.int .u64 ((P.gn.more kn).next:Int))=_;rw [HMN.out]) rfl aI) ?_))
  | ((with_reducible refine aa (some 25) (.load 109 (.tmp 24)) ?_);go_must (refine ae (.int .u64 (P.gn.next:Int)) rfl (aF (.int .u64 (P.gn.next:Int)) (by rw [PgAt.cell HP2.out 1];show some (Value.int .u64 ((P.gn.more kn).next:Int))=_;rw [HMN.out]) rfl aI) ?_))
  | ((with_reducible refine aa none (.store 109 (.tmp 29) (.tmp 26)) ?_);go_must (refine aD 0 98 (.int .u64 ((P.gn.next:Int)+1)) (Mem.enter (PgAt.row HP2.out)) rfl rfl rfl sz_u64 (by rw [List.length_append,PgAt.hlen HP.out];show 98<97+8;omega) rfl rfl ?_);intro wt hq;have HUT:Hid (Upd gp _ wt):=hq.toUpd;have HRT2:Hid (Row wt gp _ 113):=hq.get 0 rfl;clear hq))
 go_ret2
 have hr2:=HRT2.out
 rw [show (98:Nat)=97+1 from rfl,tl_set (PgAt.hlen HP2.out)] at hr2
 refine ⟨rfl,d',HP2.out.setRow (P':={P with gn:={first:=(P.gn.more kn).first,next:=(P.gn.more kn).next+1,limit:=(P.gn.more kn).limit}}) HUT.out ⟨HP.out.ok.kP,HP.out.ok.kS,HP.out.ok.kN⟩ ?_ rfl rfl,HD2.out.1,HD2.out.2.1,HD2.out.2.2.1,HD2.out.2.2.2,HU2.out.trans (UpdS.of_upd HUT.out (by simp))⟩
 have e:((((P.gn.more kn).next+1:Nat):Nat):Int)=(P.gn.next:Int)+1:=by rw [HMN.out];omega
 unfold tlP
 simp only [e]
 exact hr2
end Go.Proofs.YtmlbjfklaehjnaaGreatDoor
