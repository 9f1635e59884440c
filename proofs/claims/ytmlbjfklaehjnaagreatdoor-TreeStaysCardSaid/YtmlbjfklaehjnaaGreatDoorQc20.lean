import Derived.Test.YtmlbjfklaehjnaaGreatDoorQc19
set_option maxRecDepth 100000
set_option maxHeartbeats 4000000
namespace Go.Proofs.YtmlbjfklaehjnaaGreatDoor
open Go Go.RowKit Go.Maps
theorem copyV (mN:Nat) (mv:Value) (p:Sts) (w:World) (h1:StM w mN (fun _=>none)) (h2:StV w mv p) (hne:mv≠.map (some mN)) :
  Calls Tryz.prog 81 #[.map (some mN),mv] w fun e w'=>e=.returned (.tuple #[])∧StM w' mN p∧UpdS [mN] w w':=by
 rcases h2 with ⟨rfl,rfl⟩|⟨m,rfl,h2⟩
 ·refine (copyS_nil mN w).mono ?_
  rintro e w' ⟨he,hb⟩
  exact ⟨he,h1.below hb,UpdS.of_below hb⟩
 ·exact copyS mN m p (fun e=>hne (by rw [e])) w h1 h2
theorem last_splice {h:List Value} (hl:h.length=97) (n:Gn) (b c e f i x y z:Value):splice (h++(gnC n++[b,c,e,f,i])) 100 [x,y,z]=h++(gnC n++[x,y,z,f,i]):=by
 rw [show h++(gnC n++[b,c,e,f,i])=(h++gnC n)++[b,c,e,f,i] by simp,dQ (h++gnC n) _ _ 100 (by rw [List.length_append,hl];rfl)]
 simp
def atA (kS kN:List Int) (pg:Nat) (A:List Int):Nat:=nextP (validN kS kN pg (place A 0) (A.drop 299)) (validN kS kN pg (place A 1) (A.drop 299)) (limitAt (place A 0)) (limitAt (place A 1))
def knA (kS kN:List Int) (pg:Nat) (A:List Int):Int:=knownN (validN kS kN pg (place A 0) (A.drop 299)) (validN kS kN pg (place A 1) (A.drop 299)) (limitAt (place A 0)) (limitAt (place A 1))
def newA (kS kN:List Int) (pg:Nat) (A:List Int):Int:=newN (validN kS kN pg (place A 0) (A.drop 299)) (validN kS kN pg (place A 1) (A.drop 299)) (limitAt (place A 0)) (limitAt (place A 1))
theorem keep_g (gp g mb:Nat) (kv:Value) (P:Pg) (ml mu:Option Nat) (d:Dk) (pg k n kn at_ gA cA b0 b1:Nat) (lA:List Value) (k0 k1:Bk) (root:Int) (mt:ByteArray) (mo:Option Nat) (p:Sts) (A A1 A2:List Int) (GN:Gn)
  (hA:secs d.now 0 32=A) (hat:atA P.kS P.kN pg A=at_) (hkn:knA P.kS P.kN pg A=(kn:Int)) (hGN:P.gn.more kn=GN) (hA1:wg A p=A1) (hA2:keepA P.kS P.kN pg A at_ GN.limit root (strB mt) p=A2)
  (hn:d.n=32+8 * pg) (hpg:pg≤400) (hdom:Dom p) (hgo:P.gn.first≤P.gn.next∧P.gn.next≤P.gn.limit) (hgb:P.gn.limit<2305843009213693952) (hknb:kn<2305843009213693952) (hrt:0≤root∧root<4294967296) (hmt:mt.size=n) (hnm:n≤200) (hon:On d k) (hk:k<9000000) (hcA:2048≤cA) (hg2:∀q∈gp::foot g mb kv,2≤q)
  (w:World) (hk0:BlkIs w b0 P.kS P.kN pg A 0 k0) (hk1:BlkIs w b1 P.kS P.kN pg A 1 k1) (ht:Tab w) (hq:QTab w) (hp:PgR w gp g mb kv P ml mu d) (hrA:Row w gA (u8s A++lA) 5) (hgA:gA ∉ foot g mb kv) (hs:StV w (.map mo) p) (hap:∀m,mo=some m→m ∉ gp::foot g mb kv) :
  Calls Tryz.prog 47 #[.pointer (some ⟨gp,0,none⟩),.agg (grC (.slice (some ⟨gA,0,none⟩) 2048 cA) k0 k1).toArray,.agg (supC root mt (.map mo)).toArray] w fun e w'=>e=.returned (.int .i64 0)∧PgR w' gp g mb kv {P with gn:=GN} ml mu (keepD d A A1 A2)∧UpdS (gp::foot g mb kv) w w' :=
 keep_any gp g mb kv P ml mu d pg k n kn at_ gA cA lA k0 k1 root mt mo p A A1 A2 GN hA (by rw [hk0.v,hk1.v,hk0.l,hk1.l];exact hat) (by rw [hk0.v,hk1.v,hk0.l,hk1.l];exact hkn) hGN hA1 hA2 hn hpg hdom hgo hgb hknb hrt hmt hnm hon hk hcA hg2 w ht hq hp hrA hgA hs hap
theorem pbegin_any (gp g mb:Nat) (kv:Value) (P:Pg) (ml mu:Option Nat) (d:Dk) (root:Int) (mt:ByteArray) (mo:Option Nat) (p:Sts) (w:World) (hp:PgR w gp g mb kv P ml mu d) (hs:StV w (.map mo) p) :
  Calls Tryz.prog 48 #[.pointer (some ⟨gp,0,none⟩),.agg (supC root mt (.map mo)).toArray] w fun e w'=>e=.returned (.tuple #[])∧∃ml' mu',PgAt w' gp g mb kv ml' mu' {P with root:=root,mt:=mt,last:=p,used:=p} d∧w.heap.size≤ml'∧w.heap.size≤mu'∧UpdS [gp] w w':=by
 have HP:Hid (PgR w gp g mb kv P ml mu d):=hp
 have HS:Hid (StV w (.map mo) p):=hs
 have hm:=Mem.start w
 clear hp hs
 go_enter Tryz.func48,Tryz.ntmps48
 go_wp2_with (first
  | ((with_reducible refine aa (some 3) (.box 106 (.tmp 1)) ?_);refine ak (supC root mt (.map mo)) rfl hm ?_;clear hm;intro w1 gs hm)
  | ((with_reducible refine aa (some 6) (.load 25 (.tmp 5)) ?_);go_must (refine ai 0 0 (.int .u32 root) hm rfl rfl ag_u32x rfl ?_))
  | ((with_reducible refine aa (some 8) (.load 9 (.tmp 7)) ?_);go_must (refine ai 0 1 (.string mt) hm rfl rfl ag_strP rfl ?_))
  | ((with_reducible refine aa (some 9) (.makeMap 104 none) ?_);go_must (refine fG hm ?_);have HW2:Hid (w.heap.size≤w1.heap.size):=hm.size;clear hm;intro w2 mN hm hmapD hgeD;have HMD:Hid (StM w2 mN (fun _=>none)):=StM.new hmapD;have HMG:Hid (w1.heap.size≤mN):=hgeD;clear hmapD hgeD)
  | ((with_reducible refine aa (some 10) (.build 106 #[(0,.tmp 6),(1,.tmp 8),(2,.tmp 9)]) ?_);go_must (refine aB (supC root mt (.map (some mN))) _ rfl (built_sup _ _ _) ?_))
  | ((with_reducible refine aa none (.store 106 (.tmp 12) (.tmp 10)) ?_);go_must (refine iV 0 100 (supC root mt (.map (some mN))) (hdP g P.kP P.kS P.kN++tlP P.gn root mt (some mN) mu P.off) (Mem.enter (PgR.row (PgR.mem HP.out hm))) rfl rfl rfl 3 b8 rfl (by rw [List.length_append,PgR.hlen HP.out];show 100+3≤97+8;omega) (ed _ _ _) (last_splice (PgR.hlen HP.out) P.gn _ _ _ _ _ _ _ _) ?_);intro wE hq;have HUE:Hid (Upd gp w2 wE):=hq.toUpd;have HRE:Hid (Row wE gp (hdP g P.kP P.kS P.kN++tlP P.gn root mt (some mN) mu P.off) 113):=hq.get 0 rfl;clear hq))
 have HGS2:Hid (Row w2 gs (supC root mt (.map mo)) 106):=hm.get 0 rfl
 have HGP2:Hid (Row w2 gp _ 113):=PgR.row (PgR.mem HP.out hm)
 have HPE:Hid (PgR wE gp g mb kv {P with root:=root,mt:=mt} (some mN) mu d):=(PgR.mem HP.out hm).setRow (P':={P with root:=root,mt:=mt}) HUE.out ⟨HP.out.ok.kP,HP.out.ok.kS,HP.out.ok.kN⟩ HRE.out
 have HGSE:Hid (Row wE gs (supC root mt (.map mo)) 106):=HUE.out.row HGS2.out (aQ HGS2.out HGP2.out (by decide))
 have HSE:Hid (StV wE (.map mo) p):=StV.updRow (StV.below HS.out hm.below) HGP2.out HUE.out
 have HME:Hid (StM wE mN (fun _=>none)):=by
  obtain ⟨es,c,hmp⟩:=HMD.out.isMap
  exact HMD.out.upd HUE.out (ax HGP2.out hmp)
 have HUWE:Hid (UpdS [gp] w wE):=(UpdS.of_below hm.below).trans (UpdS.of_upd HUE.out (by simp))
 have HMW:Hid (w.heap.size≤mN):=Nat.le_trans HW2.out HMG.out
 have HMNV:Hid ((.map mo:Value)≠.map (some mN)):=fun e=>by
  rcases HS.out with ⟨h1,_⟩|⟨m,h1,h2⟩
  ·rw [h1] at e;simp at e
  ·rw [h1] at e
   simp only [Value.map.injEq,Option.some.injEq] at e
   have h3:=h2.lt
   have h4:=HMW.out
   omega
 have HMGS:Hid (gs≠mN):=by
  obtain ⟨es,c,hmp⟩:=HME.out.isMap
  exact ax HGSE.out hmp
 have HMMB:Hid (mN≠mb):=fun e=>by have h1:=HMW.out;have h2:=HP.out.lt mb (by simp [foot]);omega
 clear hm HMD HGS2 HGP2 HUE HRE
 have hm:=Mem.start wE
 refine au ?_
 refine ap (T:=fun W=>W.cell? ⟨gp,97+5,none⟩=some (.map (some mN))∧W.cell? ⟨gs,2,none⟩=some (.map mo)) (by kernel_rfl) hm ?_
 clear hm
 intro wF hm
 have HTF:Hid (wF.cell? ⟨gp,97+5,none⟩=some (.map (some mN))∧wF.cell? ⟨gs,2,none⟩=some (.map mo)):=⟨((HPE.out.below hm.below).cell 5).trans rfl,((Row.below' HGSE.out hm.below).cell 2).trans rfl⟩
 refine aT 0 (v:=.pointer (some ⟨gp,0,none⟩)) rfl (by kernel_rfl) rfl (fun W _=>by go_simp) HTF.out ?_
 go_simp
 refine aT 1 (v:=.pointer (some ⟨gp,0,none⟩)) rfl (by kernel_rfl) rfl (fun W _=>by go_simp) HTF.out ?_
 go_simp
 refine aT 2 (v:=.pointer (some ⟨gp,100,none⟩)) rfl (by kernel_rfl) rfl (fun W _=>by go_simp) HTF.out ?_
 go_simp
 refine aT 3 (v:=.pointer (some ⟨gp,102,none⟩)) rfl (by kernel_rfl) rfl (fun W _=>by go_simp) HTF.out ?_
 go_simp
 refine aT 4 (v:=.map (some mN)) rfl (by kernel_rfl) rfl (fun W hW=>aF (.map (some mN)) hW.1 rfl cZ) HTF.out ?_
 go_simp
 refine aT 5 (v:=.pointer (some ⟨gs,2,none⟩)) rfl (by kernel_rfl) rfl (fun W _=>by go_simp) HTF.out ?_
 go_simp
 refine aT 6 (v:=.map mo) rfl (by kernel_rfl) rfl (fun W hW=>aF (.map mo) hW.2 rfl cZ) HTF.out ?_
 go_simp
 refine aO 7 (by kernel_rfl) rfl rfl ?_
 intro K hK
 go_wp2_with (go_at_call 81;refine (copyV mN (.map mo) p _ (HME.out.below hm.below) (StV.below HSE.out hm.below) HMNV.out).mono ?_;rintro e wG ⟨rfl,hsG,huG⟩;have HSG:Hid (StM wG mN p):=hsG;have HUG:Hid (UpdS [mN] wF wG):=huG;clear hsG huG)
 have HPG:Hid (PgR wG gp g mb kv {P with root:=root,mt:=mt} (some mN) mu d):=(HPE.out.below hm.below).keep (fun q hq=>HUG.out.block q ((HPE.out.below hm.below).lt q hq) (fun hh=>by
  simp only [List.mem_cons,List.not_mem_nil,or_false] at hh
  have h1:=HP.out.lt q hq
  have h2:=HMW.out
  omega))
 have HGSG:Hid (Row wG gs (supC root mt (.map mo)) 106):=HUG.out.row (Row.below' HGSE.out hm.below) (by simpa using HMGS.out)
 have HTG:Hid (wG.cell? ⟨gp,97+5,none⟩=some (.map (some mN))∧wG.cell? ⟨gs,2,none⟩=some (.map mo)):=⟨(HPG.out.cell 5).trans rfl,(HGSG.out.cell 2).trans rfl⟩
 refine hK _ _ HTG.out ?_
 clear hK K
 refine wpAnyH_done (by kernel_rfl) ?_ _
 simp only [endsIn]
 go_wp2_with (first
  | (go_at_call 82;refine (undoR_any gp g mb kv _ mN mu d p HMMB.out _ HPG.out HSG.out).mono ?_;rintro e wH ⟨rfl,mu',hpH,hge,huH⟩;have HPH:Hid (PgAt wH gp g mb kv mN mu' {P with root:=root,mt:=mt,last:=p,used:=p} d):=hpH;have HGEH:Hid (wG.heap.size≤mu'):=hge;have HUH:Hid (UpdS [gp] wG wH):=huH;clear hpH hge huH))
 go_end0
 have hF:UpdS [gp] w wF:=HUWE.out.trans (UpdS.of_below hm.below)
 have hG:=UpdS.past hF HUG.out (fun q hq=>by simp only [List.mem_cons,List.not_mem_nil,or_false] at hq;rw [hq];exact HMW.out)
 exact ⟨rfl,mN,mu',HPH.out,HMW.out,Nat.le_trans hG.size HGEH.out,hG.trans HUH.out⟩
end Go.Proofs.YtmlbjfklaehjnaaGreatDoor
