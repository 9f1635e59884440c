import Derived.Test.YtmlbjfklaehjnaaGreatDoorQc14
import Derived.Test.YtmlbjfklaehjnaaGreatDoorQc22
import Derived.Test.YtmlbjfklaehjnaaGreatDoorQc26
import Derived.Test.YtmlbjfklaehjnaaGreatDoorQc19
set_option maxRecDepth 100000
set_option maxHeartbeats 4000000
namespace Go.Proofs.YtmlbjfklaehjnaaGreatDoor
open Go Go.RowKit Go.Maps
theorem Mem.of_updS {w w':World} {L:List Nat} (h:UpdS L w w'):Mem w L w' [] :=
 ⟨h.os,h.tape,h.output,h.size,h.block,fun r hr=>(by cases hr),(by simp),fun r hr=>(by cases hr)⟩
theorem pwrite_h (gp g mb:Nat) (kv:Value) (ml mu:Nat) (P:Pg) (d:Dk) (pg k i n G:Nat) (bs:List Int) (v:Value) (Q:Pg) (D1:Dk→Prop) (hD:∀d1,D1 d1→d1.n=d.n∧On d1 k) (hQ:Q.kP=P.kP∧Q.last=P.last∧Q.used=P.used) (hn:d.n=32+8 * pg) (hpg:pg≤400) (hi:i<pg) (hoff:P.off=false) (hfr:((P.used i).isSome && !(P.last i).isSome)=true) (hbl:bs.length=n) (hnl:n≤480) (hbb:Bytes bs) (hk:k<9000000) (hg2:∀q∈footP gp g mb kv ml mu,2≤q) (w:World) (ht:Tab w) (hq:QTab w) (hp:PgAt w gp g mb kv ml mu P d) (hv:SlA w (footP gp g mb kv ml mu) v bs)
  (htk:∀W,Below w.heap.size w W→Calls Tryz.prog 174 #[.pointer (some ⟨gp,0,none⟩)] W fun e w'=>e=.returned (.tuple #[.int .u64 (G:Int),.int .i64 0])∧∃d1,D1 d1∧PgAt w' gp g mb kv ml mu Q d1∧UpdS (gp::foot g mb kv) W w') :
  Calls Tryz.prog 129 #[.pointer (some ⟨gp,0,none⟩),.int .u32 (i:Int),v] w fun e w'=>e=.returned (.int .i64 0)∧(∃d1 d',D1 d1∧PgAt w' gp g mb kv ml mu {Q with used:=upf Q.used i (some G)} d'∧On d' (k+8)∧d'.n=d.n∧d'.now=putSecs d1.now (32+8 * i) (pageOf P.kP i G bs) 8)∧UpdS (footP gp g mb kv ml mu) w w':=by
 obtain ⟨p,cap,rfl,hcap⟩:=(SlA.old hv).len
 have HV:Hid (SlA w (footP gp g mb kv ml mu) (.slice p bs.length cap) bs):=hv
 rw [hbl] at hcap HV ⊢
 have HP:Hid (PgAt w gp g mb kv ml mu P d):=hp
 have HT:Hid (Tab w):=ht
 have HQT:Hid (QTab w):=hq
 have HDD:Hid (∀d1,D1 d1→d1.n=d.n∧On d1 k):=hD
 have HBB:Hid (Bytes bs):=hbb
 have HQK:Hid (Q.kP=P.kP∧Q.last=P.last∧Q.used=P.used):=hQ
 have HF:Hid (((P.used i).isSome && !(P.last i).isSome)=true):=hfr
 have HTK:Hid (∀W,Below w.heap.size w W→Calls Tryz.prog 174 #[.pointer (some ⟨gp,0,none⟩)] W fun e w'=>e=.returned (.tuple #[.int .u64 (G:Int),.int .i64 0])∧∃d1,D1 d1∧PgAt w' gp g mb kv ml mu Q d1∧UpdS (gp::foot g mb kv) W w'):=htk
 have HG2:Hid (∀q∈footP gp g mb kv ml mu,2≤q):=hg2
 have HOF:Hid (P.off=false):=hoff
 have hnI:¬((n:Int) > 480):=by omega
 have HIN:Hid (∀q∈gp::foot g mb kv,q∈footP gp g mb kv ml mu):=fun q hq=>by
  simp only [List.mem_cons] at hq
  rcases hq with rfl|hq<;>simp [footP, *]
 have hm:=Mem.start w
 clear hv hp ht hq hD hbb hfr htk hg2 hQ hoff
 go_enter Tryz.func129,Tryz.ntmps129
 go_wp2_with (first
  | (go_at_call 132;refine (cg (i:Int) _).mono ?_;rintro e w1 ⟨rfl,hb⟩;replace hm:=hm.call hb;clear hb)
  | ((with_reducible refine aa (some 7) (.alloc 115) ?_);refine af _ eG hm ?_;clear hm;intro w2 gi hm)
  | ((with_reducible refine aa none (.store 115 (.tmp 7) (.tmp 12)) ?_);refine ag 0 (u8s (four (i:Int))) hm rfl rfl rfl 4 cF (by simp [ab]) (rfl) (ar _) ?_;clear hm;intro w3 hm)
  | ((with_reducible refine aa (some 17) (.load 4 (.tmp 16)) ?_);go_must (refine ae (.bool false) rfl (aF (.bool false) (by rw [(PgAt.mem HP.out hm).cell 7,←HOF.out];rfl) rfl dm) ?_))
  | ((with_reducible refine aa (some 20) (.load 115 (.tmp 7)) ?_);refine am 0 hm rfl rfl _ cV rfl 4 cF (rfl) ?_)
  | (go_at_call 41;refine (fresh_any gp g mb kv ml mu P d i (by omega) _ (PgAt.mem HP.out hm)).mono ?_;rintro e w5 ⟨he,hb⟩;rw [HF.out] at he;subst he;replace hm:=hm.call hb;clear hb)
  | (go_at_call 174;refine (HTK.out _ hm.below).mono ?_;rintro e w6 ⟨he,d1,hd1,hp6,hu6⟩;subst he;have HD1:Hid (D1 d1):=hd1;have HON:Hid (On d1 k):=(HDD.out d1 hd1).2;have HN1:Hid (d1.n=d.n):=(HDD.out d1 hd1).1;have HP6:Hid (PgAt w6 gp g mb kv ml mu Q d1):=hp6;have HU6:Hid (UpdS (footP gp g mb kv ml mu) w w6):=(UpdS.of_below hm.below).trans (hu6.mono HIN.out);have HGI6:Hid (Row w6 gi (u8s (four (i:Int))) 115):=hu6.row (hm.get 0 rfl) (fun hh=>by have h1:=HP.out.toR.lt gi hh;have h2:=hm.fresh _ (List.mem_of_getElem? (i:=0) rfl);simp only [List.not_mem_nil,false_or] at h2;omega);have HGN:Hid (w.heap.size≤gi):=(by have h2:=hm.fresh _ (List.mem_of_getElem? (i:=0) rfl);show _≤_;simpa using h2);clear hp6 hu6 hm hd1 HDD))
 have HGF:Hid (gi ∉ footP gp g mb kv ml mu):=fun hh=>by have h1:=HP.out.lt gi hh;have h2:=HGN.out;omega
 have HT6:Hid (Tab w6):=HT.out.updS HU6.out HG2.out
 have HQT6:Hid (QTab w6):=QTab.updS HQT.out HU6.out HG2.out
 have HV6:Hid (SlOld w6 (.slice p n cap) bs):=SlA.old (SlA.upd HV.out HU6.out)
 have HAP:Hid _:=PgAt.apart HP6.out
 obtain ⟨PB,hPB⟩:∃PB,PB=pageOf P.kP i G bs:=⟨_,rfl⟩
 have HPE:Hid (∀_:Unit,pageOf P.kP i G bs=PB):=fun _=>hPB.symm
 have HPLL:Hid (PB.length=64 * 8):=by rw [hPB];exact i3 _ _ _ _
 have HPBB:Hid (Bytes PB):=by rw [hPB];exact pageOf_bytes _ _ _ HBB.out
 have HKP:Hid ((u8s P.kP).length=32):=by show _=_;rw [ab];exact HP.out.ok.kP.1
 have HROW:Hid (∀W,Mem w6 (foot g mb kv) W []→Row W gp (hdP g P.kP Q.kS Q.kN++tlP Q.gn Q.root Q.mt (some ml) (some mu) Q.off) 113):=fun W hW=>by
  unfold Row
  rw [hW.block gp HP6.out.row.lt HAP.out.1,←HQK.out.1]
  exact HP6.out.row
 have HHL:Hid ((hdP g P.kP Q.kS Q.kN).length=97):=by show _=_;rw [←HQK.out.1];exact PgAt.hlen HP6.out
 clear hPB HT HQT
 have hm:=Mem.start w6
 refine au ?_
 refine ap (T:=fun W=>Mem w6 (foot g mb kv) W []) (by kernel_rfl) hm ?_
 clear hm
 intro w7 hm
 refine aT 0 (v:=.pointer (some ⟨gp,0,none⟩)) rfl (by kernel_rfl) rfl (fun W _=>by go_simp) hm.but ?_
 go_simp
 refine aT 1 (v:=.pointer (some ⟨gp,0,none⟩)) rfl (by kernel_rfl) rfl (fun W _=>by go_simp) hm.but ?_
 go_simp
 refine aT 2 (v:=.pointer (some ⟨gp,0,none⟩)) rfl (by kernel_rfl) rfl (fun W _=>by go_simp) hm.but ?_
 go_simp
 refine aT 3 (v:=.pointer (some ⟨g,0,none⟩)) rfl (by kernel_rfl) rfl (fun W hW=>aF (.pointer (some ⟨g,0,none⟩)) (by rw [(HROW.out W hW).cell];rfl) rfl kG) hm.but ?_
 go_simp
 refine aT 4 (v:=.int .u32 (i:Int)) rfl (by kernel_rfl) rfl (fun W _=>by go_simp) hm.but ?_
 go_simp
 refine aT 6 (v:=.pointer (some ⟨gp,0,none⟩)) rfl (by kernel_rfl) rfl (fun W _=>by go_simp) hm.but ?_
 go_simp
 refine aT 7 (v:=.pointer (some ⟨gp,0,none⟩)) rfl (by kernel_rfl) rfl (fun W _=>by go_simp) hm.but ?_
 go_simp
 refine aT 8 (v:=.pointer (some ⟨gp,1,none⟩)) rfl (by kernel_rfl) rfl (fun W _=>by go_simp) hm.but ?_
 go_simp
 refine aT 9 (v:=.pointer (some ⟨gp,1,none⟩)) rfl (by kernel_rfl) rfl (fun W _=>by go_simp) hm.but ?_
 go_simp
 refine aT 10 (v:=.agg (u8s P.kP).toArray) rfl (by kernel_rfl) rfl (fun W hW=>ao 1 (u8s P.kP) (HROW.out W hW) rfl _ a0 rfl 32 a9 (by rw [List.length_append,HHL.out];show 1+32≤97+8;omega) (hd_page g _ HP.out.ok.kP.1)) hm.but ?_
 go_simp
 refine aT 11 (v:=.int .u32 (i:Int)) rfl (by kernel_rfl) rfl (fun W _=>by go_simp) hm.but ?_
 go_simp
 refine aT 12 (v:=.int .u64 (G:Int)) rfl (by kernel_rfl) rfl (fun W _=>by go_simp) hm.but ?_
 go_simp
 refine aT 13 (v:=.slice p n cap) rfl (by kernel_rfl) rfl (fun W _=>by go_simp) hm.but ?_
 go_simp
 refine aO 5 (by kernel_rfl) rfl rfl ?_
 intro K hK
 go_wp2_with (go_at_call 134;refine (ej i (by omega) _).mono ?_;rintro e w8 ⟨rfl,rfl⟩)
 refine hK _ _ hm.but ?_
 clear hK K
 refine aO 14 (by kernel_rfl) rfl rfl ?_
 intro K hK
 go_wp2_with (go_at_call 176;refine (nj P.kP bs (i:Int) (G:Int) _ n (by omega) HP.out.ok.kP.1 HP.out.ok.kP.2 HBB.out hbl hnl _ (Tab.mem HT6.out hm (by simp)) (QTab.mem HQT6.out hm (by simp)) (SlOld.mem HV6.out hm)).mono ?_;rintro e w9 ⟨gb,rfl,hgb,hrb,hb⟩;rw [HPE.out ()] at hrb;have HRB:Hid (Row w9 gb (u8s PB) 5):=hrb;have HGB:Hid (w6.heap.size≤gb):=Nat.le_trans hm.size hgb;replace hm:=hm.call hb;clear hb hrb hgb)
 refine hK _ _ hm.but ?_
 clear hK K
 refine aO 15 (by kernel_rfl) rfl rfl ?_
 intro K hK
 have HP9:Hid (PgAt w9 gp g mb kv ml mu Q d1):=PgAt.mem HP6.out hm
 go_wp2_with (go_at_call 175;refine (kr g mb kv d1 (32+8 * i) 8 k PB gb 0 512 HPLL.out (by omega) (by omega) (by omega) (by rw [HN1.out,hn];omega) HON.out (by omega) HPBB.out _ (PgAt.dk HP9.out) (Seg.row HRB.out) (fun hh=>by have h1:=(PgAt.dk HP6.out).lt gb hh;have h2:=HGB.out;omega)).mono ?_;rintro e wa ⟨rfl,⟨d',hd',hon',hn',hnow'⟩,hua⟩;have HPA:Hid (PgAt wa gp g mb kv ml mu Q d'):=HP9.out.setDisk hd' hua;have HDA:Hid (On d' (k+8)∧d'.n=d1.n∧∀_:Unit,d'.now=putSecs d1.now (32+8 * i) PB 8):=⟨hon',hn',fun _=>hnow'⟩;have HUA:Hid (UpdS (foot g mb kv) w6 wa):=(UpdS.of_below hm.below).trans hua;clear hd' hon' hn' hnow' hua hm)
 refine hK _ _ (Mem.of_updS HUA.out) ?_
 clear hK K
 refine aT 16 (v:=.int .i64 0) rfl (by kernel_rfl) rfl (fun W _=>by go_simp) (Mem.of_updS HUA.out) ?_
 go_simp
 refine wpAnyH_done (by kernel_rfl) ?_ _
 simp only [endsIn]
 go_wp2_with fail
 have HGIA:Hid (Row wa gi (u8s (four (i:Int))) 115):=HUA.out.row HGI6.out (fun hh=>HGF.out (by simp [footP,hh]))
 have HGM:Hid (gp≠mu):=HAP.out.2.2.2.2
 have HRW2:Hid (∀W,Mem wa [mu] W []→Row W gp (hdP g Q.kP Q.kS Q.kN++tlP Q.gn Q.root Q.mt (some ml) (some mu) Q.off) 113):=fun W hW=>by
  unfold Row
  rw [hW.block gp HPA.out.row.lt (by simpa using HGM.out)]
  exact HPA.out.row
 have HRI2:Hid (∀W,Mem wa [mu] W []→Row W gi (u8s (four (i:Int))) 115):=fun W hW=>by
  unfold Row
  rw [hW.block gi HGIA.out.lt (by simp only [List.mem_singleton];intro e;exact HGF.out (by rw [e];simp [footP]))]
  exact HGIA.out
 have hm:=Mem.start wa
 refine au ?_
 refine ap (T:=fun W=>Mem wa [mu] W []) (by kernel_rfl) hm ?_
 clear hm
 intro wb hm
 refine aT 0 (v:=.pointer (some ⟨gp,0,none⟩)) rfl (by kernel_rfl) rfl (fun W _=>by go_simp) hm.but ?_
 go_simp
 refine aT 1 (v:=.pointer (some ⟨gp,0,none⟩)) rfl (by kernel_rfl) rfl (fun W _=>by go_simp) hm.but ?_
 go_simp
 refine aT 2 (v:=.pointer (some ⟨gp,103,none⟩)) rfl (by kernel_rfl) rfl (fun W _=>by go_simp) hm.but ?_
 go_simp
 refine aT 3 (v:=.map (some mu)) rfl (by kernel_rfl) rfl (fun W hW=>aF (.map (some mu)) (by rw [(HRW2.out W hW).cell];exact (tl_get (PgAt.hlen HP6.out) 6).trans rfl) rfl cZ) hm.but ?_
 go_simp
 refine aT 4 (v:=idxV i) rfl (by kernel_rfl) rfl (fun W hW=>ao 0 (u8s (four (i:Int))) (HRI2.out W hW) rfl _ cV rfl 4 cF (by rw [ab];exact Nat.le_refl _) rfl) hm.but ?_
 go_simp
 refine aT 5 (v:=.int .u64 (G:Int)) rfl (by kernel_rfl) rfl (fun W _=>by go_simp) hm.but ?_
 go_simp
 refine aT 6 (v:=stV G) rfl (by kernel_rfl) rfl (fun W _=>fQ (stC G) [(0,.int .u64 (G:Int))] (by first|rfl|simp [Act.eval]) (built_stI _)) hm.but ?_
 go_simp
 refine aO 7 (by kernel_rfl) rfl rfl ?_
 intro K hK
 refine iG (PgAt.used (PgAt.mem HPA.out hm)) i (by omega) G rfl rfl rfl ?_
 intro wd hs hu
 refine wpList_nil ?_
 have HPD:Hid (PgAt wd gp g mb kv ml mu {Q with used:=upf Q.used i (some G)} d'):=(PgAt.mem HPA.out hm).setUsed hs hu
 have HUD:Hid (UpdS (footP gp g mb kv ml mu) w wd):=(HU6.out.trans (HUA.out.mono (fun q hq=>by simp [footP,hq]))).trans ((UpdS.of_below hm.below).trans (UpdS.of_upd hu (by simp [footP])))
 obtain ⟨es,c,hmap⟩:=(PgAt.used (PgAt.mem HPA.out hm)).isMap
 replace hm:=(Mem.but (S:=[mu]) hm).updO hmap (Or.inl (by simp)) hu
 clear hs hu hmap
 refine hK _ _ hm ?_
 clear hK K
 refine wpAnyH_done (by kernel_rfl) ?_ _
 simp only [endsIn]
 go_wp2_with fail
 go_ret
 exact ⟨rfl,⟨d1,d',HD1.out,HPD.out,HDA.out.1,by rw [HDA.out.2.1,HN1.out],by rw [HPE.out ()];exact HDA.out.2.2 ()⟩,HUD.out⟩
theorem pwrite_g (gp g mb:Nat) (kv:Value) (ml mu:Nat) (P:Pg) (d:Dk) (pg k i n G:Nat) (bs:List Int) (v:Value) (Q:Pg) (d1:Dk) (hQ:Q.kP=P.kP∧Q.last=P.last∧Q.used=P.used) (hn:d.n=32+8 * pg) (hn1:d1.n=d.n) (hpg:pg≤400) (hi:i<pg) (hoff:P.off=false) (hfr:((P.used i).isSome && !(P.last i).isSome)=true) (hbl:bs.length=n) (hnl:n≤480) (hbb:Bytes bs) (hon:On d1 k) (hk:k<9000000) (hg2:∀q∈footP gp g mb kv ml mu,2≤q) (w:World) (ht:Tab w) (hq:QTab w) (hp:PgAt w gp g mb kv ml mu P d) (hv:SlA w (footP gp g mb kv ml mu) v bs)
  (htk:∀W,Below w.heap.size w W→Calls Tryz.prog 174 #[.pointer (some ⟨gp,0,none⟩)] W fun e w'=>e=.returned (.tuple #[.int .u64 (G:Int),.int .i64 0])∧PgAt w' gp g mb kv ml mu Q d1∧UpdS (gp::foot g mb kv) W w') :
  Calls Tryz.prog 129 #[.pointer (some ⟨gp,0,none⟩),.int .u32 (i:Int),v] w fun e w'=>e=.returned (.int .i64 0)∧(∃d',PgAt w' gp g mb kv ml mu {Q with used:=upf Q.used i (some G)} d'∧On d' (k+8)∧d'.n=d.n∧d'.now=putSecs d1.now (32+8 * i) (pageOf P.kP i G bs) 8)∧UpdS (footP gp g mb kv ml mu) w w':=by
 refine (pwrite_h gp g mb kv ml mu P d pg k i n G bs v Q (fun x=>x=d1) (fun x hx=>by subst hx;exact ⟨hn1,hon⟩) hQ hn hpg hi hoff hfr hbl hnl hbb hk hg2 w ht hq hp hv (fun W hW=>(htk W hW).mono ?_)).mono ?_
 ·rintro e w' ⟨he,h1,h2⟩
  exact ⟨he,d1,rfl,h1,h2⟩
 ·rintro e w' ⟨he,⟨x,d',hx,h1⟩,h2⟩
  subst hx
  exact ⟨he,⟨d',h1⟩,h2⟩
end Go.Proofs.YtmlbjfklaehjnaaGreatDoor
