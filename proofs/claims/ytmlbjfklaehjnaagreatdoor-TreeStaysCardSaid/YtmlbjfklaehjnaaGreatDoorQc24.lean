import Derived.Test.YtmlbjfklaehjnaaGreatDoorQc23
import Derived.Test.YtmlbjfklaehjnaaGreatDoorQc11
import Derived.Test.YtmlbjfklaehjnaaGreatDoorQc19
import Derived.Test.YtmlbjfklaehjnaaGreatDoorQc22
set_option maxRecDepth 100000
set_option maxHeartbeats 4000000
namespace Go.Proofs.YtmlbjfklaehjnaaGreatDoor
open Go Go.RowKit Go.Maps
theorem pread_any (gp g mb:Nat) (kv:Value) (ml mu:Nat) (P:Pg) (d:Dk) (pg i s:Nat) (hn:d.n=32+8 * pg) (hpg:pg≤400) (hi:i<pg) (hoff:P.off=false) (hdo:d.off=false) (hs:0<s) (hu:P.used i=some s) (w:World) (ht:Tab w) (hq:QTab w) (hp:PgAt w gp g mb kv ml mu P d) :
  Calls Tryz.prog 92 #[.pointer (some ⟨gp,0,none⟩),.int .u32 (i:Int)] w fun e w'=>∃v',e=.returned (.tuple #[v',.int .i64 (codeP P.kP i s (secs d.now (32+8 * i) 8))])∧SlOld w' v' (outP P.kP i s (secs d.now (32+8 * i) 8))∧Below w.heap.size w w':=by
 replace hu:(P.used i).getD 0=s:=by rw [hu];rfl
 have HP:Hid (PgAt w gp g mb kv ml mu P d):=hp
 have HI:Hid (i<4294967296):=by show _<_;omega
 have HU:Hid ((P.used i).getD 0=s):=hu
 have hc:w.cell? ⟨gp,97+7,none⟩=some (.bool false):=by rw [hp.cell 7,←hoff];rfl
 have hm:=Mem.start w
 have HT:Hid (Tab w):=ht
 have HQ:Hid (QTab w):=hq
 have HS0:Hid (decide ((0:Int)<(s:Int))=true):=decide_eq_true (by omega)
 obtain ⟨PGB,hPG⟩:∃PGB,PGB=secs d.now (32+8 * i) 8:=⟨_,rfl⟩
 have HPGE:Hid (∀_:Unit,secs d.now (32+8 * i) 8=PGB):=fun _=>hPG.symm
 have HPGL:Hid (PGB.length=512):=by show _=_;rw [hPG];exact cJ (fun j hj=>hp.dk.ok.now (by omega))
 have HPGB:Hid (Bytes PGB):=by rw [hPG];exact Bytes.flatK _ _ (fun j hj=>hp.dk.ok.nowB (by omega))
 obtain ⟨CD,hCD⟩:∃CD,CD=codeP P.kP i s PGB:=⟨_,rfl⟩
 have HCD:Hid (∀_:Unit,codeP P.kP i s PGB=CD):=fun _=>hCD.symm
 obtain ⟨OUT,hOUT⟩:∃OUT,OUT=outP P.kP i s PGB:=⟨_,rfl⟩
 have HOE:Hid (∀_:Unit,outP P.kP i s PGB=OUT):=fun _=>hOUT.symm
 rw [←hPG,←hCD,←hOUT]
 clear hp hu ht hq hPG hCD hOUT
 go_enter Tryz.func92,Tryz.ntmps92
 go_wp2_with fail
 refine au ?_
 refine ap (T:=fun W=>Mem w [] W []) (by kernel_rfl) hm ?_
 clear hm
 intro w0 hm
 refine aT 0 (v:=.pointer (some ⟨gp,0,none⟩)) rfl (by kernel_rfl) rfl (fun W _=>by go_simp) hm ?_
 go_simp
 refine aT 1 (v:=.pointer (some ⟨gp,0,none⟩)) rfl (by kernel_rfl) rfl (fun W _=>by go_simp) hm ?_
 go_simp
 refine aT 2 (v:=.pointer (some ⟨gp,103,none⟩)) rfl (by kernel_rfl) rfl (fun W _=>by go_simp) hm ?_
 go_simp
 refine aT 3 (v:=.map (some mu)) rfl (by kernel_rfl) rfl (fun W hW=>aF (.map (some mu)) ((PgAt.cell (PgAt.mem HP.out hW) 6).trans rfl) rfl cZ) hm ?_
 go_simp
 refine aT 4 (v:=.int .u32 (i:Int)) rfl (by kernel_rfl) rfl (fun W _=>by go_simp) hm ?_
 go_simp
 refine wpAnyH_all (rs:=[5,7]) (by kernel_rfl) (by simp) ?_
 intro i hi
 simp only [List.mem_cons,List.not_mem_nil,or_false] at hi
 rcases hi with rfl|rfl
 ·refine aL 5 rfl rfl ?_
  intro K hK
  go_wp2_with (go_at_call 132;refine (cg (i:Int) _).mono ?_;rintro e wx1 ⟨rfl,hb⟩;replace hm:=hm.call hb;clear hb)
  refine hK _ _ hm ?_
  clear hK K
  refine aT 6 (v:=stV ((P.used i).getD 0)) rfl (by kernel_rfl) rfl (fun W hW=>jV (PgAt.used (PgAt.mem HP.out hW)) i HI.out rfl rfl) hm ?_
  go_simp
  refine aO 7 (by kernel_rfl) rfl rfl ?_
  intro K hK
  refine af _ cC hm ?_
  clear hm
  intro wx2 gst hm
  refine wpList_nil ?_
  refine hK _ _ hm.tail ?_
  clear hK K
  refine aO 8 (by kernel_rfl) rfl rfl ?_
  intro K hK
  refine ag 0 (stC ((P.used i).getD 0)) hm rfl rfl rfl 1 dx rfl rfl (d4 _) ?_
  clear hm
  intro wz hm
  refine wpList_nil ?_
  refine hK _ _ hm.tail ?_
  clear hK K
  refine wpAnyH_done (by kernel_rfl) ?_ _
  simp only [endsIn]
  replace hm:Mem w [] wz [(gst,stC ((P.used i).getD 0),162)]:=hm
  rw [HU.out] at hm
  go_wp2_with (first
   | ((with_reducible refine aa (some 20) (.load 162 (.tmp 6)) ?_);obtain ⟨fs,hfs⟩:=un_sta;go_must (refine am 0 hm rfl rfl _ hfs rfl 1 dx rfl ?_);clear hfs fs)
   | (go_at_call 133;refine (lg (s:Int) _).mono ?_;rintro e wv ⟨he,hb⟩;rw [HS0.out] at he;subst he;replace hm:=hm.call hb;clear hb))
  have HST:Hid (Row wv gst (stC s) 162):=hm.get 0 rfl
  have HBV:Hid (Below w.heap.size w wv):=hm.below
  have HPV:Hid (PgAt wv gp g mb kv ml mu P d):=PgAt.mem HP.out hm
  have HTV:Hid (Tab wv):=Tab.mem HT.out hm (by simp)
  have HQV:Hid (QTab wv):=QTab.mem HQ.out hm (by simp)
  clear hm HT HQ
  have hm:=Mem.start wv
  refine au ?_
  refine ap (T:=fun W=>Mem wv [] W []) (by kernel_rfl) hm ?_
  clear hm
  intro wc hm
  refine aT 0 (v:=.pointer (some ⟨gp,0,none⟩)) rfl (by kernel_rfl) rfl (fun W _=>by go_simp) hm ?_
  go_simp
  refine aT 1 (v:=.pointer (some ⟨gp,0,none⟩)) rfl (by kernel_rfl) rfl (fun W _=>by go_simp) hm ?_
  go_simp
  refine aT 2 (v:=.pointer (some ⟨gp,0,none⟩)) rfl (by kernel_rfl) rfl (fun W _=>by go_simp) hm ?_
  go_simp
  refine aT 3 (v:=.pointer (some ⟨g,0,none⟩)) rfl (by kernel_rfl) rfl (fun W hW=>aF (.pointer (some ⟨g,0,none⟩)) (PgAt.mem HPV.out hW).cell0 rfl kG) hm ?_
  go_simp
  refine aT 4 (v:=.int .u32 (i:Int)) rfl (by kernel_rfl) rfl (fun W _=>by go_simp) hm ?_
  go_simp
  refine aO 5 (by kernel_rfl) rfl rfl ?_
  intro K hK
  go_wp2_with (go_at_call 134;refine (ej i (by omega) _).mono ?_;rintro e wd ⟨rfl,rfl⟩)
  refine hK _ _ hm ?_
  clear hK K
  refine aO 6 (by kernel_rfl) rfl rfl ?_
  intro K hK
  go_wp2_with (go_at_call 73;refine (en g mb kv d (32+8 * i) 8 hdo (by omega) (by omega) (by omega) _ (PgAt.dk (PgAt.mem HPV.out hm))).mono ?_;rintro e we ⟨vr,rfl,hor,hb⟩;rw [HPGE.out ()] at hor;obtain ⟨pr,cr,hvr,hcr,hsr⟩:=OwnB.old hor;rw [HPGL.out] at hvr hcr hsr;subst hvr;have HOR:Hid (SlOld we (.slice pr 512 cr) PGB):=⟨pr,cr,by rw [HPGL.out],by rw [HPGL.out];exact hcr,fun _=>hsr (by omega)⟩;replace hm:=hm.call hb;clear hb hor hsr)
  refine hK _ _ hm ?_
  clear hK K
  refine aT 7 (v:=.tuple #[.slice pr 512 cr,.int .i64 0]) rfl (by kernel_rfl) rfl (fun W _=>by go_simp) hm ?_
  go_simp
  refine aT 8 (v:=.slice pr 512 cr) rfl (by kernel_rfl) rfl (fun W _=>by go_simp) hm ?_
  go_simp
  refine aT 9 (v:=.int .i64 0) rfl (by kernel_rfl) rfl (fun W _=>by go_simp) hm ?_
  go_simp
  refine aT 10 (v:=.slice pr 512 cr) rfl (by kernel_rfl) rfl (fun W _=>by go_simp) hm ?_
  go_simp
  refine aT 11 (v:=.int .i64 0) rfl (by kernel_rfl) rfl (fun W _=>by go_simp) hm ?_
  go_simp
  refine wpAnyH_done (by kernel_rfl) ?_ _
  simp only [endsIn]
  go_wp2_with fail
  have HPW:Hid (PgAt we gp g mb kv ml mu P d):=PgAt.mem HPV.out hm
  have HSW:Hid (Row we gst (stC s) 162):=Row.below' HST.out hm.below
  have HBW:Hid (Below w.heap.size w we):=HBV.out.trans (hm.below.mono HBV.out.size)
  have HTW:Hid (Tab we):=Tab.mem HTV.out hm (by simp)
  have HQW:Hid (QTab we):=QTab.mem HQV.out hm (by simp)
  clear hm
  have hm:=Mem.start we
  refine au ?_
  refine ap (T:=fun W=>Mem we [] W []) (by kernel_rfl) hm ?_
  clear hm
  intro wf hm
  obtain ⟨fs,hfs⟩:=un_sta
  refine aT 0 (v:=.pointer (some ⟨gp,0,none⟩)) rfl (by kernel_rfl) rfl (fun W _=>by go_simp) hm ?_
  go_simp
  refine aT 1 (v:=.pointer (some ⟨gp,0,none⟩)) rfl (by kernel_rfl) rfl (fun W _=>by go_simp) hm ?_
  go_simp
  refine aT 2 (v:=.pointer (some ⟨gp,1,none⟩)) rfl (by kernel_rfl) rfl (fun W _=>by go_simp) hm ?_
  go_simp
  refine aT 3 (v:=.pointer (some ⟨gp,1,none⟩)) rfl (by kernel_rfl) rfl (fun W _=>by go_simp) hm ?_
  go_simp
  refine aT 4 (v:=.agg (u8s P.kP).toArray) rfl (by kernel_rfl) rfl (fun W hW=>ao 1 (u8s P.kP) (PgAt.mem HPW.out hW).row rfl _ a0 rfl 32 a9 (by rw [List.length_append,PgAt.hlen HP.out];show 1+32≤97+8;omega) (hd_page g _ HP.out.ok.kP.1)) hm ?_
  go_simp
  refine aT 5 (v:=.int .u32 (i:Int)) rfl (by kernel_rfl) rfl (fun W _=>by go_simp) hm ?_
  go_simp
  refine aT 6 (v:=.agg #[.int .u64 (s:Int)]) rfl (by kernel_rfl) rfl (fun W hW=>ao 0 (stC s) (Row.below' HSW.out hW.below) rfl _ hfs rfl 1 dx (Nat.le_refl _) rfl) hm ?_
  go_simp
  refine aT 7 (v:=.slice pr 512 cr) rfl (by kernel_rfl) rfl (fun W _=>by go_simp) hm ?_
  go_simp
  refine aO 8 (by kernel_rfl) rfl rfl ?_
  intro K hK
  go_wp2_with (go_at_call 136;refine (ld P.kP PGB (i:Int) (s:Int) _ (by omega) HP.out.ok.kP.1 HP.out.ok.kP.2 HPGL.out HPGB.out _ (Tab.mem HTW.out hm (by simp)) (QTab.mem HQW.out hm (by simp)) (SlOld.mem HOR.out hm)).mono ?_;rintro e wg ⟨vo,he,hvo,hb⟩;rw [HCD.out ()] at he;rw [HOE.out ()] at hvo;have HVO:Hid (SlOld wg vo OUT):=hvo;subst he;replace hm:=hm.call hb;clear hb hvo)
  refine hK _ _ hm ?_
  clear hK K
  refine aT 9 (v:=vo) rfl (by kernel_rfl) rfl (fun W _=>by go_simp) hm ?_
  go_simp
  refine aT 10 (v:=.int .i64 CD) rfl (by kernel_rfl) rfl (fun W _=>by go_simp) hm ?_
  go_simp
  refine aT 11 (v:=vo) rfl (by kernel_rfl) rfl (fun W _=>by go_simp) hm ?_
  go_simp
  refine aT 12 (v:=.int .i64 CD) rfl (by kernel_rfl) rfl (fun W _=>by go_simp) hm ?_
  go_simp
  refine wpAnyH_done (by kernel_rfl) ?_ _
  simp only [endsIn]
  go_wp2_with fail
  go_ret2
  exact ⟨_,rfl,HVO.out,HBW.out.trans (hm.below.mono HBW.out.size)⟩
 ·refine aL 7 rfl rfl ?_
  intro K hK
  refine af _ cC hm ?_
  clear hm
  intro wx1 gst hm
  refine wpList_nil ?_
  refine hK _ _ hm.tail ?_
  clear hK K
  refine aO 5 (by kernel_rfl) rfl rfl ?_
  intro K hK
  go_wp2_with (go_at_call 132;refine (cg (i:Int) _).mono ?_;rintro e wx2 ⟨rfl,hb⟩;replace hm:=hm.call hb;clear hb)
  refine hK _ _ hm.tail ?_
  clear hK K
  refine aT 6 (v:=stV ((P.used i).getD 0)) rfl (by kernel_rfl) rfl (fun W hW=>jV (PgAt.used (PgAt.mem HP.out hW)) i HI.out rfl rfl) hm.tail ?_
  go_simp
  refine aO 8 (by kernel_rfl) rfl rfl ?_
  intro K hK
  refine ag 0 (stC ((P.used i).getD 0)) hm rfl rfl rfl 1 dx rfl rfl (d4 _) ?_
  clear hm
  intro wz hm
  refine wpList_nil ?_
  refine hK _ _ hm.tail ?_
  clear hK K
  refine wpAnyH_done (by kernel_rfl) ?_ _
  simp only [endsIn]
  replace hm:Mem w [] wz [(gst,stC ((P.used i).getD 0),162)]:=hm
  rw [HU.out] at hm
  go_wp2_with (first
   | ((with_reducible refine aa (some 20) (.load 162 (.tmp 6)) ?_);obtain ⟨fs,hfs⟩:=un_sta;go_must (refine am 0 hm rfl rfl _ hfs rfl 1 dx rfl ?_);clear hfs fs)
   | (go_at_call 133;refine (lg (s:Int) _).mono ?_;rintro e wv ⟨he,hb⟩;rw [HS0.out] at he;subst he;replace hm:=hm.call hb;clear hb))
  have HST:Hid (Row wv gst (stC s) 162):=hm.get 0 rfl
  have HBV:Hid (Below w.heap.size w wv):=hm.below
  have HPV:Hid (PgAt wv gp g mb kv ml mu P d):=PgAt.mem HP.out hm
  have HTV:Hid (Tab wv):=Tab.mem HT.out hm (by simp)
  have HQV:Hid (QTab wv):=QTab.mem HQ.out hm (by simp)
  clear hm HT HQ
  have hm:=Mem.start wv
  refine au ?_
  refine ap (T:=fun W=>Mem wv [] W []) (by kernel_rfl) hm ?_
  clear hm
  intro wc hm
  refine aT 0 (v:=.pointer (some ⟨gp,0,none⟩)) rfl (by kernel_rfl) rfl (fun W _=>by go_simp) hm ?_
  go_simp
  refine aT 1 (v:=.pointer (some ⟨gp,0,none⟩)) rfl (by kernel_rfl) rfl (fun W _=>by go_simp) hm ?_
  go_simp
  refine aT 2 (v:=.pointer (some ⟨gp,0,none⟩)) rfl (by kernel_rfl) rfl (fun W _=>by go_simp) hm ?_
  go_simp
  refine aT 3 (v:=.pointer (some ⟨g,0,none⟩)) rfl (by kernel_rfl) rfl (fun W hW=>aF (.pointer (some ⟨g,0,none⟩)) (PgAt.mem HPV.out hW).cell0 rfl kG) hm ?_
  go_simp
  refine aT 4 (v:=.int .u32 (i:Int)) rfl (by kernel_rfl) rfl (fun W _=>by go_simp) hm ?_
  go_simp
  refine aO 5 (by kernel_rfl) rfl rfl ?_
  intro K hK
  go_wp2_with (go_at_call 134;refine (ej i (by omega) _).mono ?_;rintro e wd ⟨rfl,rfl⟩)
  refine hK _ _ hm ?_
  clear hK K
  refine aO 6 (by kernel_rfl) rfl rfl ?_
  intro K hK
  go_wp2_with (go_at_call 73;refine (en g mb kv d (32+8 * i) 8 hdo (by omega) (by omega) (by omega) _ (PgAt.dk (PgAt.mem HPV.out hm))).mono ?_;rintro e we ⟨vr,rfl,hor,hb⟩;rw [HPGE.out ()] at hor;obtain ⟨pr,cr,hvr,hcr,hsr⟩:=OwnB.old hor;rw [HPGL.out] at hvr hcr hsr;subst hvr;have HOR:Hid (SlOld we (.slice pr 512 cr) PGB):=⟨pr,cr,by rw [HPGL.out],by rw [HPGL.out];exact hcr,fun _=>hsr (by omega)⟩;replace hm:=hm.call hb;clear hb hor hsr)
  refine hK _ _ hm ?_
  clear hK K
  refine aT 7 (v:=.tuple #[.slice pr 512 cr,.int .i64 0]) rfl (by kernel_rfl) rfl (fun W _=>by go_simp) hm ?_
  go_simp
  refine aT 8 (v:=.slice pr 512 cr) rfl (by kernel_rfl) rfl (fun W _=>by go_simp) hm ?_
  go_simp
  refine aT 9 (v:=.int .i64 0) rfl (by kernel_rfl) rfl (fun W _=>by go_simp) hm ?_
  go_simp
  refine aT 10 (v:=.slice pr 512 cr) rfl (by kernel_rfl) rfl (fun W _=>by go_simp) hm ?_
  go_simp
  refine aT 11 (v:=.int .i64 0) rfl (by kernel_rfl) rfl (fun W _=>by go_simp) hm ?_
  go_simp
  refine wpAnyH_done (by kernel_rfl) ?_ _
  simp only [endsIn]
  go_wp2_with fail
  have HPW:Hid (PgAt we gp g mb kv ml mu P d):=PgAt.mem HPV.out hm
  have HSW:Hid (Row we gst (stC s) 162):=Row.below' HST.out hm.below
  have HBW:Hid (Below w.heap.size w we):=HBV.out.trans (hm.below.mono HBV.out.size)
  have HTW:Hid (Tab we):=Tab.mem HTV.out hm (by simp)
  have HQW:Hid (QTab we):=QTab.mem HQV.out hm (by simp)
  clear hm
  have hm:=Mem.start we
  refine au ?_
  refine ap (T:=fun W=>Mem we [] W []) (by kernel_rfl) hm ?_
  clear hm
  intro wf hm
  obtain ⟨fs,hfs⟩:=un_sta
  refine aT 0 (v:=.pointer (some ⟨gp,0,none⟩)) rfl (by kernel_rfl) rfl (fun W _=>by go_simp) hm ?_
  go_simp
  refine aT 1 (v:=.pointer (some ⟨gp,0,none⟩)) rfl (by kernel_rfl) rfl (fun W _=>by go_simp) hm ?_
  go_simp
  refine aT 2 (v:=.pointer (some ⟨gp,1,none⟩)) rfl (by kernel_rfl) rfl (fun W _=>by go_simp) hm ?_
  go_simp
  refine aT 3 (v:=.pointer (some ⟨gp,1,none⟩)) rfl (by kernel_rfl) rfl (fun W _=>by go_simp) hm ?_
  go_simp
  refine aT 4 (v:=.agg (u8s P.kP).toArray) rfl (by kernel_rfl) rfl (fun W hW=>ao 1 (u8s P.kP) (PgAt.mem HPW.out hW).row rfl _ a0 rfl 32 a9 (by rw [List.length_append,PgAt.hlen HP.out];show 1+32≤97+8;omega) (hd_page g _ HP.out.ok.kP.1)) hm ?_
  go_simp
  refine aT 5 (v:=.int .u32 (i:Int)) rfl (by kernel_rfl) rfl (fun W _=>by go_simp) hm ?_
  go_simp
  refine aT 6 (v:=.agg #[.int .u64 (s:Int)]) rfl (by kernel_rfl) rfl (fun W hW=>ao 0 (stC s) (Row.below' HSW.out hW.below) rfl _ hfs rfl 1 dx (Nat.le_refl _) rfl) hm ?_
  go_simp
  refine aT 7 (v:=.slice pr 512 cr) rfl (by kernel_rfl) rfl (fun W _=>by go_simp) hm ?_
  go_simp
  refine aO 8 (by kernel_rfl) rfl rfl ?_
  intro K hK
  go_wp2_with (go_at_call 136;refine (ld P.kP PGB (i:Int) (s:Int) _ (by omega) HP.out.ok.kP.1 HP.out.ok.kP.2 HPGL.out HPGB.out _ (Tab.mem HTW.out hm (by simp)) (QTab.mem HQW.out hm (by simp)) (SlOld.mem HOR.out hm)).mono ?_;rintro e wg ⟨vo,he,hvo,hb⟩;rw [HCD.out ()] at he;rw [HOE.out ()] at hvo;have HVO:Hid (SlOld wg vo OUT):=hvo;subst he;replace hm:=hm.call hb;clear hb hvo)
  refine hK _ _ hm ?_
  clear hK K
  refine aT 9 (v:=vo) rfl (by kernel_rfl) rfl (fun W _=>by go_simp) hm ?_
  go_simp
  refine aT 10 (v:=.int .i64 CD) rfl (by kernel_rfl) rfl (fun W _=>by go_simp) hm ?_
  go_simp
  refine aT 11 (v:=vo) rfl (by kernel_rfl) rfl (fun W _=>by go_simp) hm ?_
  go_simp
  refine aT 12 (v:=.int .i64 CD) rfl (by kernel_rfl) rfl (fun W _=>by go_simp) hm ?_
  go_simp
  refine wpAnyH_done (by kernel_rfl) ?_ _
  simp only [endsIn]
  go_wp2_with fail
  go_ret2
  exact ⟨_,rfl,HVO.out,HBW.out.trans (hm.below.mono HBW.out.size)⟩
end Go.Proofs.YtmlbjfklaehjnaaGreatDoor
