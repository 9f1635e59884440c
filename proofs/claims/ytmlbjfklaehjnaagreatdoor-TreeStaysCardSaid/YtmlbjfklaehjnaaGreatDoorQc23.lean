import Derived.Test.YtmlbjfklaehjnaaGreatDoorQc14
import Derived.Test.YtmlbjfklaehjnaaGreatDoorQc11
import Derived.Test.YtmlbjfklaehjnaaGreatDoorQc13
set_option maxRecDepth 100000
set_option maxHeartbeats 4000000
namespace Go.Proofs.YtmlbjfklaehjnaaGreatDoor
open Go Go.RowKit Go.Maps
theorem kF {a:Act} {w:World} {dst:Option Tmp} {typ:TypeId} {pos:String} {aft:Array Edge} {gd:Option (Nat×Bool)} {x y:Operand} (i j:Int) (v:Bool) (hx:a.eval x=.int .u64 i) (hy:a.eval y=.int .u64 j) (hv:(i != j)=v) :
  (execOp a.eval {dst:=dst,op:=.binOp .neq 109 x y 109,type:=typ,pos:=pos,after:=aft,guard:=gd}).run Tryz.prog w=.ok (.value (.bool v)) w:=by
 unfold execOp
 simp only [hx,hy]
 simp [eqGuard,binOp,go_sem,hv]
theorem plainOf_gen (ks page:List Int) (id_ s:Int) (v:Value) (hkl:ks.length=32) (hkb:Bytes ks) (hpl:page.length=512) (hpb:Bytes page) (hne:s≠numL (page.take 8)) (w:World) (hv:SlOld w v page) :
  Calls Tryz.prog 136 #[.agg (u8s ks).toArray,.int .u32 id_,.agg #[.int .u64 s],v] w fun e w'=>e=.returned (.tuple #[.slice none 0 0,.int .i64 50])∧Below w.heap.size w w':=by
 obtain ⟨p,cap,rfl,hcap⟩:=hv.len
 have HV:Hid (SlOld w (.slice p page.length cap) page):=hv
 have HKB:Hid _:=hkb
 have HPB:Hid _:=hpb
 have HKU:Hid ((u8s ks).length=32):=by show _=_;rw [ab,hkl]
 have hm:=Mem.start w
 obtain ⟨X,hX⟩:∃X,X=numL (page.take 8):=⟨_,rfl⟩
 have HX:Hid (∀_:Unit,numL (page.take 8)=X):=fun _=>hX.symm
 have hx0:0≤X:=by rw [hX];exact bL (Bytes.take hpb 8)
 have hx1:X<18446744073709551616:=by
  have h:=eX (Bytes.take hpb 8)
  rw [List.length_take,hpl,show min 8 512=8 from rfl,←hX] at h
  have h2:(256:Int) ^ 8=18446744073709551616:=by decide
  omega
 have HNE:Hid ((X != s)=true):=by show _=_;rw [bne_iff_ne];intro e;apply hne;rw [←hX];exact e.symm
 rw [hpl] at hcap HV ⊢
 clear hv hkb hpb hX hne
 go_enter Tryz.func136,Tryz.ntmps136
 go_wp2_with (first
  | ((with_reducible refine aa (some 4) (.box 72 (.tmp 0)) ?_);refine ak (u8s ks) rfl hm ?_;clear hm;intro w1 gk hm)
  | ((with_reducible refine aa (some 6) (.box 162 (.tmp 2)) ?_);refine ak [.int .u64 s] rfl hm ?_;clear hm;intro w2 gst hm)
  | (go_at_call 163;go_loud (refine (fF page _ 512 hpl (by omega) (by omega) HPB.out _ (SlOld.mem HV.out hm)).mono ?_;rintro e w3 ⟨gS,he,hge,hr,hb⟩;rw [HX.out ()] at he;subst he;replace hm:=hm.callNew hb hr hge;clear hb hr hge))
  | ((with_reducible refine aa (some 26) (.load 109 (.tmp 25)) ?_);refine ai 1 0 (.int .u64 s) hm rfl rfl aI (rfl) ?_)
  | ((with_reducible refine aa (some 27) (.binOp .neq 109 (.tmp 24) (.tmp 26) 109) ?_);go_must (refine ae (.bool true) rfl (kF X s _ rfl rfl HNE.out) ?_)))
 go_ret2
 exact ⟨rfl,hm.below⟩
def plainP (ks:List Int) (id_ s:Int) (page:List Int):List Int :=
 ((encOf ks (nonceOf id_ s) (((page.drop 8).take 498).take 482)).drop 2).take (min (numL ((encOf ks (nonceOf id_ s) (((page.drop 8).take 498).take 482)).take 2)) 480).toNat
theorem fC {a:Act} {w:World} {dst:Option Tmp} {typ:TypeId} {pos:String} {aft:Array Edge} {gd:Option (Nat×Bool)} {x hi:Operand} (g len cap m:Nat) {ih:Int} (hm:m≤cap) (hx:a.eval x=.slice (some ⟨g,0,none⟩) len cap) (hhi:a.eval hi=.int .u64 ih) (hih:ih=(m:Int)) :
  (execOp a.eval {dst:=dst,op:=.slice 54 x none (some hi) none,type:=typ,pos:=pos,after:=aft,guard:=gd}).run Tryz.prog w=.ok (.value (.slice (some ⟨g,0,none⟩) m cap)) w:=by
 subst hih
 ·have bnd:∀code,(Instr.sliceBound (.int .u64 (m:Int)) cap code).run Tryz.prog w=.ok m w:=by
   intro code
   rw [run_sliceBound (P:=Tryz.prog) w .u64 (m:Int) cap code (by omega) (by omega)]
   simp
  have hb:(Instr.sliceBounds true len cap none (some (.int .u64 (m:Int))) none).run Tryz.prog w=.ok (0,m,cap) w:=by
   simp [Instr.sliceBounds,bnd]
  have hr:(Instr.sliceAt 54 (.slice (some ⟨g,0,none⟩) len cap) none (some (.int .u64 (m:Int))) none).run Tryz.prog w=.ok (.slice (cutHi (some ⟨g,0,none⟩) cap) m cap) w:=by
   simp [Instr.sliceAt,Instr.slice,run_underlying aq,hb,cutHi]
  rw [mJ] at hr
  unfold execOp
  simp only [hx,hhi,Option.map_some,Option.map_none,hr,Sem.run_bind,Sem.run_pure,Result.andThen_ok]
theorem plainOf_bad (ks page:List Int) (id_ s:Int) (v:Value) (hid:0≤id_∧id_<4294967296) (hkl:ks.length=32) (hkb:Bytes ks) (hpl:page.length=512) (hpb:Bytes page) (heq:s=numL (page.take 8)) (hbad:fits ks (nonceOf id_ s) labPage ((page.drop 8).take 498)=false) (w:World) (ht:Tab w) (hq:QTab w) (hv:SlOld w v page) :
  Calls Tryz.prog 136 #[.agg (u8s ks).toArray,.int .u32 id_,.agg #[.int .u64 s],v] w fun e w'=>e=.returned (.tuple #[.slice none 0 0,.int .i64 50])∧Below w.heap.size w w':=by
 obtain ⟨p,cap,rfl,hcap⟩:=hv.len
 have HV:Hid (SlOld w (.slice p page.length cap) page):=hv
 have HKB:Hid _:=hkb
 have HPB:Hid _:=hpb
 have HKU:Hid ((u8s ks).length=32):=by show _=_;rw [ab,hkl]
 have hm:=Mem.start w
 obtain ⟨X,hX⟩:∃X,X=numL (page.take 8):=⟨_,rfl⟩
 have HX:Hid (∀_:Unit,numL (page.take 8)=X):=fun _=>hX.symm
 have hx0:0≤X:=by rw [hX];exact bL (Bytes.take hpb 8)
 have hx1:X<18446744073709551616:=by
  have h:=eX (Bytes.take hpb 8)
  rw [List.length_take,hpl,show min 8 512=8 from rfl,←hX] at h
  have h2:(256:Int) ^ 8=18446744073709551616:=by decide
  omega
 have HEQ:Hid ((X != s)=false):=by show _=_;rw [heq,←hX];simp
 have HT:Hid (Tab w):=ht
 have HQ:Hid (QTab w):=hq
 obtain ⟨ns,hns⟩:∃ns,ns=nonceOf id_ X:=⟨_,rfl⟩
 have HNS:Hid (∀_:Unit,nonceOf id_ X=ns):=fun _=>hns.symm
 have HNL:Hid (ns.length=12):=by show _=_;rw [hns,dD]
 have HNB:Hid (Bytes ns):=by rw [hns];exact fo _ _
 obtain ⟨SB,hSB⟩:∃SB,SB=(page.drop 8).take 498:=⟨_,rfl⟩
 have HSE:Hid (∀_:Unit,(page.drop 8).take 498=SB):=fun _=>hSB.symm
 have HSL:Hid (SB.length=482+16):=by show _=_;rw [hSB,List.length_take,List.length_drop,hpl];rfl
 have HSB:Hid (Bytes SB):=by rw [hSB];exact (Bytes.drop hpb 8).take 498
 have HFT:Hid (∀_:Unit,SB.drop 482≠tagOf ks ns labPage (SB.take 482)):=fun _=>by
  have h9:=of_decide_eq_false hbad
  rw [←hSB,HSL.out,heq,←hX,←hns] at h9
  exact h9
 rw [hpl] at hcap HV ⊢
 clear hv hkb hpb hX heq hbad ht hq hns hSB
 go_enter Tryz.func136,Tryz.ntmps136
 go_wp2_with (first
  | ((with_reducible refine aa (some 4) (.box 72 (.tmp 0)) ?_);refine ak (u8s ks) rfl hm ?_;clear hm;intro w1 gk hm)
  | ((with_reducible refine aa (some 6) (.box 162 (.tmp 2)) ?_);refine ak [.int .u64 s] rfl hm ?_;clear hm;intro w2 gst hm)
  | (go_at_call 163;go_loud (refine (fF page _ 512 hpl (by omega) (by omega) HPB.out _ (SlOld.mem HV.out hm)).mono ?_;rintro e w3 ⟨gS,he,hge,hr,hb⟩;rw [HX.out ()] at he;subst he;replace hm:=hm.callNew hb hr hge;clear hb hr hge))
  | ((with_reducible refine aa (some 26) (.load 109 (.tmp 25)) ?_);refine ai 1 0 (.int .u64 s) hm rfl rfl aI (rfl) ?_)
  | ((with_reducible refine aa (some 27) (.binOp .neq 109 (.tmp 24) (.tmp 26) 109) ?_);go_must (refine ae (.bool false) rfl (kF X s _ rfl rfl HEQ.out) ?_)))
 have HGK:Hid (Row w3 gk (u8s ks) 72):=hm.get 2 rfl
 have HSG:Hid (Seg w3 gS 0 SB):=by
  have h9:=Seg.row (hm.get 0 rfl)
  rw [←HSE.out ()]
  exact h9.take 498
 have HB3:Hid (Below w.heap.size w w3):=hm.below
 have HT3:Hid (Tab w3):=Tab.mem HT.out hm (by simp)
 have HQ3:Hid (QTab w3):=QTab.mem HQ.out hm (by simp)
 clear hm HT HQ
 have hm:=Mem.start w3
 refine au ?_
 refine ap (T:=fun W=>Mem w3 [] W []) (by kernel_rfl) hm ?_
 clear hm
 intro w5 hm
 refine aT 0 (v:=.agg (u8s ks).toArray) rfl (by kernel_rfl) rfl (fun W hW=>ao 0 _ (Row.below' HGK.out hW.below) rfl _ a0 rfl 32 a9 (by rw [HKU.out];omega) (by rw [List.drop_zero,List.take_of_length_le (Nat.le_of_eq HKU.out)])) hm ?_
 go_simp
 refine aT 1 (v:=.int .u32 id_) rfl (by kernel_rfl) rfl (fun W _=>by go_simp) hm ?_
 go_simp
 refine aT 2 (v:=.int .u64 X) rfl (by kernel_rfl) rfl (fun W _=>by go_simp) hm ?_
 go_simp
 refine aT 6 (v:=.slice (some ⟨gS,0,none⟩) 504 504) rfl (by kernel_rfl) rfl (fun W _=>by go_simp) hm ?_
 go_simp
 refine aT 7 (v:=.slice (some ⟨gS,0,none⟩) 498 504) rfl (by kernel_rfl) rfl (fun W _=>cy aq av 498 (by omega) rfl rfl rfl) hm ?_
 go_simp
 refine wpAnyH_all (rs:=[3,4]) (by kernel_rfl) (by simp) ?_
 intro i hi
 simp only [List.mem_cons,List.not_mem_nil,or_false] at hi
 rcases hi with rfl|rfl
 ·refine aL 3 rfl rfl ?_
  intro K hK
  go_wp2_with (go_at_call 178;refine (cY id_ X hid _).mono ?_;rintro e wx1 ⟨he,hb⟩;rw [HNS.out ()] at he;subst he;replace hm:=hm.call hb;clear hb)
  refine hK _ _ hm ?_
  clear hK K
  refine aO 4 (by kernel_rfl) rfl rfl ?_
  intro K hK
  refine eH aq dN hm ?_
  clear hm
  intro wx2 gA hm hb
  refine wpList_nil ?_
  refine hK _ _ hm.tail ?_
  clear hK K
  refine aO 5 (by kernel_rfl) rfl rfl ?_
  intro K hK
  refine dn labPage rfl aq cf rfl rfl hm ?_
  clear hm
  intro wx3 hm hs
  have HA:Hid (SlOld wx3 (.slice (some ⟨gA,0,none⟩) 4 4) labPage):=hs
  clear hs
  refine wpList_nil ?_
  refine hK _ _ hm ?_
  clear hK K
  refine aO 8 (by kernel_rfl) rfl rfl ?_
  intro K hK
  go_wp2_with (go_at_call 164;refine (j8 ks ns labPage SB _ gS 0 504 482 HSL.out (by omega) (HFT.out ()) hkl HNL.out HKB.out HNB.out aY HSB.out (by decide) (by rw [HSL.out];omega) _ (Tab.mem HT3.out hm (by simp)) (QTab.mem HQ3.out hm (by simp)) HA.out (Seg.mem HSG.out hm (by simp))).mono ?_;rintro e wo ⟨he,hb⟩;subst he;replace hm:=hm.call hb;clear hb)
  refine hK _ _ hm ?_
  clear hK K
  refine aT 9 (v:=.tuple #[.slice none 0 0,.int .i64 50]) rfl (by kernel_rfl) rfl (fun W _=>by go_simp) hm ?_
  go_simp
  refine aT 10 (v:=.slice none 0 0) rfl (by kernel_rfl) rfl (fun W _=>by go_simp) hm ?_
  go_simp
  refine aT 11 (v:=.int .i64 50) rfl (by kernel_rfl) rfl (fun W _=>by go_simp) hm ?_
  go_simp
  refine aT 12 (v:=.slice none 0 0) rfl (by kernel_rfl) rfl (fun W _=>by go_simp) hm ?_
  go_simp
  refine aT 13 (v:=.int .i64 50) rfl (by kernel_rfl) rfl (fun W _=>by go_simp) hm ?_
  go_simp
  refine wpAnyH_done (by kernel_rfl) ?_ _
  simp only [endsIn]
  go_wp2_with fail
  go_ret2
  exact ⟨rfl,HB3.out.trans (hm.below.mono HB3.out.size)⟩
 ·refine aL 4 rfl rfl ?_
  intro K hK
  refine eH aq dN hm ?_
  clear hm
  intro wx1 gA hm hb
  refine wpList_nil ?_
  refine hK _ _ hm.tail ?_
  clear hK K
  refine wpAnyH_all (rs:=[3,5]) (by kernel_rfl) (by simp) ?_
  intro i hi
  simp only [List.mem_cons,List.not_mem_nil,or_false] at hi
  rcases hi with rfl|rfl
  ·refine aL 3 rfl rfl ?_
   intro K hK
   go_wp2_with (go_at_call 178;refine (cY id_ X hid _).mono ?_;rintro e wx2 ⟨he,hb⟩;rw [HNS.out ()] at he;subst he;replace hm:=hm.call hb;clear hb)
   refine hK _ _ hm.tail ?_
   clear hK K
   refine aO 5 (by kernel_rfl) rfl rfl ?_
   intro K hK
   refine dn labPage rfl aq cf rfl rfl hm ?_
   clear hm
   intro wx3 hm hs
   have HA:Hid (SlOld wx3 (.slice (some ⟨gA,0,none⟩) 4 4) labPage):=hs
   clear hs
   refine wpList_nil ?_
   refine hK _ _ hm ?_
   clear hK K
   refine aO 8 (by kernel_rfl) rfl rfl ?_
   intro K hK
   go_wp2_with (go_at_call 164;refine (j8 ks ns labPage SB _ gS 0 504 482 HSL.out (by omega) (HFT.out ()) hkl HNL.out HKB.out HNB.out aY HSB.out (by decide) (by rw [HSL.out];omega) _ (Tab.mem HT3.out hm (by simp)) (QTab.mem HQ3.out hm (by simp)) HA.out (Seg.mem HSG.out hm (by simp))).mono ?_;rintro e wo ⟨he,hb⟩;subst he;replace hm:=hm.call hb;clear hb)
   refine hK _ _ hm ?_
   clear hK K
   refine aT 9 (v:=.tuple #[.slice none 0 0,.int .i64 50]) rfl (by kernel_rfl) rfl (fun W _=>by go_simp) hm ?_
   go_simp
   refine aT 10 (v:=.slice none 0 0) rfl (by kernel_rfl) rfl (fun W _=>by go_simp) hm ?_
   go_simp
   refine aT 11 (v:=.int .i64 50) rfl (by kernel_rfl) rfl (fun W _=>by go_simp) hm ?_
   go_simp
   refine aT 12 (v:=.slice none 0 0) rfl (by kernel_rfl) rfl (fun W _=>by go_simp) hm ?_
   go_simp
   refine aT 13 (v:=.int .i64 50) rfl (by kernel_rfl) rfl (fun W _=>by go_simp) hm ?_
   go_simp
   refine wpAnyH_done (by kernel_rfl) ?_ _
   simp only [endsIn]
   go_wp2_with fail
   go_ret2
   exact ⟨rfl,HB3.out.trans (hm.below.mono HB3.out.size)⟩
  ·refine aL 5 rfl rfl ?_
   intro K hK
   refine dn labPage rfl aq cf rfl rfl hm ?_
   clear hm
   intro wx2 hm hs
   have HA:Hid (SlOld wx2 (.slice (some ⟨gA,0,none⟩) 4 4) labPage):=hs
   clear hs
   refine wpList_nil ?_
   refine hK _ _ hm ?_
   clear hK K
   refine aO 3 (by kernel_rfl) rfl rfl ?_
   intro K hK
   go_wp2_with (go_at_call 178;refine (cY id_ X hid _).mono ?_;rintro e wx3 ⟨he,hb⟩;rw [HNS.out ()] at he;subst he;have HA:Hid (SlOld wx3 (.slice (some ⟨gA,0,none⟩) 4 4) labPage):=SlOld.bel HA.out hb;replace hm:=hm.call hb;clear hb)
   refine hK _ _ hm ?_
   clear hK K
   refine aO 8 (by kernel_rfl) rfl rfl ?_
   intro K hK
   go_wp2_with (go_at_call 164;refine (j8 ks ns labPage SB _ gS 0 504 482 HSL.out (by omega) (HFT.out ()) hkl HNL.out HKB.out HNB.out aY HSB.out (by decide) (by rw [HSL.out];omega) _ (Tab.mem HT3.out hm (by simp)) (QTab.mem HQ3.out hm (by simp)) HA.out (Seg.mem HSG.out hm (by simp))).mono ?_;rintro e wo ⟨he,hb⟩;subst he;replace hm:=hm.call hb;clear hb)
   refine hK _ _ hm ?_
   clear hK K
   refine aT 9 (v:=.tuple #[.slice none 0 0,.int .i64 50]) rfl (by kernel_rfl) rfl (fun W _=>by go_simp) hm ?_
   go_simp
   refine aT 10 (v:=.slice none 0 0) rfl (by kernel_rfl) rfl (fun W _=>by go_simp) hm ?_
   go_simp
   refine aT 11 (v:=.int .i64 50) rfl (by kernel_rfl) rfl (fun W _=>by go_simp) hm ?_
   go_simp
   refine aT 12 (v:=.slice none 0 0) rfl (by kernel_rfl) rfl (fun W _=>by go_simp) hm ?_
   go_simp
   refine aT 13 (v:=.int .i64 50) rfl (by kernel_rfl) rfl (fun W _=>by go_simp) hm ?_
   go_simp
   refine wpAnyH_done (by kernel_rfl) ?_ _
   simp only [endsIn]
   go_wp2_with fail
   go_ret2
   exact ⟨rfl,HB3.out.trans (hm.below.mono HB3.out.size)⟩
theorem plainOf_lo (ks page:List Int) (id_ s:Int) (v:Value) (hid:0≤id_∧id_<4294967296) (hkl:ks.length=32) (hkb:Bytes ks) (hpl:page.length=512) (hpb:Bytes page) (heq:s=numL (page.take 8)) (hok:fits ks (nonceOf id_ s) labPage ((page.drop 8).take 498)=true) (w:World) (ht:Tab w) (hq:QTab w) (hv:SlOld w v page) :
  Calls Tryz.prog 136 #[.agg (u8s ks).toArray,.int .u32 id_,.agg #[.int .u64 s],v] w fun e w'=>∃v',e=.returned (.tuple #[v',.int .i64 0])∧SlOld w' v' (plainP ks id_ s page)∧Below w.heap.size w w':=by
 obtain ⟨p,cap,rfl,hcap⟩:=hv.len
 have HV:Hid (SlOld w (.slice p page.length cap) page):=hv
 have HKB:Hid _:=hkb
 have HPB:Hid _:=hpb
 have HKU:Hid ((u8s ks).length=32):=by show _=_;rw [ab,hkl]
 have hm:=Mem.start w
 obtain ⟨X,hX⟩:∃X,X=numL (page.take 8):=⟨_,rfl⟩
 have HX:Hid (∀_:Unit,numL (page.take 8)=X):=fun _=>hX.symm
 have hx0:0≤X:=by rw [hX];exact bL (Bytes.take hpb 8)
 have hx1:X<18446744073709551616:=by
  have h:=eX (Bytes.take hpb 8)
  rw [List.length_take,hpl,show min 8 512=8 from rfl,←hX] at h
  have h2:(256:Int) ^ 8=18446744073709551616:=by decide
  omega
 have HEQ:Hid ((X != s)=false):=by show _=_;rw [heq,←hX];simp
 have HT:Hid (Tab w):=ht
 have HQ:Hid (QTab w):=hq
 obtain ⟨ns,hns⟩:∃ns,ns=nonceOf id_ X:=⟨_,rfl⟩
 have HNS:Hid (∀_:Unit,nonceOf id_ X=ns):=fun _=>hns.symm
 have HNL:Hid (ns.length=12):=by show _=_;rw [hns,dD]
 have HNB:Hid (Bytes ns):=by rw [hns];exact fo _ _
 obtain ⟨SB,hSB⟩:∃SB,SB=(page.drop 8).take 498:=⟨_,rfl⟩
 have HSE:Hid (∀_:Unit,(page.drop 8).take 498=SB):=fun _=>hSB.symm
 have HSL:Hid (SB.length=482+16):=by show _=_;rw [hSB,List.length_take,List.length_drop,hpl];rfl
 have HSB:Hid (Bytes SB):=by rw [hSB];exact (Bytes.drop hpb 8).take 498
 have HFT:Hid (SB.drop 482=tagOf ks ns labPage (SB.take 482)):=by
  show _=_
  have h9:=of_decide_eq_true hok
  rw [←hSB,HSL.out,heq,←hX,←hns] at h9
  exact h9
 obtain ⟨TX,hTX⟩:∃TX,TX=encOf ks ns (SB.take 482):=⟨_,rfl⟩
 have HTX:Hid (∀_:Unit,encOf ks ns (SB.take 482)=TX):=fun _=>hTX.symm
 have HTL:Hid (TX.length=482):=by show _=_;rw [hTX,db,List.length_take,HSL.out];rfl
 have HTB:Hid (Bytes TX):=by rw [hTX];exact e8 _ _ (Bytes.take HSB.out _)
 obtain ⟨SZ,hSZ⟩:∃SZ,SZ=numL (TX.take 2):=⟨_,rfl⟩
 have HSZ:Hid (∀_:Unit,numL (TX.take 2)=SZ):=fun _=>hSZ.symm
 have hz0:0≤SZ:=by rw [hSZ];exact bL (Bytes.take HTB.out 2)
 obtain ⟨mm,hmd⟩:∃mm:Nat,mm=(min SZ 480).toNat:=⟨_,rfl⟩
 have hm480:mm≤480:=by omega
 have hcase:(¬(480:Int)<SZ∧¬SZ > 480∧(mm:Int)=SZ)∨((480:Int)<SZ∧SZ > 480∧(mm:Int)=480):=by omega
 have HRES:Hid (∀_:Unit,(TX.drop 2).take mm=plainP ks id_ s page):=fun _=>by
  unfold plainP
  rw [heq,←hX,←hns,←hSB,←hTX,←hSZ,hmd]
 rw [hpl] at hcap HV ⊢
 clear hv hkb hpb hX heq hok ht hq hns hSB hTX hSZ hmd
 go_enter Tryz.func136,Tryz.ntmps136
 go_wp2_with (first
  | ((with_reducible refine aa (some 4) (.box 72 (.tmp 0)) ?_);refine ak (u8s ks) rfl hm ?_;clear hm;intro w1 gk hm)
  | ((with_reducible refine aa (some 6) (.box 162 (.tmp 2)) ?_);refine ak [.int .u64 s] rfl hm ?_;clear hm;intro w2 gst hm)
  | (go_at_call 163;go_loud (refine (fF page _ 512 hpl (by omega) (by omega) HPB.out _ (SlOld.mem HV.out hm)).mono ?_;rintro e w3 ⟨gS,he,hge,hr,hb⟩;rw [HX.out ()] at he;subst he;replace hm:=hm.callNew hb hr hge;clear hb hr hge))
  | ((with_reducible refine aa (some 26) (.load 109 (.tmp 25)) ?_);refine ai 1 0 (.int .u64 s) hm rfl rfl aI (rfl) ?_)
  | ((with_reducible refine aa (some 27) (.binOp .neq 109 (.tmp 24) (.tmp 26) 109) ?_);go_must (refine ae (.bool false) rfl (kF X s _ rfl rfl HEQ.out) ?_)))
 have HGK:Hid (Row w3 gk (u8s ks) 72):=hm.get 2 rfl
 have HSG:Hid (Seg w3 gS 0 SB):=by
  have h9:=Seg.row (hm.get 0 rfl)
  rw [←HSE.out ()]
  exact h9.take 498
 have HB3:Hid (Below w.heap.size w w3):=hm.below
 have HT3:Hid (Tab w3):=Tab.mem HT.out hm (by simp)
 have HQ3:Hid (QTab w3):=QTab.mem HQ.out hm (by simp)
 clear hm HT HQ
 have hm:=Mem.start w3
 refine au ?_
 refine ap (T:=fun W=>Mem w3 [] W []) (by kernel_rfl) hm ?_
 clear hm
 intro w5 hm
 refine aT 0 (v:=.agg (u8s ks).toArray) rfl (by kernel_rfl) rfl (fun W hW=>ao 0 _ (Row.below' HGK.out hW.below) rfl _ a0 rfl 32 a9 (by rw [HKU.out];omega) (by rw [List.drop_zero,List.take_of_length_le (Nat.le_of_eq HKU.out)])) hm ?_
 go_simp
 refine aT 1 (v:=.int .u32 id_) rfl (by kernel_rfl) rfl (fun W _=>by go_simp) hm ?_
 go_simp
 refine aT 2 (v:=.int .u64 X) rfl (by kernel_rfl) rfl (fun W _=>by go_simp) hm ?_
 go_simp
 refine aT 6 (v:=.slice (some ⟨gS,0,none⟩) 504 504) rfl (by kernel_rfl) rfl (fun W _=>by go_simp) hm ?_
 go_simp
 refine aT 7 (v:=.slice (some ⟨gS,0,none⟩) 498 504) rfl (by kernel_rfl) rfl (fun W _=>cy aq av 498 (by omega) rfl rfl rfl) hm ?_
 go_simp
 refine wpAnyH_all (rs:=[3,4]) (by kernel_rfl) (by simp) ?_
 intro i hi
 simp only [List.mem_cons,List.not_mem_nil,or_false] at hi
 rcases hi with rfl|rfl
 ·refine aL 3 rfl rfl ?_
  intro K hK
  go_wp2_with (go_at_call 178;refine (cY id_ X hid _).mono ?_;rintro e wx1 ⟨he,hb⟩;rw [HNS.out ()] at he;subst he;replace hm:=hm.call hb;clear hb)
  refine hK _ _ hm ?_
  clear hK K
  refine aO 4 (by kernel_rfl) rfl rfl ?_
  intro K hK
  refine eH aq dN hm ?_
  clear hm
  intro wx2 gA hm hb
  refine wpList_nil ?_
  refine hK _ _ hm.tail ?_
  clear hK K
  refine aO 5 (by kernel_rfl) rfl rfl ?_
  intro K hK
  refine dn labPage rfl aq cf rfl rfl hm ?_
  clear hm
  intro wx3 hm hs
  have HA:Hid (SlOld wx3 (.slice (some ⟨gA,0,none⟩) 4 4) labPage):=hs
  clear hs
  refine wpList_nil ?_
  refine hK _ _ hm ?_
  clear hK K
  refine aO 8 (by kernel_rfl) rfl rfl ?_
  intro K hK
  go_wp2_with (go_at_call 164;refine (iY ks ns labPage SB _ gS 0 504 482 HSL.out (by omega) HFT.out hkl HNL.out HKB.out HNB.out aY HSB.out (by decide) (by rw [HSL.out];omega) _ (Tab.mem HT3.out hm (by simp)) (QTab.mem HQ3.out hm (by simp)) HA.out (Seg.mem HSG.out hm (by simp))).mono ?_;rintro e wo ⟨gx,he,hgx,hrx,hb⟩;subst he;rw [HTX.out ()] at hrx;have HRX:Hid (Row wo gx (u8s TX) 5):=hrx;replace hm:=hm.call hb;clear hb hrx hgx)
  refine hK _ _ hm ?_
  clear hK K
  refine aT 9 (v:=.tuple #[.slice (some ⟨gx,0,none⟩) 482 482,.int .i64 0]) rfl (by kernel_rfl) rfl (fun W _=>by go_simp) hm ?_
  go_simp
  refine aT 10 (v:=.slice (some ⟨gx,0,none⟩) 482 482) rfl (by kernel_rfl) rfl (fun W _=>by go_simp) hm ?_
  go_simp
  refine aT 11 (v:=.int .i64 0) rfl (by kernel_rfl) rfl (fun W _=>by go_simp) hm ?_
  go_simp
  refine aT 12 (v:=.slice (some ⟨gx,0,none⟩) 482 482) rfl (by kernel_rfl) rfl (fun W _=>by go_simp) hm ?_
  go_simp
  refine aT 13 (v:=.int .i64 0) rfl (by kernel_rfl) rfl (fun W _=>by go_simp) hm ?_
  go_simp
  refine wpAnyH_done (by kernel_rfl) ?_ _
  simp only [endsIn]
  have HXO:Hid (SlOld wo (.slice (some ⟨gx,0,none⟩) 482 482) TX):=aE HRX.out HTL.out (Nat.le_refl _)
  rcases hcase with ⟨hcs,hcs2,hmm⟩|⟨hcs,hcs2,hmm⟩
  ·have HMM:Hid ((mm:Int)=SZ):=hmm
   clear hmm
   go_wp2_with (first
    | (go_at_call 163;refine (iM TX _ 482 HTL.out (by omega) (by omega) HTB.out _ HXO.out).mono ?_;rintro e wg ⟨gy,he,hgy,hry,hb⟩;rw [HSZ.out ()] at he;subst he;have HRY:Hid (Row wg gy (u8s (TX.drop 2)) 5):=hry;have HGY:Hid _:=hgy;have hm':=hm.call hb;clear hm hb hry hgy;have hm:=hm';clear hm')
    | ((with_reducible refine aa (some 51) (.slice 54 (.tmp 48) none (some (.tmp 50)) none) ?_);go_must (refine ae (.slice (some ⟨gy,0,none⟩) mm 480) rfl (fC gy 480 480 mm (by omega) rfl rfl (by have:=HMM.out;omega)) ?_)))
   go_ret2
   refine ⟨_,rfl,?_,?_⟩
   ·have h9:SlOld wg (.slice (some ⟨gy,0,none⟩) mm 480) ((TX.drop 2).take mm):=by
     have h8:((TX.drop 2).take mm).length=mm:=by rw [List.length_take,List.length_drop,HTL.out];omega
     exact ⟨_,480,by rw [h8],by rw [h8];omega,fun _=>⟨gy,0,rfl,(Seg.row HRY.out).take mm⟩⟩
    rw [HRES.out ()] at h9
    exact h9
   ·exact HB3.out.trans (hm.below.mono HB3.out.size)
  ·have HMM:Hid ((mm:Int)=480):=hmm
   clear hmm
   go_wp2_with (first
    | (go_at_call 163;refine (iM TX _ 482 HTL.out (by omega) (by omega) HTB.out _ HXO.out).mono ?_;rintro e wg ⟨gy,he,hgy,hry,hb⟩;rw [HSZ.out ()] at he;subst he;have HRY:Hid (Row wg gy (u8s (TX.drop 2)) 5):=hry;have HGY:Hid _:=hgy;have hm':=hm.call hb;clear hm hb hry hgy;have hm:=hm';clear hm')
    | ((with_reducible refine aa (some 51) (.slice 54 (.tmp 48) none (some (.tmp 50)) none) ?_);go_must (refine ae (.slice (some ⟨gy,0,none⟩) mm 480) rfl (fC gy 480 480 mm (by omega) rfl rfl (by have:=HMM.out;omega)) ?_)))
   go_ret2
   refine ⟨_,rfl,?_,?_⟩
   ·have h9:SlOld wg (.slice (some ⟨gy,0,none⟩) mm 480) ((TX.drop 2).take mm):=by
     have h8:((TX.drop 2).take mm).length=mm:=by rw [List.length_take,List.length_drop,HTL.out];omega
     exact ⟨_,480,by rw [h8],by rw [h8];omega,fun _=>⟨gy,0,rfl,(Seg.row HRY.out).take mm⟩⟩
    rw [HRES.out ()] at h9
    exact h9
   ·exact HB3.out.trans (hm.below.mono HB3.out.size)
 ·refine aL 4 rfl rfl ?_
  intro K hK
  refine eH aq dN hm ?_
  clear hm
  intro wx1 gA hm hb
  refine wpList_nil ?_
  refine hK _ _ hm.tail ?_
  clear hK K
  refine wpAnyH_all (rs:=[3,5]) (by kernel_rfl) (by simp) ?_
  intro i hi
  simp only [List.mem_cons,List.not_mem_nil,or_false] at hi
  rcases hi with rfl|rfl
  ·refine aL 3 rfl rfl ?_
   intro K hK
   go_wp2_with (go_at_call 178;refine (cY id_ X hid _).mono ?_;rintro e wx2 ⟨he,hb⟩;rw [HNS.out ()] at he;subst he;replace hm:=hm.call hb;clear hb)
   refine hK _ _ hm.tail ?_
   clear hK K
   refine aO 5 (by kernel_rfl) rfl rfl ?_
   intro K hK
   refine dn labPage rfl aq cf rfl rfl hm ?_
   clear hm
   intro wx3 hm hs
   have HA:Hid (SlOld wx3 (.slice (some ⟨gA,0,none⟩) 4 4) labPage):=hs
   clear hs
   refine wpList_nil ?_
   refine hK _ _ hm ?_
   clear hK K
   refine aO 8 (by kernel_rfl) rfl rfl ?_
   intro K hK
   go_wp2_with (go_at_call 164;refine (iY ks ns labPage SB _ gS 0 504 482 HSL.out (by omega) HFT.out hkl HNL.out HKB.out HNB.out aY HSB.out (by decide) (by rw [HSL.out];omega) _ (Tab.mem HT3.out hm (by simp)) (QTab.mem HQ3.out hm (by simp)) HA.out (Seg.mem HSG.out hm (by simp))).mono ?_;rintro e wo ⟨gx,he,hgx,hrx,hb⟩;subst he;rw [HTX.out ()] at hrx;have HRX:Hid (Row wo gx (u8s TX) 5):=hrx;replace hm:=hm.call hb;clear hb hrx hgx)
   refine hK _ _ hm ?_
   clear hK K
   refine aT 9 (v:=.tuple #[.slice (some ⟨gx,0,none⟩) 482 482,.int .i64 0]) rfl (by kernel_rfl) rfl (fun W _=>by go_simp) hm ?_
   go_simp
   refine aT 10 (v:=.slice (some ⟨gx,0,none⟩) 482 482) rfl (by kernel_rfl) rfl (fun W _=>by go_simp) hm ?_
   go_simp
   refine aT 11 (v:=.int .i64 0) rfl (by kernel_rfl) rfl (fun W _=>by go_simp) hm ?_
   go_simp
   refine aT 12 (v:=.slice (some ⟨gx,0,none⟩) 482 482) rfl (by kernel_rfl) rfl (fun W _=>by go_simp) hm ?_
   go_simp
   refine aT 13 (v:=.int .i64 0) rfl (by kernel_rfl) rfl (fun W _=>by go_simp) hm ?_
   go_simp
   refine wpAnyH_done (by kernel_rfl) ?_ _
   simp only [endsIn]
   have HXO:Hid (SlOld wo (.slice (some ⟨gx,0,none⟩) 482 482) TX):=aE HRX.out HTL.out (Nat.le_refl _)
   rcases hcase with ⟨hcs,hcs2,hmm⟩|⟨hcs,hcs2,hmm⟩
   ·have HMM:Hid ((mm:Int)=SZ):=hmm
    clear hmm
    go_wp2_with (first
     | (go_at_call 163;refine (iM TX _ 482 HTL.out (by omega) (by omega) HTB.out _ HXO.out).mono ?_;rintro e wg ⟨gy,he,hgy,hry,hb⟩;rw [HSZ.out ()] at he;subst he;have HRY:Hid (Row wg gy (u8s (TX.drop 2)) 5):=hry;have HGY:Hid _:=hgy;have hm':=hm.call hb;clear hm hb hry hgy;have hm:=hm';clear hm')
     | ((with_reducible refine aa (some 51) (.slice 54 (.tmp 48) none (some (.tmp 50)) none) ?_);go_must (refine ae (.slice (some ⟨gy,0,none⟩) mm 480) rfl (fC gy 480 480 mm (by omega) rfl rfl (by have:=HMM.out;omega)) ?_)))
    go_ret2
    refine ⟨_,rfl,?_,?_⟩
    ·have h9:SlOld wg (.slice (some ⟨gy,0,none⟩) mm 480) ((TX.drop 2).take mm):=by
      have h8:((TX.drop 2).take mm).length=mm:=by rw [List.length_take,List.length_drop,HTL.out];omega
      exact ⟨_,480,by rw [h8],by rw [h8];omega,fun _=>⟨gy,0,rfl,(Seg.row HRY.out).take mm⟩⟩
     rw [HRES.out ()] at h9
     exact h9
    ·exact HB3.out.trans (hm.below.mono HB3.out.size)
   ·have HMM:Hid ((mm:Int)=480):=hmm
    clear hmm
    go_wp2_with (first
     | (go_at_call 163;refine (iM TX _ 482 HTL.out (by omega) (by omega) HTB.out _ HXO.out).mono ?_;rintro e wg ⟨gy,he,hgy,hry,hb⟩;rw [HSZ.out ()] at he;subst he;have HRY:Hid (Row wg gy (u8s (TX.drop 2)) 5):=hry;have HGY:Hid _:=hgy;have hm':=hm.call hb;clear hm hb hry hgy;have hm:=hm';clear hm')
     | ((with_reducible refine aa (some 51) (.slice 54 (.tmp 48) none (some (.tmp 50)) none) ?_);go_must (refine ae (.slice (some ⟨gy,0,none⟩) mm 480) rfl (fC gy 480 480 mm (by omega) rfl rfl (by have:=HMM.out;omega)) ?_)))
    go_ret2
    refine ⟨_,rfl,?_,?_⟩
    ·have h9:SlOld wg (.slice (some ⟨gy,0,none⟩) mm 480) ((TX.drop 2).take mm):=by
      have h8:((TX.drop 2).take mm).length=mm:=by rw [List.length_take,List.length_drop,HTL.out];omega
      exact ⟨_,480,by rw [h8],by rw [h8];omega,fun _=>⟨gy,0,rfl,(Seg.row HRY.out).take mm⟩⟩
     rw [HRES.out ()] at h9
     exact h9
    ·exact HB3.out.trans (hm.below.mono HB3.out.size)
  ·refine aL 5 rfl rfl ?_
   intro K hK
   refine dn labPage rfl aq cf rfl rfl hm ?_
   clear hm
   intro wx2 hm hs
   have HA:Hid (SlOld wx2 (.slice (some ⟨gA,0,none⟩) 4 4) labPage):=hs
   clear hs
   refine wpList_nil ?_
   refine hK _ _ hm ?_
   clear hK K
   refine aO 3 (by kernel_rfl) rfl rfl ?_
   intro K hK
   go_wp2_with (go_at_call 178;refine (cY id_ X hid _).mono ?_;rintro e wx3 ⟨he,hb⟩;rw [HNS.out ()] at he;subst he;have HA:Hid (SlOld wx3 (.slice (some ⟨gA,0,none⟩) 4 4) labPage):=SlOld.bel HA.out hb;replace hm:=hm.call hb;clear hb)
   refine hK _ _ hm ?_
   clear hK K
   refine aO 8 (by kernel_rfl) rfl rfl ?_
   intro K hK
   go_wp2_with (go_at_call 164;refine (iY ks ns labPage SB _ gS 0 504 482 HSL.out (by omega) HFT.out hkl HNL.out HKB.out HNB.out aY HSB.out (by decide) (by rw [HSL.out];omega) _ (Tab.mem HT3.out hm (by simp)) (QTab.mem HQ3.out hm (by simp)) HA.out (Seg.mem HSG.out hm (by simp))).mono ?_;rintro e wo ⟨gx,he,hgx,hrx,hb⟩;subst he;rw [HTX.out ()] at hrx;have HRX:Hid (Row wo gx (u8s TX) 5):=hrx;replace hm:=hm.call hb;clear hb hrx hgx)
   refine hK _ _ hm ?_
   clear hK K
   refine aT 9 (v:=.tuple #[.slice (some ⟨gx,0,none⟩) 482 482,.int .i64 0]) rfl (by kernel_rfl) rfl (fun W _=>by go_simp) hm ?_
   go_simp
   refine aT 10 (v:=.slice (some ⟨gx,0,none⟩) 482 482) rfl (by kernel_rfl) rfl (fun W _=>by go_simp) hm ?_
   go_simp
   refine aT 11 (v:=.int .i64 0) rfl (by kernel_rfl) rfl (fun W _=>by go_simp) hm ?_
   go_simp
   refine aT 12 (v:=.slice (some ⟨gx,0,none⟩) 482 482) rfl (by kernel_rfl) rfl (fun W _=>by go_simp) hm ?_
   go_simp
   refine aT 13 (v:=.int .i64 0) rfl (by kernel_rfl) rfl (fun W _=>by go_simp) hm ?_
   go_simp
   refine wpAnyH_done (by kernel_rfl) ?_ _
   simp only [endsIn]
   have HXO:Hid (SlOld wo (.slice (some ⟨gx,0,none⟩) 482 482) TX):=aE HRX.out HTL.out (Nat.le_refl _)
   rcases hcase with ⟨hcs,hcs2,hmm⟩|⟨hcs,hcs2,hmm⟩
   ·have HMM:Hid ((mm:Int)=SZ):=hmm
    clear hmm
    go_wp2_with (first
     | (go_at_call 163;refine (iM TX _ 482 HTL.out (by omega) (by omega) HTB.out _ HXO.out).mono ?_;rintro e wg ⟨gy,he,hgy,hry,hb⟩;rw [HSZ.out ()] at he;subst he;have HRY:Hid (Row wg gy (u8s (TX.drop 2)) 5):=hry;have HGY:Hid _:=hgy;have hm':=hm.call hb;clear hm hb hry hgy;have hm:=hm';clear hm')
     | ((with_reducible refine aa (some 51) (.slice 54 (.tmp 48) none (some (.tmp 50)) none) ?_);go_must (refine ae (.slice (some ⟨gy,0,none⟩) mm 480) rfl (fC gy 480 480 mm (by omega) rfl rfl (by have:=HMM.out;omega)) ?_)))
    go_ret2
    refine ⟨_,rfl,?_,?_⟩
    ·have h9:SlOld wg (.slice (some ⟨gy,0,none⟩) mm 480) ((TX.drop 2).take mm):=by
      have h8:((TX.drop 2).take mm).length=mm:=by rw [List.length_take,List.length_drop,HTL.out];omega
      exact ⟨_,480,by rw [h8],by rw [h8];omega,fun _=>⟨gy,0,rfl,(Seg.row HRY.out).take mm⟩⟩
     rw [HRES.out ()] at h9
     exact h9
    ·exact HB3.out.trans (hm.below.mono HB3.out.size)
   ·have HMM:Hid ((mm:Int)=480):=hmm
    clear hmm
    go_wp2_with (first
     | (go_at_call 163;refine (iM TX _ 482 HTL.out (by omega) (by omega) HTB.out _ HXO.out).mono ?_;rintro e wg ⟨gy,he,hgy,hry,hb⟩;rw [HSZ.out ()] at he;subst he;have HRY:Hid (Row wg gy (u8s (TX.drop 2)) 5):=hry;have HGY:Hid _:=hgy;have hm':=hm.call hb;clear hm hb hry hgy;have hm:=hm';clear hm')
     | ((with_reducible refine aa (some 51) (.slice 54 (.tmp 48) none (some (.tmp 50)) none) ?_);go_must (refine ae (.slice (some ⟨gy,0,none⟩) mm 480) rfl (fC gy 480 480 mm (by omega) rfl rfl (by have:=HMM.out;omega)) ?_)))
    go_ret2
    refine ⟨_,rfl,?_,?_⟩
    ·have h9:SlOld wg (.slice (some ⟨gy,0,none⟩) mm 480) ((TX.drop 2).take mm):=by
      have h8:((TX.drop 2).take mm).length=mm:=by rw [List.length_take,List.length_drop,HTL.out];omega
      exact ⟨_,480,by rw [h8],by rw [h8];omega,fun _=>⟨gy,0,rfl,(Seg.row HRY.out).take mm⟩⟩
     rw [HRES.out ()] at h9
     exact h9
    ·exact HB3.out.trans (hm.below.mono HB3.out.size)
def okP (ks:List Int) (id_ s:Int) (page:List Int):Bool:=decide (s=numL (page.take 8))&&fits ks (nonceOf id_ s) labPage ((page.drop 8).take 498)
def codeP (ks:List Int) (id_ s:Int) (page:List Int):Int:=if okP ks id_ s page=true then 0 else 50
def outP (ks:List Int) (id_ s:Int) (page:List Int):List Int:=if okP ks id_ s page=true then plainP ks id_ s page else []
theorem ld (ks page:List Int) (id_ s:Int) (v:Value) (hid:0≤id_∧id_<4294967296) (hkl:ks.length=32) (hkb:Bytes ks) (hpl:page.length=512) (hpb:Bytes page) (w:World) (ht:Tab w) (hq:QTab w) (hv:SlOld w v page) :
  Calls Tryz.prog 136 #[.agg (u8s ks).toArray,.int .u32 id_,.agg #[.int .u64 s],v] w fun e w'=>∃v',e=.returned (.tuple #[v',.int .i64 (codeP ks id_ s page)])∧SlOld w' v' (outP ks id_ s page)∧Below w.heap.size w w':=by
 unfold codeP outP okP
 by_cases h1:s=numL (page.take 8)
 ·rw [decide_eq_true h1,Bool.true_and]
  cases h2:fits ks (nonceOf id_ s) labPage ((page.drop 8).take 498) with
  | true =>
   rw [if_pos rfl,if_pos rfl]
   exact plainOf_lo ks page id_ s v hid hkl hkb hpl hpb h1 h2 w ht hq hv
  | false =>
   rw [if_neg (by simp),if_neg (by simp)]
   exact (plainOf_bad ks page id_ s v hid hkl hkb hpl hpb h1 h2 w ht hq hv).mono (fun e w' h=>⟨_,h.1,old_empty _,h.2⟩)
 ·rw [decide_eq_false h1,Bool.false_and,if_neg (by simp),if_neg (by simp)]
  exact (plainOf_gen ks page id_ s v hkl hkb hpl hpb h1 w hv).mono (fun e w' h=>⟨_,h.1,old_empty _,h.2⟩)
/-- A page that was written opens to what was written. -/
theorem okP_page (ks:List Int) (id_ s:Int) (bs:List Int) (hs:0≤s∧s<18446744073709551616) (hb:Bytes bs) (hl:bs.length≤480):okP ks id_ s (pageOf ks id_ s bs)=true∧outP ks id_ s (pageOf ks id_ s bs)=bs:=by
 have h1:okP ks id_ s (pageOf ks id_ s bs)=true:=by
  unfold okP
  rw [pageOf_gen,numL_be8 hs,i4,fits_seal,decide_eq_true rfl]
  rfl
 refine ⟨h1,?_⟩
 unfold outP
 rw [if_pos h1]
 unfold plainP
 rw [i4]
 have h2:=ik ks (nonceOf id_ s) labPage (textOf bs)
 rw [dh] at h2
 rw [h2,kO _ _ (f8 hb),textOf_num hl,show (min (bs.length:Int) 480).toNat=bs.length by omega,textOf_rest hl]
end Go.Proofs.YtmlbjfklaehjnaaGreatDoor
