import Derived.Test.YtmlbjfklaehjnaaGreatDoorQc12
import Derived.Test.YtmlbjfklaehjnaaGreatDoorQc13
set_option maxRecDepth 100000
set_option maxHeartbeats 4000000
namespace Go.Proofs.YtmlbjfklaehjnaaGreatDoor
open Go Go.RowKit Go.Maps
section
variable {P:Program} {ops:Array Oper} {rest:List Oper} {a:Act} {w w0:World} {Q:Exit→Act→World→Prop} {dst:Option Tmp} {typ:TypeId} {pos:String} {aft:Array Edge} {gd:Option (Nat×Bool)} {S:List Nat} {rows:List (Nat×List Value×TypeId)}
theorem eH {t e:TypeId} (hu:P.underlying t=some (.slice e)) (hi:(P.info? e).map (fun i=>(i.zero,i.size))=some (some (.int .u8 0),1)) (hm:Mem w0 S w rows)
  (h:∀w' g,Mem w0 S w' ((g,u8s labPage,e)::rows)→Below w.heap.size w w'→wpList P ops Q rest (a.put dst (.slice (some ⟨g,0,none⟩) 4 4)) w') :
  wpList P ops Q ({dst:=dst,op:=.buildSlice t 4 #[(0,.const (.int .u8 112)),(1,.const (.int .u8 97)),(2,.const (.int .u8 103)),(3,.const (.int .u8 101))],type:=typ,pos:=pos,after:=aft,guard:=none}::rest) a w:=by
 refine wpList_plain rfl fun K hK=>?_
 have hh:=hK _ _ (h _ _ (hm.alloc (u8s labPage) e) ((Below.refl _ _).alloc (Nat.le_refl _) _))
 have hc:∀z:Int,a.eval (.const (.int .u8 z))=.int .u8 z:=fun _=>rfl
 unfold Oper.wp execOp
 simp only [List.map_toArray,List.map_cons,List.map_nil,hc,run_bsl4s (P:=P) w (.int .u8 0) (.int .u8 112) (.int .u8 97) (.int .u8 103) (.int .u8 101) hu hi rfl rfl rfl rfl rfl,Sem.run_bind,Sem.run_pure,Result.andThen_ok]
 exact hh
end
theorem eP {w:World} {g:Nat} {l:List Int} {r:List Value} {t:TypeId} (h:Row w g (u8s l++r) t):Seg w g 0 l:=by
 intro j hj
 rw [Nat.zero_add,h.cell j,List.getElem?_append_left (by rw [ab];exact hj),cG l j hj]
theorem SlOld.bel {w w':World} {v:Value} {cs:List Int} (h:SlOld w v cs) (hb:Below w.heap.size w w'):SlOld w' v cs:=by
 obtain ⟨p,cap,rfl,hc,h2⟩:=h
 refine ⟨p,cap,rfl,hc,fun h0=>?_⟩
 obtain ⟨b,off,rfl,hs⟩:=h2 h0
 refine ⟨b,off,rfl,fun j hj=>?_⟩
 rw [World.cell?_of_block (w:=w) (a:=⟨b,off+j,none⟩) (hb.block b (hs.lt h0))]
 exact hs j hj
theorem nj (ks bs:List Int) (id_ gen:Int) (v:Value) (n:Nat) (hid:0≤id_∧id_<4294967296) (hkl:ks.length=32) (hkb:Bytes ks) (hbb:Bytes bs) (hbl:bs.length=n) (hn:n≤480) (w:World) (ht:Tab w) (hq:QTab w) (hv:SlOld w v bs) :
  Calls Tryz.prog 176 #[.agg (u8s ks).toArray,.int .u32 id_,.int .u64 gen,v] w fun e w'=>∃g,e=.returned (.slice (some ⟨g,0,none⟩) 512 512)∧w.heap.size≤g∧Row w' g (u8s (pageOf ks id_ gen bs)) 5∧Below w.heap.size w w':=by
 obtain ⟨p,cap,rfl,hcap,hsg⟩:=hv
 have HV:Hid _:=hsg
 have HT:Hid _:=ht
 have HQ:Hid _:=hq
 have HKB:Hid _:=hkb
 have HBB:Hid _:=hbb
 have HKU:Hid ((u8s ks).length=32):=by show _=_;rw [ab,hkl]
 have HW:IntKind.u64.wrap (n:Int)=(n:Int):=ec n (by omega)
 rw [hbl] at hcap HV ⊢
 have hm:=Mem.start w
 obtain ⟨T,hT⟩:∃T,T=be2 (n:Int)++bs:=⟨_,rfl⟩
 have HTE:Hid (∀_:Unit,be2 (n:Int)++bs=T):=fun _=>hT.symm
 obtain ⟨tl,htl⟩:∃tl,T.length=tl:=⟨_,rfl⟩
 have HTL:Hid (T.length=tl):=htl
 have HTX:Hid (∀_:Unit,fillTo T 482=textOf bs):=fun _=>by rw [textOf,hbl,hT]
 have htb:tl≤482:=by rw [←htl,hT];simp [aH];omega
 obtain ⟨ns,hns⟩:∃ns,ns=nonceOf id_ gen:=⟨_,rfl⟩
 have HNS:Hid (∀_:Unit,nonceOf id_ gen=ns):=fun _=>hns.symm
 have HNL:Hid (ns.length=12):=by show _=_;rw [hns,dD]
 have HNB:Hid (Bytes ns):=by rw [hns];exact fo _ _
 obtain ⟨X,hX⟩:∃X,X=textOf bs:=⟨_,rfl⟩
 have HXE:Hid (∀_:Unit,textOf bs=X):=fun _=>hX.symm
 have HXL:Hid (X.length=482):=by show _=_;rw [hX,dh]
 have HXB:Hid (Bytes X):=by rw [hX];exact f8 hbb
 obtain ⟨Z,hZ⟩:∃Z,Z=sealOf ks ns labPage X:=⟨_,rfl⟩
 have HZE:Hid (∀_:Unit,sealOf ks ns labPage X=Z):=fun _=>hZ.symm
 have HZL:Hid (Z.length=482+16):=by show _=_;rw [hZ,bY,HXL.out]
 have HYL:Hid ((be8 gen++Z).length=506):=by show _=_;rw [List.length_append,HZL.out];rfl
 have HPE:Hid (∀_:Unit,fillTo (be8 gen++Z) 512=pageOf ks id_ gen bs):=fun _=>by rw [pageOf,←hns,←hX,←hZ]
 clear ht hq hkb hbb hsg hT htl hns hX hZ
 go_enter Tryz.func176,Tryz.ntmps176
 go_wp2_with (first
  | ((with_reducible refine aa (some 4) (.box 72 (.tmp 0)) ?_);refine ak (u8s ks) rfl hm ?_;clear hm;intro w1 gk hm)
  | (go_at_call 89;refine (put_two [] _ (n:Int) (by simp) _ ⟨none,0,rfl,Nat.le_refl _,fun h=>absurd h (by simp)⟩).mono ?_;rintro e w2 ⟨gt,rfl,hge,hr,hb⟩;rw [show ([]:List Int).length+2=2 from rfl];have HO:Hid (OwnB 5 w2 w.heap.size (.slice (some ⟨gt,0,none⟩) 2 2) (be2 (n:Int))):=dG (zs:=be2 (n:Int)) hr (Nat.le_trans hm.size hge) (by simp [aH]);replace hm:=hm.call hb;clear hb hr hge)
  | ((with_reducible refine aa (some 16) (.call {callee:=.builtin .append,args:=#[.tmp 14,.tmp 15],argTypes:=#[54,54]}) ?_);go_must (refine bO rfl aq aU bs hm HO.out (by intro r hr;simp only [List.mem_cons,List.not_mem_nil,or_false] at hr;subst hr;simp) rfl rfl hbl.symm (fun h0=>by obtain ⟨b,off,e,hs⟩:=HV.out (by omega);exact ⟨b,off,e,Seg.mem hs hm (by simp)⟩) (by rw [aH,hbl];omega) ?_);clear hm HO;intro v3 w3 ho hm;rw [HTE.out ()] at ho;have HO3:Hid _:=ho;clear ho))
 obtain ⟨p9,c9,hv9,hc9,hs9⟩:=OwnB.old HO3.out
 rw [HTL.out] at hv9 hc9 hs9
 subst hv9
 have HT9:Hid (SlOld w3 (.slice p9 tl c9) T):=by
  refine ⟨p9,c9,by rw [HTL.out],by rw [HTL.out];exact hc9,fun h=>hs9 (by rw [←HTL.out];exact h)⟩
 have HGK:Hid (Row w3 gk (u8s ks) 72):=hm.get 0 rfl
 have HB3:Hid (Below w.heap.size w w3):=hm.below
 have HT3:Hid (Tab w3):=Tab.mem HT.out hm (by simp)
 have HQ3:Hid (QTab w3):=QTab.mem HQ.out hm (by simp)
 clear hm HT HQ HO3 hs9
 have hm:=Mem.start w3
 refine au ?_
 refine ap (T:=fun W=>Mem w3 [] W []) (by kernel_rfl) hm ?_
 clear hm
 intro w4 hm
 refine aT 0 (v:=.agg (u8s ks).toArray) rfl (by kernel_rfl) rfl (fun W hW=>ao 0 _ (Row.below' HGK.out hW.below) rfl _ a0 rfl 32 a9 (by rw [HKU.out];omega) (by rw [List.drop_zero,List.take_of_length_le (Nat.le_of_eq HKU.out)])) hm ?_
 go_simp
 refine aT 1 (v:=.int .u32 id_) rfl (by kernel_rfl) rfl (fun W _=>by go_simp) hm ?_
 go_simp
 refine aT 2 (v:=.int .u64 gen) rfl (by kernel_rfl) rfl (fun W _=>by go_simp) hm ?_
 go_simp
 refine aT 6 (v:=.slice p9 tl c9) rfl (by kernel_rfl) rfl (fun W _=>by go_simp) hm ?_
 go_simp
 refine wpAnyH_all (rs:=[3,4]) (by kernel_rfl) (by simp) ?_
 intro i hi
 simp only [List.mem_cons,List.not_mem_nil,or_false] at hi
 rcases hi with rfl|rfl
 ·refine aL 3 rfl rfl ?_
  intro K hK
  go_wp2_with (go_at_call 178;refine (cY id_ gen hid _).mono ?_;rintro e wx1 ⟨he,hb⟩;rw [HNS.out ()] at he;subst he;replace hm:=hm.call hb;clear hb)
  refine hK _ _ hm ?_
  clear hK K
  refine wpAnyH_all (rs:=[4,7]) (by kernel_rfl) (by simp) ?_
  intro i hi
  simp only [List.mem_cons,List.not_mem_nil,or_false] at hi
  rcases hi with rfl|rfl
  ·refine aL 4 rfl rfl ?_
   intro K hK
   refine eH aq dN hm ?_
   clear hm
   intro wx2 gA hm hb
   refine wpList_nil ?_
   refine hK _ _ hm.tail ?_
   clear hK K
   refine wpAnyH_all (rs:=[5,7]) (by kernel_rfl) (by simp) ?_
   intro i hi
   simp only [List.mem_cons,List.not_mem_nil,or_false] at hi
   rcases hi with rfl|rfl
   ·refine aL 5 rfl rfl ?_
    intro K hK
    refine dn labPage rfl aq cf rfl rfl hm ?_
    clear hm
    intro wx3 hm hs
    have HA:Hid (SlOld wx3 (.slice (some ⟨gA,0,none⟩) 4 4) labPage):=hs
    clear hs
    refine wpList_nil ?_
    refine hK _ _ hm ?_
    clear hK K
    refine aO 7 (by kernel_rfl) rfl rfl ?_
    intro K hK
    go_wp2_with (go_at_call 115;refine (aK T _ 482 tl HTL.out (by omega) _ (SlOld.mem HT9.out hm)).mono ?_;rintro e wx4 ⟨gF,rfl,hge,hr,hb⟩;have HA:Hid (SlOld wx4 (.slice (some ⟨gA,0,none⟩) 4 4) labPage):=SlOld.bel HA.out hb;rw [HTX.out (),HXE.out ()] at hr;replace hm:=hm.callNew hb hr hge;clear hb hr hge)
    refine hK _ _ hm.tail ?_
    clear hK K
    refine aO 8 (by kernel_rfl) rfl rfl ?_
    intro K hK
    go_wp2_with (go_at_call 123;refine (eO ks ns labPage X _ _ hkl HNL.out HKB.out HNB.out aY HXB.out (by decide) (by rw [HXL.out];omega) _ (Tab.mem HT3.out hm (by simp)) (QTab.mem HQ3.out hm (by simp)) HA.out (aE (hm.get 0 rfl) HXL.out (Nat.le_refl _))).mono ?_;rintro e ws ⟨gs,cp,ls,he,hcp,hgs,hrs,hb⟩;rw [HXL.out] at he hcp;subst he;have HRS:Hid (Row ws gs (u8s (sealOf ks ns labPage X)++ls) 5):=hrs;replace hm:=hm.callNew hb hrs hgs;clear hb hrs hgs)
    refine hK _ _ hm.tail.tail ?_
    clear hK K
    refine aT 9 (v:=.slice (some ⟨gs,0,none⟩) (482+16) cp) rfl (by kernel_rfl) rfl (fun W _=>by go_simp) hm.tail.tail ?_
    go_simp
    refine wpAnyH_done (by kernel_rfl) ?_ _
    simp only [endsIn]
    have HZO:Hid (SlOld ws (.slice (some ⟨gs,0,none⟩) (482+16) cp) Z):=⟨_,cp,by rw [HZL.out],by rw [HZL.out];exact hcp,fun _=>⟨gs,0,rfl,by rw [←HZE.out ()];exact eP HRS.out⟩⟩
    have HBS:Hid (Below w.heap.size w ws):=HB3.out.trans (hm.below.mono HB3.out.size)
    clear hm HA HRS HB3 HGK HT3 HQ3 HT9
    have hm:=Mem.start ws
    go_wp2_with (first
     | (go_at_call 89;refine (d3 [] _ gen (by simp) _ ⟨none,0,rfl,Nat.le_refl _,fun h=>absurd h (by simp)⟩).mono ?_;rintro e wp ⟨gt2,rfl,hge,hr,hb⟩;rw [show ([]:List Int).length+8=8 from rfl];have HO:Hid (OwnB 5 wp ws.heap.size (.slice (some ⟨gt2,0,none⟩) 8 8) (be8 gen)):=dG (zs:=be8 gen) hr (Nat.le_trans hm.size hge) (by simp [aw]);replace hm:=hm.call hb;clear hb hr hge)
     | ((with_reducible refine aa (some 29) (.call {callee:=.builtin .append,args:=#[.tmp 27,.tmp 28],argTypes:=#[54,54]}) ?_);go_must (refine bO rfl aq aU Z hm HO.out (by intro r hr;cases hr) rfl rfl HZL.out.symm (fun h0=>⟨gs,0,rfl,by obtain ⟨p1,c1,e1,_,h1⟩:=SlOld.mem HZO.out hm;simp only [Value.slice.injEq] at e1;obtain ⟨b2,o2,e2,h2⟩:=h1 h0;rw [←e1.1] at e2;simp only [Option.some.injEq,Addr.mk.injEq,and_true] at e2;rw [e2.1,e2.2];exact h2⟩) (by rw [aw,HZL.out];omega) ?_);clear hm HO;intro v5 w5 ho hm;have HO5:Hid (OwnB 5 w5 ws.heap.size v5 (be8 gen++Z)):=ho;clear ho)
     | (go_at_call 115;refine (aK (be8 gen++Z) _ 512 506 HYL.out (by omega) _ (OwnB.old HO5.out)).mono ?_;rintro e w6 ⟨g9,rfl,hge,hr,hb⟩;have HGE:Hid _:=Nat.le_trans (Nat.le_trans HBS.out.size hm.size) hge;rw [HPE.out ()] at hr;have HR9:Hid _:=hr;have HB9:Hid (Below w.heap.size w w6):=HBS.out.trans ((hm.below.trans (hb.mono hm.size)).mono HBS.out.size);clear hge hr hb))
    go_ret
    exact ⟨g9,rfl,HGE.out,HR9.out,HB9.out⟩
   ·refine aL 7 rfl rfl ?_
    intro K hK
    go_wp2_with (go_at_call 115;refine (aK T _ 482 tl HTL.out (by omega) _ (SlOld.mem HT9.out hm)).mono ?_;rintro e wx3 ⟨gF,rfl,hge,hr,hb⟩;rw [HTX.out (),HXE.out ()] at hr;replace hm:=hm.callNew hb hr hge;clear hb hr hge)
    refine hK _ _ hm.tail.tail ?_
    clear hK K
    refine aO 5 (by kernel_rfl) rfl rfl ?_
    intro K hK
    replace hm:=hm.swap
    refine dn labPage rfl aq cf rfl rfl hm ?_
    clear hm
    intro wx4 hm hs
    have HA:Hid (SlOld wx4 (.slice (some ⟨gA,0,none⟩) 4 4) labPage):=hs
    clear hs
    refine wpList_nil ?_
    refine hK _ _ hm.tail ?_
    clear hK K
    refine aO 8 (by kernel_rfl) rfl rfl ?_
    intro K hK
    go_wp2_with (go_at_call 123;refine (eO ks ns labPage X _ _ hkl HNL.out HKB.out HNB.out aY HXB.out (by decide) (by rw [HXL.out];omega) _ (Tab.mem HT3.out hm (by simp)) (QTab.mem HQ3.out hm (by simp)) HA.out (aE (hm.get 0 rfl) HXL.out (Nat.le_refl _))).mono ?_;rintro e ws ⟨gs,cp,ls,he,hcp,hgs,hrs,hb⟩;rw [HXL.out] at he hcp;subst he;have HRS:Hid (Row ws gs (u8s (sealOf ks ns labPage X)++ls) 5):=hrs;replace hm:=hm.callNew hb hrs hgs;clear hb hrs hgs)
    refine hK _ _ hm.tail.tail ?_
    clear hK K
    refine aT 9 (v:=.slice (some ⟨gs,0,none⟩) (482+16) cp) rfl (by kernel_rfl) rfl (fun W _=>by go_simp) hm.tail.tail ?_
    go_simp
    refine wpAnyH_done (by kernel_rfl) ?_ _
    simp only [endsIn]
    have HZO:Hid (SlOld ws (.slice (some ⟨gs,0,none⟩) (482+16) cp) Z):=⟨_,cp,by rw [HZL.out],by rw [HZL.out];exact hcp,fun _=>⟨gs,0,rfl,by rw [←HZE.out ()];exact eP HRS.out⟩⟩
    have HBS:Hid (Below w.heap.size w ws):=HB3.out.trans (hm.below.mono HB3.out.size)
    clear hm HA HRS HB3 HGK HT3 HQ3 HT9
    have hm:=Mem.start ws
    go_wp2_with (first
     | (go_at_call 89;refine (d3 [] _ gen (by simp) _ ⟨none,0,rfl,Nat.le_refl _,fun h=>absurd h (by simp)⟩).mono ?_;rintro e wp ⟨gt2,rfl,hge,hr,hb⟩;rw [show ([]:List Int).length+8=8 from rfl];have HO:Hid (OwnB 5 wp ws.heap.size (.slice (some ⟨gt2,0,none⟩) 8 8) (be8 gen)):=dG (zs:=be8 gen) hr (Nat.le_trans hm.size hge) (by simp [aw]);replace hm:=hm.call hb;clear hb hr hge)
     | ((with_reducible refine aa (some 29) (.call {callee:=.builtin .append,args:=#[.tmp 27,.tmp 28],argTypes:=#[54,54]}) ?_);go_must (refine bO rfl aq aU Z hm HO.out (by intro r hr;cases hr) rfl rfl HZL.out.symm (fun h0=>⟨gs,0,rfl,by obtain ⟨p1,c1,e1,_,h1⟩:=SlOld.mem HZO.out hm;simp only [Value.slice.injEq] at e1;obtain ⟨b2,o2,e2,h2⟩:=h1 h0;rw [←e1.1] at e2;simp only [Option.some.injEq,Addr.mk.injEq,and_true] at e2;rw [e2.1,e2.2];exact h2⟩) (by rw [aw,HZL.out];omega) ?_);clear hm HO;intro v5 w5 ho hm;have HO5:Hid (OwnB 5 w5 ws.heap.size v5 (be8 gen++Z)):=ho;clear ho)
     | (go_at_call 115;refine (aK (be8 gen++Z) _ 512 506 HYL.out (by omega) _ (OwnB.old HO5.out)).mono ?_;rintro e w6 ⟨g9,rfl,hge,hr,hb⟩;have HGE:Hid _:=Nat.le_trans (Nat.le_trans HBS.out.size hm.size) hge;rw [HPE.out ()] at hr;have HR9:Hid _:=hr;have HB9:Hid (Below w.heap.size w w6):=HBS.out.trans ((hm.below.trans (hb.mono hm.size)).mono HBS.out.size);clear hge hr hb))
    go_ret
    exact ⟨g9,rfl,HGE.out,HR9.out,HB9.out⟩
  ·refine aL 7 rfl rfl ?_
   intro K hK
   go_wp2_with (go_at_call 115;refine (aK T _ 482 tl HTL.out (by omega) _ (SlOld.mem HT9.out hm)).mono ?_;rintro e wx2 ⟨gF,rfl,hge,hr,hb⟩;rw [HTX.out (),HXE.out ()] at hr;replace hm:=hm.callNew hb hr hge;clear hb hr hge)
   refine hK _ _ hm.tail ?_
   clear hK K
   refine aO 4 (by kernel_rfl) rfl rfl ?_
   intro K hK
   refine eH aq dN hm ?_
   clear hm
   intro wx3 gA hm hb
   refine wpList_nil ?_
   refine hK _ _ hm.tail.tail ?_
   clear hK K
   refine aO 5 (by kernel_rfl) rfl rfl ?_
   intro K hK
   refine dn labPage rfl aq cf rfl rfl hm ?_
   clear hm
   intro wx4 hm hs
   have HA:Hid (SlOld wx4 (.slice (some ⟨gA,0,none⟩) 4 4) labPage):=hs
   clear hs
   refine wpList_nil ?_
   refine hK _ _ hm.tail ?_
   clear hK K
   refine aO 8 (by kernel_rfl) rfl rfl ?_
   intro K hK
   go_wp2_with (go_at_call 123;refine (eO ks ns labPage X _ _ hkl HNL.out HKB.out HNB.out aY HXB.out (by decide) (by rw [HXL.out];omega) _ (Tab.mem HT3.out hm (by simp)) (QTab.mem HQ3.out hm (by simp)) HA.out (aE (hm.get 0 rfl) HXL.out (Nat.le_refl _))).mono ?_;rintro e ws ⟨gs,cp,ls,he,hcp,hgs,hrs,hb⟩;rw [HXL.out] at he hcp;subst he;have HRS:Hid (Row ws gs (u8s (sealOf ks ns labPage X)++ls) 5):=hrs;replace hm:=hm.callNew hb hrs hgs;clear hb hrs hgs)
   refine hK _ _ hm.tail.tail ?_
   clear hK K
   refine aT 9 (v:=.slice (some ⟨gs,0,none⟩) (482+16) cp) rfl (by kernel_rfl) rfl (fun W _=>by go_simp) hm.tail.tail ?_
   go_simp
   refine wpAnyH_done (by kernel_rfl) ?_ _
   simp only [endsIn]
   have HZO:Hid (SlOld ws (.slice (some ⟨gs,0,none⟩) (482+16) cp) Z):=⟨_,cp,by rw [HZL.out],by rw [HZL.out];exact hcp,fun _=>⟨gs,0,rfl,by rw [←HZE.out ()];exact eP HRS.out⟩⟩
   have HBS:Hid (Below w.heap.size w ws):=HB3.out.trans (hm.below.mono HB3.out.size)
   clear hm HA HRS HB3 HGK HT3 HQ3 HT9
   have hm:=Mem.start ws
   go_wp2_with (first
    | (go_at_call 89;refine (d3 [] _ gen (by simp) _ ⟨none,0,rfl,Nat.le_refl _,fun h=>absurd h (by simp)⟩).mono ?_;rintro e wp ⟨gt2,rfl,hge,hr,hb⟩;rw [show ([]:List Int).length+8=8 from rfl];have HO:Hid (OwnB 5 wp ws.heap.size (.slice (some ⟨gt2,0,none⟩) 8 8) (be8 gen)):=dG (zs:=be8 gen) hr (Nat.le_trans hm.size hge) (by simp [aw]);replace hm:=hm.call hb;clear hb hr hge)
    | ((with_reducible refine aa (some 29) (.call {callee:=.builtin .append,args:=#[.tmp 27,.tmp 28],argTypes:=#[54,54]}) ?_);go_must (refine bO rfl aq aU Z hm HO.out (by intro r hr;cases hr) rfl rfl HZL.out.symm (fun h0=>⟨gs,0,rfl,by obtain ⟨p1,c1,e1,_,h1⟩:=SlOld.mem HZO.out hm;simp only [Value.slice.injEq] at e1;obtain ⟨b2,o2,e2,h2⟩:=h1 h0;rw [←e1.1] at e2;simp only [Option.some.injEq,Addr.mk.injEq,and_true] at e2;rw [e2.1,e2.2];exact h2⟩) (by rw [aw,HZL.out];omega) ?_);clear hm HO;intro v5 w5 ho hm;have HO5:Hid (OwnB 5 w5 ws.heap.size v5 (be8 gen++Z)):=ho;clear ho)
    | (go_at_call 115;refine (aK (be8 gen++Z) _ 512 506 HYL.out (by omega) _ (OwnB.old HO5.out)).mono ?_;rintro e w6 ⟨g9,rfl,hge,hr,hb⟩;have HGE:Hid _:=Nat.le_trans (Nat.le_trans HBS.out.size hm.size) hge;rw [HPE.out ()] at hr;have HR9:Hid _:=hr;have HB9:Hid (Below w.heap.size w w6):=HBS.out.trans ((hm.below.trans (hb.mono hm.size)).mono HBS.out.size);clear hge hr hb))
   go_ret
   exact ⟨g9,rfl,HGE.out,HR9.out,HB9.out⟩
 ·refine aL 4 rfl rfl ?_
  intro K hK
  refine eH aq dN hm ?_
  clear hm
  intro wx1 gA hm hb
  refine wpList_nil ?_
  refine hK _ _ hm.tail ?_
  clear hK K
  refine wpAnyH_all (rs:=[3,5]) (by kernel_rfl) (by simp) ?_
  intro i hi
  simp only [List.mem_cons,List.not_mem_nil,or_false] at hi
  rcases hi with rfl|rfl
  ·refine aL 3 rfl rfl ?_
   intro K hK
   go_wp2_with (go_at_call 178;refine (cY id_ gen hid _).mono ?_;rintro e wx2 ⟨he,hb⟩;rw [HNS.out ()] at he;subst he;replace hm:=hm.call hb;clear hb)
   refine hK _ _ hm.tail ?_
   clear hK K
   refine wpAnyH_all (rs:=[5,7]) (by kernel_rfl) (by simp) ?_
   intro i hi
   simp only [List.mem_cons,List.not_mem_nil,or_false] at hi
   rcases hi with rfl|rfl
   ·refine aL 5 rfl rfl ?_
    intro K hK
    refine dn labPage rfl aq cf rfl rfl hm ?_
    clear hm
    intro wx3 hm hs
    have HA:Hid (SlOld wx3 (.slice (some ⟨gA,0,none⟩) 4 4) labPage):=hs
    clear hs
    refine wpList_nil ?_
    refine hK _ _ hm ?_
    clear hK K
    refine aO 7 (by kernel_rfl) rfl rfl ?_
    intro K hK
    go_wp2_with (go_at_call 115;refine (aK T _ 482 tl HTL.out (by omega) _ (SlOld.mem HT9.out hm)).mono ?_;rintro e wx4 ⟨gF,rfl,hge,hr,hb⟩;have HA:Hid (SlOld wx4 (.slice (some ⟨gA,0,none⟩) 4 4) labPage):=SlOld.bel HA.out hb;rw [HTX.out (),HXE.out ()] at hr;replace hm:=hm.callNew hb hr hge;clear hb hr hge)
    refine hK _ _ hm.tail ?_
    clear hK K
    refine aO 8 (by kernel_rfl) rfl rfl ?_
    intro K hK
    go_wp2_with (go_at_call 123;refine (eO ks ns labPage X _ _ hkl HNL.out HKB.out HNB.out aY HXB.out (by decide) (by rw [HXL.out];omega) _ (Tab.mem HT3.out hm (by simp)) (QTab.mem HQ3.out hm (by simp)) HA.out (aE (hm.get 0 rfl) HXL.out (Nat.le_refl _))).mono ?_;rintro e ws ⟨gs,cp,ls,he,hcp,hgs,hrs,hb⟩;rw [HXL.out] at he hcp;subst he;have HRS:Hid (Row ws gs (u8s (sealOf ks ns labPage X)++ls) 5):=hrs;replace hm:=hm.callNew hb hrs hgs;clear hb hrs hgs)
    refine hK _ _ hm.tail.tail ?_
    clear hK K
    refine aT 9 (v:=.slice (some ⟨gs,0,none⟩) (482+16) cp) rfl (by kernel_rfl) rfl (fun W _=>by go_simp) hm.tail.tail ?_
    go_simp
    refine wpAnyH_done (by kernel_rfl) ?_ _
    simp only [endsIn]
    have HZO:Hid (SlOld ws (.slice (some ⟨gs,0,none⟩) (482+16) cp) Z):=⟨_,cp,by rw [HZL.out],by rw [HZL.out];exact hcp,fun _=>⟨gs,0,rfl,by rw [←HZE.out ()];exact eP HRS.out⟩⟩
    have HBS:Hid (Below w.heap.size w ws):=HB3.out.trans (hm.below.mono HB3.out.size)
    clear hm HA HRS HB3 HGK HT3 HQ3 HT9
    have hm:=Mem.start ws
    go_wp2_with (first
     | (go_at_call 89;refine (d3 [] _ gen (by simp) _ ⟨none,0,rfl,Nat.le_refl _,fun h=>absurd h (by simp)⟩).mono ?_;rintro e wp ⟨gt2,rfl,hge,hr,hb⟩;rw [show ([]:List Int).length+8=8 from rfl];have HO:Hid (OwnB 5 wp ws.heap.size (.slice (some ⟨gt2,0,none⟩) 8 8) (be8 gen)):=dG (zs:=be8 gen) hr (Nat.le_trans hm.size hge) (by simp [aw]);replace hm:=hm.call hb;clear hb hr hge)
     | ((with_reducible refine aa (some 29) (.call {callee:=.builtin .append,args:=#[.tmp 27,.tmp 28],argTypes:=#[54,54]}) ?_);go_must (refine bO rfl aq aU Z hm HO.out (by intro r hr;cases hr) rfl rfl HZL.out.symm (fun h0=>⟨gs,0,rfl,by obtain ⟨p1,c1,e1,_,h1⟩:=SlOld.mem HZO.out hm;simp only [Value.slice.injEq] at e1;obtain ⟨b2,o2,e2,h2⟩:=h1 h0;rw [←e1.1] at e2;simp only [Option.some.injEq,Addr.mk.injEq,and_true] at e2;rw [e2.1,e2.2];exact h2⟩) (by rw [aw,HZL.out];omega) ?_);clear hm HO;intro v5 w5 ho hm;have HO5:Hid (OwnB 5 w5 ws.heap.size v5 (be8 gen++Z)):=ho;clear ho)
     | (go_at_call 115;refine (aK (be8 gen++Z) _ 512 506 HYL.out (by omega) _ (OwnB.old HO5.out)).mono ?_;rintro e w6 ⟨g9,rfl,hge,hr,hb⟩;have HGE:Hid _:=Nat.le_trans (Nat.le_trans HBS.out.size hm.size) hge;rw [HPE.out ()] at hr;have HR9:Hid _:=hr;have HB9:Hid (Below w.heap.size w w6):=HBS.out.trans ((hm.below.trans (hb.mono hm.size)).mono HBS.out.size);clear hge hr hb))
    go_ret
    exact ⟨g9,rfl,HGE.out,HR9.out,HB9.out⟩
   ·refine aL 7 rfl rfl ?_
    intro K hK
    go_wp2_with (go_at_call 115;refine (aK T _ 482 tl HTL.out (by omega) _ (SlOld.mem HT9.out hm)).mono ?_;rintro e wx3 ⟨gF,rfl,hge,hr,hb⟩;rw [HTX.out (),HXE.out ()] at hr;replace hm:=hm.callNew hb hr hge;clear hb hr hge)
    refine hK _ _ hm.tail.tail ?_
    clear hK K
    refine aO 5 (by kernel_rfl) rfl rfl ?_
    intro K hK
    replace hm:=hm.swap
    refine dn labPage rfl aq cf rfl rfl hm ?_
    clear hm
    intro wx4 hm hs
    have HA:Hid (SlOld wx4 (.slice (some ⟨gA,0,none⟩) 4 4) labPage):=hs
    clear hs
    refine wpList_nil ?_
    refine hK _ _ hm.tail ?_
    clear hK K
    refine aO 8 (by kernel_rfl) rfl rfl ?_
    intro K hK
    go_wp2_with (go_at_call 123;refine (eO ks ns labPage X _ _ hkl HNL.out HKB.out HNB.out aY HXB.out (by decide) (by rw [HXL.out];omega) _ (Tab.mem HT3.out hm (by simp)) (QTab.mem HQ3.out hm (by simp)) HA.out (aE (hm.get 0 rfl) HXL.out (Nat.le_refl _))).mono ?_;rintro e ws ⟨gs,cp,ls,he,hcp,hgs,hrs,hb⟩;rw [HXL.out] at he hcp;subst he;have HRS:Hid (Row ws gs (u8s (sealOf ks ns labPage X)++ls) 5):=hrs;replace hm:=hm.callNew hb hrs hgs;clear hb hrs hgs)
    refine hK _ _ hm.tail.tail ?_
    clear hK K
    refine aT 9 (v:=.slice (some ⟨gs,0,none⟩) (482+16) cp) rfl (by kernel_rfl) rfl (fun W _=>by go_simp) hm.tail.tail ?_
    go_simp
    refine wpAnyH_done (by kernel_rfl) ?_ _
    simp only [endsIn]
    have HZO:Hid (SlOld ws (.slice (some ⟨gs,0,none⟩) (482+16) cp) Z):=⟨_,cp,by rw [HZL.out],by rw [HZL.out];exact hcp,fun _=>⟨gs,0,rfl,by rw [←HZE.out ()];exact eP HRS.out⟩⟩
    have HBS:Hid (Below w.heap.size w ws):=HB3.out.trans (hm.below.mono HB3.out.size)
    clear hm HA HRS HB3 HGK HT3 HQ3 HT9
    have hm:=Mem.start ws
    go_wp2_with (first
     | (go_at_call 89;refine (d3 [] _ gen (by simp) _ ⟨none,0,rfl,Nat.le_refl _,fun h=>absurd h (by simp)⟩).mono ?_;rintro e wp ⟨gt2,rfl,hge,hr,hb⟩;rw [show ([]:List Int).length+8=8 from rfl];have HO:Hid (OwnB 5 wp ws.heap.size (.slice (some ⟨gt2,0,none⟩) 8 8) (be8 gen)):=dG (zs:=be8 gen) hr (Nat.le_trans hm.size hge) (by simp [aw]);replace hm:=hm.call hb;clear hb hr hge)
     | ((with_reducible refine aa (some 29) (.call {callee:=.builtin .append,args:=#[.tmp 27,.tmp 28],argTypes:=#[54,54]}) ?_);go_must (refine bO rfl aq aU Z hm HO.out (by intro r hr;cases hr) rfl rfl HZL.out.symm (fun h0=>⟨gs,0,rfl,by obtain ⟨p1,c1,e1,_,h1⟩:=SlOld.mem HZO.out hm;simp only [Value.slice.injEq] at e1;obtain ⟨b2,o2,e2,h2⟩:=h1 h0;rw [←e1.1] at e2;simp only [Option.some.injEq,Addr.mk.injEq,and_true] at e2;rw [e2.1,e2.2];exact h2⟩) (by rw [aw,HZL.out];omega) ?_);clear hm HO;intro v5 w5 ho hm;have HO5:Hid (OwnB 5 w5 ws.heap.size v5 (be8 gen++Z)):=ho;clear ho)
     | (go_at_call 115;refine (aK (be8 gen++Z) _ 512 506 HYL.out (by omega) _ (OwnB.old HO5.out)).mono ?_;rintro e w6 ⟨g9,rfl,hge,hr,hb⟩;have HGE:Hid _:=Nat.le_trans (Nat.le_trans HBS.out.size hm.size) hge;rw [HPE.out ()] at hr;have HR9:Hid _:=hr;have HB9:Hid (Below w.heap.size w w6):=HBS.out.trans ((hm.below.trans (hb.mono hm.size)).mono HBS.out.size);clear hge hr hb))
    go_ret
    exact ⟨g9,rfl,HGE.out,HR9.out,HB9.out⟩
  ·refine aL 5 rfl rfl ?_
   intro K hK
   refine dn labPage rfl aq cf rfl rfl hm ?_
   clear hm
   intro wx2 hm hs
   have HA:Hid (SlOld wx2 (.slice (some ⟨gA,0,none⟩) 4 4) labPage):=hs
   clear hs
   refine wpList_nil ?_
   refine hK _ _ hm ?_
   clear hK K
   refine aO 3 (by kernel_rfl) rfl rfl ?_
   intro K hK
   go_wp2_with (go_at_call 178;refine (cY id_ gen hid _).mono ?_;rintro e wx3 ⟨he,hb⟩;rw [HNS.out ()] at he;subst he;have HA:Hid (SlOld wx3 (.slice (some ⟨gA,0,none⟩) 4 4) labPage):=SlOld.bel HA.out hb;replace hm:=hm.call hb;clear hb)
   refine hK _ _ hm ?_
   clear hK K
   refine aO 7 (by kernel_rfl) rfl rfl ?_
   intro K hK
   go_wp2_with (go_at_call 115;refine (aK T _ 482 tl HTL.out (by omega) _ (SlOld.mem HT9.out hm)).mono ?_;rintro e wx4 ⟨gF,rfl,hge,hr,hb⟩;have HA:Hid (SlOld wx4 (.slice (some ⟨gA,0,none⟩) 4 4) labPage):=SlOld.bel HA.out hb;rw [HTX.out (),HXE.out ()] at hr;replace hm:=hm.callNew hb hr hge;clear hb hr hge)
   refine hK _ _ hm.tail ?_
   clear hK K
   refine aO 8 (by kernel_rfl) rfl rfl ?_
   intro K hK
   go_wp2_with (go_at_call 123;refine (eO ks ns labPage X _ _ hkl HNL.out HKB.out HNB.out aY HXB.out (by decide) (by rw [HXL.out];omega) _ (Tab.mem HT3.out hm (by simp)) (QTab.mem HQ3.out hm (by simp)) HA.out (aE (hm.get 0 rfl) HXL.out (Nat.le_refl _))).mono ?_;rintro e ws ⟨gs,cp,ls,he,hcp,hgs,hrs,hb⟩;rw [HXL.out] at he hcp;subst he;have HRS:Hid (Row ws gs (u8s (sealOf ks ns labPage X)++ls) 5):=hrs;replace hm:=hm.callNew hb hrs hgs;clear hb hrs hgs)
   refine hK _ _ hm.tail.tail ?_
   clear hK K
   refine aT 9 (v:=.slice (some ⟨gs,0,none⟩) (482+16) cp) rfl (by kernel_rfl) rfl (fun W _=>by go_simp) hm.tail.tail ?_
   go_simp
   refine wpAnyH_done (by kernel_rfl) ?_ _
   simp only [endsIn]
   have HZO:Hid (SlOld ws (.slice (some ⟨gs,0,none⟩) (482+16) cp) Z):=⟨_,cp,by rw [HZL.out],by rw [HZL.out];exact hcp,fun _=>⟨gs,0,rfl,by rw [←HZE.out ()];exact eP HRS.out⟩⟩
   have HBS:Hid (Below w.heap.size w ws):=HB3.out.trans (hm.below.mono HB3.out.size)
   clear hm HA HRS HB3 HGK HT3 HQ3 HT9
   have hm:=Mem.start ws
   go_wp2_with (first
    | (go_at_call 89;refine (d3 [] _ gen (by simp) _ ⟨none,0,rfl,Nat.le_refl _,fun h=>absurd h (by simp)⟩).mono ?_;rintro e wp ⟨gt2,rfl,hge,hr,hb⟩;rw [show ([]:List Int).length+8=8 from rfl];have HO:Hid (OwnB 5 wp ws.heap.size (.slice (some ⟨gt2,0,none⟩) 8 8) (be8 gen)):=dG (zs:=be8 gen) hr (Nat.le_trans hm.size hge) (by simp [aw]);replace hm:=hm.call hb;clear hb hr hge)
    | ((with_reducible refine aa (some 29) (.call {callee:=.builtin .append,args:=#[.tmp 27,.tmp 28],argTypes:=#[54,54]}) ?_);go_must (refine bO rfl aq aU Z hm HO.out (by intro r hr;cases hr) rfl rfl HZL.out.symm (fun h0=>⟨gs,0,rfl,by obtain ⟨p1,c1,e1,_,h1⟩:=SlOld.mem HZO.out hm;simp only [Value.slice.injEq] at e1;obtain ⟨b2,o2,e2,h2⟩:=h1 h0;rw [←e1.1] at e2;simp only [Option.some.injEq,Addr.mk.injEq,and_true] at e2;rw [e2.1,e2.2];exact h2⟩) (by rw [aw,HZL.out];omega) ?_);clear hm HO;intro v5 w5 ho hm;have HO5:Hid (OwnB 5 w5 ws.heap.size v5 (be8 gen++Z)):=ho;clear ho)
    | (go_at_call 115;refine (aK (be8 gen++Z) _ 512 506 HYL.out (by omega) _ (OwnB.old HO5.out)).mono ?_;rintro e w6 ⟨g9,rfl,hge,hr,hb⟩;have HGE:Hid _:=Nat.le_trans (Nat.le_trans HBS.out.size hm.size) hge;rw [HPE.out ()] at hr;have HR9:Hid _:=hr;have HB9:Hid (Below w.heap.size w w6):=HBS.out.trans ((hm.below.trans (hb.mono hm.size)).mono HBS.out.size);clear hge hr hb))
   go_ret
   exact ⟨g9,rfl,HGE.out,HR9.out,HB9.out⟩
open Go Go.RowKit Go.Maps
theorem lX:(Tryz.prog.info? 108).map (fun i=>(i.zero,i.size))=some (some (.agg (u8s (List.replicate 96 0)).toArray),96):=by kernel_rfl
theorem zero_kys:∀w,(zeroValue 108).run Tryz.prog w=.ok (.agg (u8s (List.replicate 96 0)).toArray) w:=(zero_of_info lX).1
theorem iu:(Tryz.prog.info? 108).map (·.size)=some 96:=(zero_of_info lX).2
theorem jq:∃fs,Tryz.prog.underlying 108=some (.struct fs):=⟨_,Tryz.underlying108⟩
theorem kt (off:Nat):∀(cs:List Value) (k:Nat) (L:List Value),off+k+cs.length≤L.length→(cs.zipIdx k).foldl (fun (A:Array Value) (x:Value×Nat)=>A.setIfInBounds (off+x.2) x.1) L.toArray=(splice L (off+k) cs).toArray
 | [],k,L,_=>by simp [splice]
 | c::cs,k,L,h=>by
  have hl:off+k<L.length:=by simp at h;omega
  obtain ⟨X,y,Z,rfl,hX⟩:∃X y Z,L=X++y::Z∧X.length=off+k:=⟨L.take (off+k),L[off+k],L.drop (off+k+1),by simp,by simp;omega⟩
  have e0:(X++y::Z).set (off+k) c=X++c::Z:=by
   rw [List.set_append_right _ _ (by omega),hX,Nat.sub_self]
   rfl
  have e1:splice (X++c::Z) (off+(k+1)) cs=X++c::(cs++Z.drop cs.length):=by
   rw [show X++c::Z=(X++[c])++Z by simp]
   unfold splice
   rw [List.take_append_of_le_length (by simp;omega),List.take_of_length_le (by simp;omega),List.drop_append,List.drop_of_length_le (by simp;omega),List.nil_append,show off+(k+1)+cs.length - (X++[c]).length=cs.length by simp;omega]
   simp
  have e2:splice (X++y::Z) (off+k) (c::cs)=X++c::(cs++Z.drop cs.length):=by
   unfold splice
   rw [List.take_append_of_le_length (by omega),List.take_of_length_le (by omega),List.drop_append,List.drop_of_length_le (by simp;omega),List.nil_append,show off+k+(c::cs).length - X.length=cs.length+1 by simp;omega]
   simp
  rw [List.zipIdx_cons,List.foldl_cons,List.setIfInBounds_toArray,e0,kt off cs (k+1) (X++c::Z) (by simp at h ⊢;omega),e1,e2]
theorem j4 (place:Nat→Option (Nat×Nat)) (L:List Value) (i off:Nat) (cs:List Value) (rest:List (Nat×Value)) (hp:place i=some (off,cs.length)) (hl:off+cs.length≤L.length) :
  Instr.fill place L.toArray ((i,.agg cs.toArray)::rest)=Instr.fill place (splice L off cs).toArray rest:=by
 have h9:=kt off cs 0 L (by omega)
 rw [Nat.add_zero] at h9
 show (match place i with|none=>none|some (o,s)=>if (cs.toArray.size≠s||o+cs.toArray.size > L.toArray.size)=true then none else Instr.fill place (cs.toArray.zipIdx.foldl (fun (A:Array Value) (x:Value×Nat)=>A.setIfInBounds (o+x.2) x.1) L.toArray) rest)=_
 rw [hp]
 simp only
 rw [if_neg (by simp;omega)]
 congr 1
 rw [←h9,←Array.foldl_toList]
 simp
theorem dQ (X Y cs:List Value) (off:Nat) (hX:X.length=off):splice (X++Y) off cs=X++(cs++Y.drop cs.length):=by
 subst hX
 unfold splice
 rw [List.take_left,List.drop_append,List.drop_of_length_le (by omega),List.nil_append,Nat.add_sub_cancel_left]
theorem pl_kys:(match Tryz.prog.underlying 108 with|some (.struct fs)=>fs.toList.mapM (fun f=>(Tryz.prog.info? f.type).map fun i=>(f.offset,i.size))|_=>none)=some [(0,32),(32,32),(64,32)]:=by kernel_rfl
theorem jF {P:Program} {T:TypeId} {fs:Array Field} {it:TypeInfo} {z:Value} {places:List (Nat×Nat)} (parts:List (Nat×Value)) (hit:P.info? T=some it) (hu:P.underlying T=some (.struct fs)) (hz:it.zero=some z) (hp:fs.toList.mapM (fun f=>(P.info? f.type).map fun i=>(f.offset,i.size))=some places) :
  P.built T parts=Instr.fill (places.toArray[·]?) z.cells parts:=by
 unfold Program.built
 rw [hit,hu]
 simp only [hz,hp]
theorem built_kys (A B C:List Int) (hA:A.length=32) (hB:B.length=32) (hC:C.length=32):Tryz.prog.built 108 [(0,.agg (u8s A).toArray),(1,.agg (u8s B).toArray),(2,.agg (u8s C).toArray)]=some (u8s (A++(B++C))).toArray:=by
 have h1:=lX
 cases hit:Tryz.prog.info? 108 with
 | none=>simp [hit] at h1
 | some it =>
  obtain ⟨fs,hu⟩:=jq
  have h2:=pl_kys
  rw [hu] at h2
  simp only [hit,Option.map_some,Option.some.injEq,Prod.mk.injEq] at h1
  rw [jF _ hit hu h1.1 h2]
  show Instr.fill _ (u8s (List.replicate 96 0)).toArray _=_
  have lA:(u8s A).length=32:=by rw [ab,hA]
  have lB:(u8s B).length=32:=by rw [ab,hB]
  have lC:(u8s C).length=32:=by rw [ab,hC]
  rw [j4 _ _ 0 0 (u8s A) _ (by rw [lA];rfl) (by rw [lA,ab];simp),j4 _ _ 1 32 (u8s B) _ (by rw [lB];rfl) (by simp [splice,lA,lB,ab]),j4 _ _ 2 64 (u8s C) _ (by rw [lC];rfl) (by simp [splice,lA,lB,lC,ab])]
  show some _=some _
  congr 2
  have e1:=dQ [] (u8s (List.replicate 96 0)) (u8s A) 0 rfl
  rw [List.nil_append] at e1
  rw [e1,List.nil_append,dQ (u8s A) _ (u8s B) 32 lA,←List.append_assoc,dQ (u8s A++u8s B) _ (u8s C) 64 (by simp [lA,lB]),lA,lB,lC,List.drop_drop,List.drop_drop,List.drop_of_length_le (by rw [ab];simp),List.append_nil,List.append_assoc]
  simp [u8s]
theorem fe {P:Program} {a:Act} {w:World} {dst:Option Tmp} {typ:TypeId} {pos:String} {aft:Array Edge} {gd:Option (Nat×Bool)} {t:TypeId} {xs:Array (Nat×Operand)} (l:List Value) (vs:List (Nat×Value)) (hv:(xs.map fun q=>(q.1,a.eval q.2)).toList=vs) (hb:P.built t vs=some l.toArray) :
  (execOp a.eval {dst:=dst,op:=.build t xs,type:=typ,pos:=pos,after:=aft,guard:=gd}).run P w=.ok (.value (.agg l.toArray)) w:=by
 have e:(xs.map fun (i,x)=>(i,a.eval x)).toList=vs:=hv
 unfold execOp
 simp only [Sem.run_bind,run_build w t _ l.toArray (by rw [e];exact hb),Result.andThen_ok,Sem.run_pure]
theorem strB_page:strB {data:=#[112,97,103,101]}=labPage:=rfl
theorem mr:strB {data:=#[115,117,112,101,114]}=labSuper:=rfl
theorem keysOf_any (ks:List Int) (hkl:ks.length=32) (hkb:Bytes ks) (w:World) (ht:Tab w) :
  Calls Tryz.prog 43 #[.agg (u8s ks).toArray] w fun e w'=>e=.returned (.agg (u8s (deriveOf ks labPage 0++(deriveOf ks labSuper 0++deriveOf ks labSuper 1))).toArray)∧Below w.heap.size w w':=by
 have HT:Hid (Tab w):=ht
 have HKB:Hid (Bytes ks):=hkb
 have HKU:Hid ((u8s ks).length=32):=by show _=_;rw [ab,hkl]
 have hm:=Mem.start w
 obtain ⟨A,hA⟩:∃A,A=deriveOf ks labPage 0:=⟨_,rfl⟩
 obtain ⟨B,hB⟩:∃B,B=deriveOf ks labSuper 0:=⟨_,rfl⟩
 obtain ⟨C,hC⟩:∃C,C=deriveOf ks labSuper 1:=⟨_,rfl⟩
 have HA:Hid (∀_:Unit,deriveOf ks labPage 0=A):=fun _=>hA.symm
 have HB:Hid (∀_:Unit,deriveOf ks labSuper 0=B):=fun _=>hB.symm
 have HC:Hid (∀_:Unit,deriveOf ks labSuper 1=C):=fun _=>hC.symm
 have HAL:Hid (A.length=32∧B.length=32∧C.length=32):=by show _∧_∧_;rw [hA,hB,hC];exact ⟨aW _ _,aW _ _,aW _ _⟩
 have HABL:Hid ((u8s (A++(B++C))).length=96):=by show _=_;rw [ab];simp [HAL.out.1,HAL.out.2.1,HAL.out.2.2]
 rw [←hA,←hB,←hC]
 clear ht hkb hA hB hC
 go_enter Tryz.func43,Tryz.ntmps43
 go_wp2_with (first
  | ((with_reducible refine aa (some 1) (.box 72 (.tmp 0)) ?_);refine ak (u8s ks) rfl hm ?_;clear hm;intro w1 gk hm)
  | ((with_reducible refine aa (some 2) (.alloc 108) ?_);refine af _ zero_kys hm ?_;clear hm;intro w2 gr hm))
 refine au ?_
 refine ap (T:=fun W=>Mem w [] W [(gk,u8s ks,72)]) (by kernel_rfl) hm ?_
 clear hm
 intro w3 hm
 refine aT 0 (v:=.agg (u8s ks).toArray) rfl (by kernel_rfl) rfl (fun W hW=>ao 0 _ (Mem.get hW 0 rfl) rfl _ a0 rfl 32 a9 (by rw [HKU.out];omega) (by rw [List.drop_zero,List.take_of_length_le (Nat.le_of_eq HKU.out)])) hm.tail ?_
 go_simp
 refine aT 2 (v:=.agg (u8s ks).toArray) rfl (by kernel_rfl) rfl (fun W hW=>ao 0 _ (Mem.get hW 0 rfl) rfl _ a0 rfl 32 a9 (by rw [HKU.out];omega) (by rw [List.drop_zero,List.take_of_length_le (Nat.le_of_eq HKU.out)])) hm.tail ?_
 go_simp
 refine aT 4 (v:=.agg (u8s ks).toArray) rfl (by kernel_rfl) rfl (fun W hW=>ao 0 _ (Mem.get hW 0 rfl) rfl _ a0 rfl 32 a9 (by rw [HKU.out];omega) (by rw [List.drop_zero,List.take_of_length_le (Nat.le_of_eq HKU.out)])) hm.tail ?_
 go_simp
 refine aO 1 (by kernel_rfl) rfl rfl ?_
 intro K hK
 go_wp2_with (go_at_call 72;refine (eR ks _ 0 hkl HKB.out (by decide) (by omega) _ (Tab.mem HT.out hm (by simp))).mono ?_;rintro e wd1 ⟨he,hb⟩;rw [strB_page,HA.out ()] at he;subst he;replace hm:=hm.call hb;clear hb)
 refine hK _ _ hm.tail ?_
 clear hK K
 refine aO 3 (by kernel_rfl) rfl rfl ?_
 intro K hK
 go_wp2_with (go_at_call 72;refine (eR ks _ 0 hkl HKB.out (by decide) (by omega) _ (Tab.mem HT.out hm (by simp))).mono ?_;rintro e wd3 ⟨he,hb⟩;rw [mr,HB.out ()] at he;subst he;replace hm:=hm.call hb;clear hb)
 refine hK _ _ hm.tail ?_
 clear hK K
 refine aO 5 (by kernel_rfl) rfl rfl ?_
 intro K hK
 go_wp2_with (go_at_call 72;refine (eR ks _ 1 hkl HKB.out (by decide) (by omega) _ (Tab.mem HT.out hm (by simp))).mono ?_;rintro e wd5 ⟨he,hb⟩;rw [mr,HC.out ()] at he;subst he;replace hm:=hm.call hb;clear hb)
 refine hK _ _ hm.tail ?_
 clear hK K
 refine aT 6 (v:=.agg (u8s (A++(B++C))).toArray) rfl (by kernel_rfl) rfl (fun W _=>fe _ _ (by first|rfl|simp [Act.eval]) (built_kys A B C HAL.out.1 HAL.out.2.1 HAL.out.2.2)) hm.tail ?_
 go_simp
 refine aO 7 (by kernel_rfl) rfl rfl ?_
 intro K hK
 refine ag 0 (u8s (A++(B++C))) hm rfl rfl rfl 96 iu rfl HABL.out (ar _) ?_
 clear hm
 intro wz hm
 refine wpList_nil ?_
 refine hK _ _ hm.tail ?_
 clear hK K
 refine wpAnyH_done (by kernel_rfl) ?_ _
 simp only [endsIn]
 go_wp2_with fail
 obtain ⟨fs,hfs⟩:=jq
 exact ay 0 hm rfl Tryz.results43 rfl _ hfs rfl 96 iu HABL.out rfl ⟨rfl,hm.below⟩
theorem ew (pages:Nat) (limit:Int) (hp:pages≤400) (w:World) :
  Calls Tryz.prog 124 #[.int .i64 (pages:Int),.int .u64 limit] w fun e w'=>∃g,e=.returned (.slice (some ⟨g,0,none⟩) 15 15)∧w.heap.size≤g∧Row w' g (u8s (aadN pages limit)) 5∧Below w.heap.size w w':=by
 have HW2:IntKind.u64.wrap (pages:Int)=(pages:Int):=ec pages (by omega)
 have hm:=Mem.start w
 go_enter Tryz.func124,Tryz.ntmps124
 go_wp2_with (first
  | ((with_reducible refine aa (some 7) (.convert 54 54 (.tmp 6)) ?_);go_must (refine wpl_cvc labSuper rfl aq cf rfl rfl hm ?_);clear hm;intro w6 ga hbx hm hs;have HA:Hid (SlOld w6 (.slice (some ⟨ga,0,none⟩) 5 5) labSuper):=hs;clear hbx hs))
 refine (d3 labSuper _ limit (by decide) _ HA.out).mono ?_
 rintro e w7 ⟨g7,rfl,hge,hr,hb⟩
 rw [show labSuper.length+8=13 from rfl]
 replace hm:=hm.callNew hb hr hge
 clear hb hr hge HA
 go_wp2_with fail
 refine (put_two (labSuper++be8 limit) _ (pages:Int) (by simp [labSuper,aw]) _ (aE (hm.get 0 rfl) rfl (Nat.le_refl _))).mono ?_
 rintro e w8 ⟨g8,rfl,hge,hr,hb⟩
 have HGE:Hid (w.heap.size≤g8):=Nat.le_trans hm.size hge
 have HR8:Hid (Row w8 g8 (u8s (aadN pages limit)) 5):=hr
 replace hm:=hm.call hb
 clear hb hr hge
 rw [show (labSuper++be8 limit).length+2=15 from rfl]
 go_wp2_with fail
 go_ret
 exact ⟨g8,rfl,HGE.out,HR8.out,hm.below⟩
open Go Go.RowKit Go.Maps
theorem ag_strP:∀w,(isAgg 9).run Tryz.prog w=.ok false w:=by intro w;simp [go_sem]
theorem OwnB.monoP {e:TypeId} {w:World} {b b':Nat} {v:Value} {zs:List Int} (h:OwnB e w b v zs) (hb:b'≤b):OwnB e w b' v zs:=by
 refine ⟨h.1,?_⟩
 rcases h.2 with hn|⟨g,cap,cur,hv,hg,rest⟩
 ·exact Or.inl hn
 ·exact Or.inr ⟨g,cap,cur,hv,Nat.le_trans hb hg,rest⟩
def supC (root:Int) (mt:ByteArray) (mv:Value):List Value:=[.int .u32 root,.string mt,mv]
theorem mK (K1 K2 K3 body:List Int) (pages:Nat) (limit:Int) (v mv:Value) (p:Sts) (hl1:K1.length=32) (hl2:K2.length=32) (hl3:K3.length=32) (hkc:Bytes K3) (hp:pages≤400) (hbl:body.length=263) (hbb:Bytes body) (w:World) (ht:Tab w) (hv:SlOld w v body) (hs:StV w mv p) :
  Calls Tryz.prog 122 #[.agg (u8s (K1++(K2++K3))).toArray,.int .i64 (pages:Int),.int .u64 limit,v,mv] w fun e w'=>e=.returned (.agg (u8s (nonN K3 pages limit body p)).toArray)∧Below w.heap.size w w':=by
 obtain ⟨q,cap,rfl,hc,hsg⟩:=hv
 rw [hbl] at hc hsg ⊢
 have HV:Hid (0<263→∃b off,q=some ⟨b,off,none⟩∧Seg w b off body):=hsg
 have HT:Hid (Tab w):=ht
 have HS:Hid (StV w mv p):=hs
 have HKC:Hid (Bytes K3):=hkc
 have HBL:Hid (body.length=263):=hbl
 have HBB:Hid (Bytes body):=hbb
 obtain ⟨KS,hKS⟩:∃KS,KS=K1++(K2++K3):=⟨_,rfl⟩
 have lK:∀K:List Int,K.length=32→(u8s K).length=32:=fun K h=>by rw [ab,h]
 have hKE:u8s KS=u8s K1++(u8s K2++u8s K3):=by rw [hKS];simp [u8s]
 have HKU:Hid ((u8s KS).length=96):=by show _=_;rw [hKE];simp [lK K1 hl1,lK K2 hl2,lK K3 hl3]
 have HK2:Hid (((u8s KS).drop 32).take 32=u8s K2):=by
  show _=_
  rw [hKE,List.drop_append,List.drop_of_length_le (by rw [lK K1 hl1];omega),List.nil_append,lK K1 hl1,Nat.sub_self,List.drop_zero,List.take_append_of_le_length (by rw [lK K2 hl2];omega),List.take_of_length_le (by rw [lK K2 hl2];omega)]
 have HK3:Hid (KS.drop 64=K3):=by
  show _=_
  rw [hKS,←List.append_assoc,List.drop_append,List.drop_of_length_le (by simp [hl1,hl2]),List.nil_append,show 64 - (K1++K2).length=0 by simp [hl1,hl2],List.drop_zero]
 have HLEN:Hid (∀k,k≤400→(aadN pages limit++body++gensB p k).length≤278+8 * k):=fun k _=>by
  have h9:=jI p k
  rw [List.length_append,List.length_append,bU,hbl]
  omega
 have HMB:Hid (Bytes (aadN pages limit++body++gensB p pages)):=((fZ _ _).append hbb).append (iA _ _)
 obtain ⟨SU,hSU⟩:∃SU,SU=macOf K3 (aadN pages limit++body++gensB p pages):=⟨_,rfl⟩
 have HSU:Hid (∀_:Unit,macOf K3 (aadN pages limit++body++gensB p pages)=SU):=fun _=>hSU.symm
 have HSUL:Hid (SU.length=32):=by rw [hSU];exact aW _ _
 have HSUU:Hid ((u8s SU).length=32):=by show _=_;rw [ab,HSUL.out]
 obtain ⟨ns,hns⟩:∃ns,ns=nonN K3 pages limit body p:=⟨_,rfl⟩
 have HNE:Hid (∀_:Unit,SU.take 12=ns):=fun _=>by rw [hns,hSU,nonN]
 have HNL:Hid (ns.length=12):=by rw [hns];exact ch _ _ _ _ _
 have HNU:Hid ((u8s ns).length=12):=by show _=_;rw [ab,HNL.out]
 have hm:=Mem.start w
 rw [←hKS,←hns]
 clear ht hs hsg hkc hbb hKS hKE lK hSU hns hbl
 go_enter Tryz.func122,Tryz.ntmps122
 go_wp2_with (first
  | ((with_reducible refine aa (some 5) (.box 108 (.tmp 0)) ?_);refine ak (u8s KS) rfl hm ?_;clear hm;intro w1 gk hm)
  | ((with_reducible refine aa (some 10) (.alloc 210) ?_);refine af _ gP hm ?_;clear hm;intro w2 gn hm)
  | (go_at_call 124;refine (ew pages limit hp _).mono ?_;rintro e w3 ⟨ga,rfl,hge,hr,hb⟩;have HO:Hid (OwnB 5 w3 w.heap.size (.slice (some ⟨ga,0,none⟩) 15 15) (aadN pages limit)):=dG (zs:=aadN pages limit) hr (Nat.le_trans hm.size hge) (by rw [bU];omega);replace hm:=hm.call hb;clear hb hr hge)
  | ((with_reducible refine aa (some 21) (.call {callee:=.builtin .append,args:=#[.tmp 19,.tmp 20],argTypes:=#[54,54]}) ?_);go_must (refine bO rfl aq aU body hm HO.out (by intro r hr;simp only [List.mem_cons,List.not_mem_nil,or_false] at hr;rcases hr with rfl|rfl<;>simp) rfl rfl HBL.out.symm (fun h0=>by obtain ⟨b,off,e,hs⟩:=HV.out (by omega);exact ⟨b,off,e,Seg.mem hs hm (by simp)⟩) (by rw [bU,HBL.out];omega) ?_);clear hm HO;intro v4 w4 ho hm;have HO:Hid (OwnB 5 w4 w.heap.size v4 (aadN pages limit++body)):=ho;clear ho))
 go_loopw [11,24] (fun va vi wr=>∃k:Nat,k≤pages∧vi=.int .u32 (k:Int)∧Hid (OwnB 5 wr w.heap.size va (aadN pages limit++body++gensB p k))∧Mem w [] wr [(gn,u8s (List.replicate 12 0),210),(gk,u8s KS,108)]) (fun _ vi _=>pages - (RowKit.intOf vi).toNat)
 case atStart=>exact ⟨0,by omega,rfl,by show OwnB _ _ _ _ _;rw [show gensB p 0=[] from rfl,List.append_nil];exact HO.out,hm⟩
 case round =>
  clear hm HO
  obtain ⟨k,hk,rfl,HO,hm⟩:=hrel
  by_cases hlt:k<pages
  ·have hki:(k:Int)<(pages:Int):=by omega
   have HK4:Hid (k<4294967296):=by show _<_;omega
   cases hpk:p k with
   | none =>
    have HPK:Hid (p k=none):=hpk
    have HCN:Hid (∀_:Unit,gensB p (k+1)=gensB p k):=fun _=>by rw [gensB,hpk]
    clear hpk
    go_wp2_with (first
     | (go_at_call 132;refine (cg (k:Int) _).mono ?_;rintro e w3 ⟨rfl,hb⟩;replace HO:Hid (OwnB 5 w3 w.heap.size u11 (aadN pages limit++body++gensB p k)):=OwnB.below HO.out hb;replace hm:=hm.call hb;clear hb)
     | ((with_reducible refine aa (some 31) (.lookup 104 (.tmp 28) (.tmp 30) true) ?_);go_must (refine ae (.tuple #[stV ((p k).getD 0),.bool (p k).isSome]) rfl (lh (StV.below HS.out hm.below) k HK4.out rfl rfl) ?_);rw [HPK.out])
     | ((with_reducible refine aa (some 13) (.alloc 162) ?_);refine az _ cC hm ?_;clear hm;intro w4 gs hb hm;replace HO:Hid (OwnB 5 w4 w.heap.size u11 (aadN pages limit++body++gensB p k)):=OwnB.below HO.out hb;clear hb)
     | ((with_reducible refine aa none (.store 162 (.tmp 13) (.tmp 32)) ?_);refine ag 0 (stC 0) (Mem.enter (hm.get 0 rfl)) rfl rfl rfl 1 dx rfl rfl (d4 _) ?_;intro w5 hq;replace HO:Hid (OwnB 5 w5 w.heap.size u11 (aadN pages limit++body++gensB p k)):=OwnB.upd HO.out (hm.get 0 rfl) (by decide) hq.toUpd;replace hm:Mem w [] w5 ((gs,stC 0,162)::[(gn,u8s (List.replicate 12 0),210),(gk,u8s KS,108)]):=hm.upd 0 rfl hq.toUpd (hq.get 0 rfl);clear hq))
    go_roundw
    case rel=>exact ⟨k+1,by omega,by go_num,by show OwnB _ _ _ _ _;rw [HCN.out ()];exact HO.out,hm.tail⟩
    case measure=>simp [RowKit.intOf];omega
   | some s =>
    have HPK:Hid (p k=some s):=hpk
    have HCN:Hid (∀_:Unit,gensB p (k+1)=gensB p k++be8 (s:Int)):=fun _=>by rw [gensB,hpk]
    clear hpk
    go_wp2_with (first
     | (go_at_call 132;refine (cg (k:Int) _).mono ?_;rintro e w3 ⟨rfl,hb⟩;replace HO:Hid (OwnB 5 w3 w.heap.size u11 (aadN pages limit++body++gensB p k)):=OwnB.below HO.out hb;replace hm:=hm.call hb;clear hb)
     | ((with_reducible refine aa (some 31) (.lookup 104 (.tmp 28) (.tmp 30) true) ?_);go_must (refine ae (.tuple #[stV ((p k).getD 0),.bool (p k).isSome]) rfl (lh (StV.below HS.out hm.below) k HK4.out rfl rfl) ?_);rw [HPK.out])
     | ((with_reducible refine aa (some 13) (.alloc 162) ?_);refine az _ cC hm ?_;clear hm;intro w4 gs hb hm;replace HO:Hid (OwnB 5 w4 w.heap.size u11 (aadN pages limit++body++gensB p k)):=OwnB.below HO.out hb;clear hb)
     | ((with_reducible refine aa none (.store 162 (.tmp 13) (.tmp 32)) ?_);refine ag 0 (stC s) (Mem.enter (hm.get 0 rfl)) rfl rfl rfl 1 dx rfl rfl (d4 _) ?_;intro w5 hq;replace HO:Hid (OwnB 5 w5 w.heap.size u11 (aadN pages limit++body++gensB p k)):=OwnB.upd HO.out (hm.get 0 rfl) (by decide) hq.toUpd;replace hm:Mem w [] w5 ((gs,stC s,162)::[(gn,u8s (List.replicate 12 0),210),(gk,u8s KS,108)]):=hm.upd 0 rfl hq.toUpd (hq.get 0 rfl);clear hq)
     | ((with_reducible refine aa (some 36) (.load 109 (.tmp 35)) ?_);refine ai 0 0 (.int .u64 (s:Int)) hm rfl rfl aI (rfl) ?_)
     | (go_at_call 89;refine (d3 [] _ (s:Int) (by simp) _ ⟨none,0,rfl,Nat.le_refl _,fun h=>absurd h (by simp)⟩).mono ?_;rintro e w6 ⟨gt,rfl,hge,hr,hb⟩;rw [show ([]:List Int).length+8=8 from rfl];have HX:Hid (Row w6 gt (u8s (be8 (s:Int))) 5):=hr;replace HO:Hid (OwnB 5 w6 w.heap.size u11 (aadN pages limit++body++gensB p k)):=OwnB.below HO.out hb;replace hm:=hm.call hb;clear hb hr hge)
     | ((with_reducible refine aa (some 40) (.call {callee:=.builtin .append,args:=#[.tmp 38,.tmp 39],argTypes:=#[54,54]}) ?_);go_must (refine bO rfl aq aU (be8 (s:Int)) hm HO.out (by intro r hr;simp only [List.mem_cons,List.not_mem_nil,or_false] at hr;rcases hr with rfl|rfl|rfl<;>simp) rfl rfl rfl (fun h0=>⟨gt,0,rfl,Seg.row HX.out⟩) (by have h9:=HLEN.out k (by omega);rw [aw];omega) ?_);clear hm HO HX;intro v7 w7 ho hm;have HO7:Hid (OwnB 5 w7 w.heap.size v7 ((aadN pages limit++body++gensB p k)++be8 (s:Int))):=ho;clear ho))
    go_roundw
    case rel=>exact ⟨k+1,by omega,by go_num,by show OwnB _ _ _ _ _;rw [HCN.out (),←List.append_assoc];exact HO7.out,hm.tail⟩
    case measure=>simp [RowKit.intOf];omega
  ·obtain rfl:k=pages:=by omega
   have hni:¬(k:Int)<(k:Int):=by omega
   go_wp2_with (first
    | ((with_reducible refine aa (some 43) (.slice 72 (.tmp 42) none none none) ?_);go_must (refine ae (.slice (some ⟨gk,64,none⟩) 32 32) rfl (iU 32 a0 av 0 32 (by omega) (by omega) rfl (Or.inr ⟨rfl,rfl⟩) (Or.inr ⟨rfl,rfl⟩)) ?_))
    | (go_at_call 169;refine (lu K3 (aadN k limit++body++gensB p k) _ _ HKC.out HMB.out (by omega) (by have h9:=HLEN.out k (by omega);omega) _ (Tab.mem HT.out hm (by simp)) ⟨_,32,by rw [hl3],by omega,fun _=>⟨gk,64,rfl,by have h9:=(Seg.row (hm.get 1 rfl)).drop 64;rw [HK3.out] at h9;exact h9⟩⟩ (OwnB.old HO.out)).mono ?_;rintro e w6 ⟨he,hb⟩;rw [HSU.out ()] at he;subst he;clear HO;replace hm:=hm.call hb;clear hb)
    | ((with_reducible refine aa (some 16) (.alloc 71) ?_);refine af _ ce hm ?_;clear hm;intro w7 gu hm)
    | ((with_reducible refine aa none (.store 71 (.tmp 16) (.tmp 45)) ?_);refine ag 0 (u8s SU) hm rfl rfl rfl 32 b5 (by simp [ab]) (HSUU.out) (ar _) ?_;clear hm;intro w8 hm)
    | ((with_reducible refine aa (some 46) (.slice 71 (.tmp 16) none (some (.const (.int .i64 12))) none) ?_);go_must (refine ae (.slice (some ⟨gu,0,none⟩) 12 32) rfl (iU 32 f0 av 0 12 (by omega) (by omega) rfl (Or.inr ⟨rfl,rfl⟩) (Or.inl rfl)) ?_))
    | ((with_reducible refine aa (some 47) (.sliceToArrayPointer 210 (.tmp 46)) ?_);go_must (refine fV 12 bx (by omega) rfl ?_))
    | ((with_reducible refine aa (some 48) (.load 210 (.tmp 47)) ?_);go_must (refine ae (.agg (u8s ns).toArray) rfl (jK ns rfl (by rw [←HNE.out ()];exact (Seg.row (hm.get 0 rfl)).take 12) _ bx rfl 12 bD HNL.out) ?_))
    | ((with_reducible refine aa none (.store 210 (.tmp 10) (.tmp 48)) ?_);refine ag 1 (u8s ns) hm rfl rfl rfl 12 bD (by simp [ab]) (HNU.out) (ar _) ?_;clear hm;intro w9 hm))
   exact ay 1 hm rfl Tryz.results122 rfl _ bx rfl 12 bD HNU.out rfl ⟨rfl,hm.below⟩
end Go.Proofs.YtmlbjfklaehjnaaGreatDoor
