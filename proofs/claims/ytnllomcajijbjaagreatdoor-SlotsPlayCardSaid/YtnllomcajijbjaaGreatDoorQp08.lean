import Derived.Test.YtnllomcajijbjaaGreatDoorQp07
set_option maxRecDepth 100000
set_option maxHeartbeats 4000000
namespace Go.Proofs.YtnllomcajijbjaaGreatDoor
open Go Go.RowKit
theorem cutHi_some (g o cap:Nat):cutHi (some ⟨g,o,none⟩) cap=some ⟨g,o,none⟩:=by
 unfold cutHi
 split
 ·rfl
 ·simp [bM]
theorem cutLo_some (g o cap l:Nat) (h:l<cap):cutLo (some ⟨g,o,none⟩) cap l=some ⟨g,o+l,none⟩:=by
 unfold cutLo
 rw [if_neg (by omega)]
 simp [bM]
section
variable {P:Program} {a:Act} {w:World} {dst:Option Tmp} {typ:TypeId} {pos:String} {aft:Array Edge} {gd:Option (Nat×Bool)}
theorem exec_hiS {ty:TypeId} {x hi:Operand} {elem:TypeId} (hu:P.underlying ty=some (.slice elem)) (hs:(P.info? elem).map (·.size)=some 1) {g o len cap:Nat} (m:Nat) {ih:Int} (hm:m≤cap) (hx:a.eval x=.slice (some ⟨g,o,none⟩) len cap) (hhi:a.eval hi=.int .i64 ih) (hih:ih=(m:Int)) :
  (execOp a.eval {dst:=dst,op:=.slice ty x none (some hi) none,type:=typ,pos:=pos,after:=aft,guard:=gd}).run P w=.ok (.value (.slice (some ⟨g,o,none⟩) m cap)) w:=by
 have h:=exec_sHi (P:=P) (a:=a) (w:=w) (dst:=dst) (typ:=typ) (pos:=pos) (aft:=aft) (gd:=gd) hu hs m hm hx hhi hih
 rw [cutHi_some] at h
 exact h
theorem exec_loS {ty:TypeId} {x lo:Operand} {elem:TypeId} (hu:P.underlying ty=some (.slice elem)) (hs:(P.info? elem).map (·.size)=some 1) {g o len cap:Nat} (l m:Nat) {il:Int} (hl:l≤len) (hlc:l<cap) (hlm:len - l=m) (hx:a.eval x=.slice (some ⟨g,o,none⟩) len cap) (hlo:a.eval lo=.int .i64 il) (hil:il=(l:Int)) :
  (execOp a.eval {dst:=dst,op:=.slice ty x (some lo) none none,type:=typ,pos:=pos,after:=aft,guard:=gd}).run P w=.ok (.value (.slice (some ⟨g,o+l,none⟩) m (cap - l))) w:=by
 subst hlm
 have h:=exec_sLo (P:=P) (a:=a) (w:=w) (dst:=dst) (typ:=typ) (pos:=pos) (aft:=aft) (gd:=gd) hu hs l hl hx hlo hil
 rw [cutLo_some _ _ _ _ hlc] at h
 exact h
end
theorem iW (bs:List Int) (b off cap n:Nat) (hn:bs.length=n+16) (hnl:n≤60000) (hcap:n+16≤cap) (w:World) (hs:Seg w b off bs) :
  Calls Tryz.prog 58 #[.slice (some ⟨b,off,none⟩) (n+16) cap] w fun e w'=>e=.returned (.tuple #[.slice (some ⟨b,off,none⟩) n cap,.agg (u8s (bs.drop n)).toArray])∧Below w.heap.size w w':=by
 have hm:=Mem.start w
 have HSG:Hid (Seg w b off bs):=hs
 obtain ⟨D,hD⟩:∃D,D=bs.drop n:=⟨_,rfl⟩
 have HDD:Hid (∀_:Unit,bs.drop n=D):=fun _=>hD.symm
 have HDL:Hid (D.length=16):=by show _=_;rw [hD,List.length_drop];omega
 have HDU:Hid ((u8s D).length=16):=by show _=_;rw [ab];exact HDL.out
 rw [←hD]
 clear hs hD hn
 go_enter Tryz.func58,Tryz.ntmps58
 go_wp2_with (first
  | ((with_reducible refine aa (some 3) (.alloc 109) ?_);refine aj _ e7 hm ?_;clear hm;intro w1 g3 hm))
 refine au ?_
 refine a6 (T:=fun W=>Mem w [] W []) (by kernel_rfl) hm ?_
 clear hm
 intro w2 hm
 refine aG 0 (v:=.slice (some ⟨b,off,none⟩) (n+16) cap) rfl (by kernel_rfl) rfl (fun W _=>by go_simp) hm.tail ?_
 go_simp
 refine aG 1 (v:=.int .i64 (n:Int)) rfl (by kernel_rfl) rfl (fun W _=>by go_simp) hm.tail ?_
 go_simp
 refine aG 2 (v:=.slice (some ⟨b,off,none⟩) n cap) rfl (by kernel_rfl) rfl (fun W _=>exec_hiS aU be n (by omega) rfl rfl rfl) hm.tail ?_
 go_simp
 refine aG 3 (v:=.slice (some ⟨b,off,none⟩) (n+16) cap) rfl (by kernel_rfl) rfl (fun W _=>by go_simp) hm.tail ?_
 go_simp
 refine aG 4 (v:=.int .i64 (n:Int)) rfl (by kernel_rfl) rfl (fun W _=>by go_simp) hm.tail ?_
 go_simp
 refine aG 5 (v:=.slice (some ⟨b,off+n,none⟩) 16 (cap - n)) rfl (by kernel_rfl) rfl (fun W _=>exec_loS aU be n 16 (by omega) (by omega) (by omega) rfl rfl rfl) hm.tail ?_
 go_simp
 refine aG 6 (v:=.pointer (some ⟨b,off+n,none⟩)) rfl (by kernel_rfl) rfl (fun W _=>dV 16 cI (by omega) rfl) hm.tail ?_
 go_simp
 refine aG 7 (v:=.agg (u8s D).toArray) rfl (by kernel_rfl) rfl (fun W hW=>exec_ldS D rfl (by rw [←HDD.out ()];exact (Seg.mem HSG.out hW (by simp)).drop n) _ cI rfl 16 cA HDL.out) hm.tail ?_
 go_simp
 refine aG 8 (v:=.slice (some ⟨b,off,none⟩) n cap) rfl (by kernel_rfl) rfl (fun W _=>by go_simp) hm.tail ?_
 go_simp
 refine aP 9 (by kernel_rfl) rfl rfl ?_
 intro K hK
 refine ap 0 (u8s D) hm rfl rfl rfl 16 cA (by simp [ab]) HDU.out (aq _) ?_
 clear hm
 intro w3 hm
 refine wpList_nil ?_
 refine hK _ _ hm.tail ?_
 clear hK K
 refine wpAnyH_done (by kernel_rfl) ?_ _
 simp only [endsIn]
 go_wp2_with fail
 exact ret_tc 0 _ hm rfl Tryz.results58 rfl rfl _ cI rfl 16 cA HDU.out rfl ⟨rfl,hm.below⟩
theorem gS (ks ns ds bs:List Int) (va:Value) (b off cap n:Nat) (hn:bs.length=n+16) (hcap:n+16≤cap) (hf:bs.drop n=tagOf ks ns ds (bs.take n)) (hkl:ks.length=32) (hnl:ns.length=12) (hkb:Bytes ks) (hnb:Bytes ns) (hdb:Bytes ds) (hbb:Bytes bs) (hal:ds.length≤20000) (hbl:bs.length≤20000) (w:World) (ht:Tab w) (hq:QTab w) (hva:SlOld w va ds) (hs:Seg w b off bs) :
  Calls Tryz.prog 43 #[.agg (u8s ks).toArray,.agg (u8s ns).toArray,va,.slice (some ⟨b,off,none⟩) (n+16) cap] w fun e w'=>∃g,e=.returned (.tuple #[.slice (some ⟨g,0,none⟩) n n,.int .i64 0])∧w.heap.size≤g∧Row w' g (u8s (encOf ks ns (bs.take n))) 5∧Below w.heap.size w w':=by
 obtain ⟨pa,ca,rfl,_⟩:=hva.len
 have hm:=Mem.start w
 have HT:Hid _:=ht
 have HKL:Hid _:=hkl
 have HNL:Hid _:=hnl
 have HKB:Hid _:=hkb
 have HNB:Hid _:=hnb
 have HKU:Hid ((u8s ks).length=32):=by show _=_;rw [ab];exact hkl
 have HNU:Hid ((u8s ns).length=12):=by show _=_;rw [ab];exact hnl
 have HQ:Hid _:=hq
 have HDB:Hid _:=hdb
 have HA:Hid (SlOld w (.slice pa ds.length ca) ds):=hva
 have HSG:Hid (Seg w b off bs):=hs
 obtain ⟨C,hC⟩:∃C,C=bs.take n:=⟨_,rfl⟩
 have HCL:Hid (C.length=n):=by show _=_;rw [hC,List.length_take];omega
 have HCB:Hid (Bytes C):=by rw [hC];exact hbb.take _
 have HCS:Hid (∀W,Seg W b off bs→SlOld W (.slice (some ⟨b,off,none⟩) n cap) C):=fun W h=>by
  rw [←HCL.out]
  exact ⟨_,_,rfl,by rw [HCL.out];omega,fun _=>⟨b,off,rfl,by rw [hC];exact h.take n⟩⟩
 obtain ⟨D,hD⟩:∃D,D=bs.drop n:=⟨_,rfl⟩
 have HDD:Hid (∀_:Unit,bs.drop n=D):=fun _=>hD.symm
 have HDL:Hid (D.length=16):=by show _=_;rw [hD,List.length_drop];omega
 have HDU:Hid ((u8s D).length=16):=by show _=_;rw [ab];exact HDL.out
 obtain ⟨G,hG⟩:∃G,G=tagOf ks ns ds C:=⟨_,rfl⟩
 have HGG:Hid (∀_:Unit,tagOf ks ns ds C=G):=fun _=>hG.symm
 have HGL:Hid (G.length=16):=by show _=_;rw [hG,df]
 have HDG:Hid ((!decide (D=G))=false):=by
  show _=_
  rw [←hC,←hD,←hG] at hf
  simp [hf]
 have HN:Hid (bs.length=n+16):=hn
 have hnl2:n≤20000:=by omega
 have HC2:Hid (∀_:Unit,bs.take n=C):=fun _=>hC.symm
 clear ht hq hkl hnl hkb hnb hdb hbb hva hs hC hD hG hf hn hbl
 go_enter Tryz.func43,Tryz.ntmps43
 go_wp2_with (first
  | ((with_reducible refine aa (some 4) (.box 39 (.tmp 0)) ?_);refine aB (u8s ks) rfl hm ?_;clear hm;intro w1 g4 hm)
  | ((with_reducible refine aa (some 5) (.box 96 (.tmp 1)) ?_);refine aB (u8s ns) rfl hm ?_;clear hm;intro w2 g5 hm)
  | (go_at_call 58;refine (iW bs b off cap n HN.out (by omega) hcap _ (Seg.mem HSG.out hm (by simp))).mono ?_;rintro e w3 ⟨he,hb⟩;rw [HDD.out ()] at he;subst he;replace hm:=hm.call hb;clear hb)
  | ((with_reducible refine aa (some 11) (.alloc 109) ?_);refine aj _ e7 hm ?_;clear hm;intro w4 g11 hm)
  | ((with_reducible refine aa none (.store 109 (.tmp 11) (.tmp 19)) ?_);refine ap 0 (u8s D) hm rfl rfl rfl 16 cA (by simp [ab]) (HDU.out) (aq _) ?_;clear hm;intro w5 hm))
 refine au ?_
 refine a6 (T:=fun W=>Mem w [] W [(g11,u8s D,109),(g5,u8s ns,96),(g4,u8s ks,39)]) (by kernel_rfl) hm ?_
 clear hm
 intro w6 hm
 refine aG 0 (v:=.agg (u8s D).toArray) rfl (by kernel_rfl) rfl (fun W hW=>ao 0 _ (Mem.get hW 0 rfl) rfl _ cI rfl 16 cA (by rw [HDU.out];omega) (by rw [List.drop_zero,List.take_of_length_le (Nat.le_of_eq HDU.out)])) hm ?_
 go_simp
 refine aG 1 (v:=.agg (u8s ks).toArray) rfl (by kernel_rfl) rfl (fun W hW=>ao 0 _ (Mem.get hW 2 rfl) rfl _ aS rfl 32 az (by rw [HKU.out];omega) (by rw [List.drop_zero,List.take_of_length_le (Nat.le_of_eq HKU.out)])) hm ?_
 go_simp
 refine aG 2 (v:=.agg (u8s ns).toArray) rfl (by kernel_rfl) rfl (fun W hW=>ao 0 _ (Mem.get hW 1 rfl) rfl _ dn rfl 12 dm (by rw [HNU.out];omega) (by rw [List.drop_zero,List.take_of_length_le (Nat.le_of_eq HNU.out)])) hm ?_
 go_simp
 refine aG 3 (v:=.slice pa ds.length ca) rfl (by kernel_rfl) rfl (fun W _=>by go_simp) hm ?_
 go_simp
 refine aG 4 (v:=.slice (some ⟨b,off,none⟩) n cap) rfl (by kernel_rfl) rfl (fun W _=>by go_simp) hm ?_
 go_simp
 refine aP 5 (by kernel_rfl) rfl rfl ?_
 intro K hK
 go_wp2_with (go_at_call 54;refine (tag_any ks ns ds C _ _ HKL.out HNL.out HKB.out HNB.out HDB.out HCB.out hal (by rw [HCL.out];exact hnl2) _ (Tab.mem HT.out hm (by simp)) (SlOld.mem HA.out hm) (HCS.out _ (Seg.mem HSG.out hm (by simp)))).mono ?_;rintro e w7 ⟨he,hb⟩;rw [HGG.out ()] at he;subst he;replace hm:=hm.call hb;clear hb)
 refine hK _ _ hm ?_
 clear hK K
 refine aG 6 (v:=.bool false) rfl (by kernel_rfl) rfl (fun W _=>exec_nea _ 16 .u8 D G _ HDG.out rfl rfl cI cy be eg_tag HDL.out HGL.out) hm ?_
 go_simp
 refine wpAnyH_done (by kernel_rfl) ?_ _
 simp only [endsIn]
 go_wp2_with (first
  | ((with_reducible refine aa (some 27) (.load 39 (.tmp 4)) ?_);refine ay 2 hm rfl rfl _ aS rfl 32 az (HKU.out) ?_)
  | ((with_reducible refine aa (some 28) (.load 96 (.tmp 5)) ?_);refine ay 1 hm rfl rfl _ dn rfl 12 dm (HNU.out) ?_)
  | (go_at_call 53;refine (i7 ks ns C _ HKL.out HNL.out HKB.out HNB.out (by rw [HCL.out];omega) _ (Tab.mem HT.out hm (by simp)) (QTab.mem HQ.out hm (by simp)) (HCS.out _ (Seg.mem HSG.out hm (by simp)))).mono ?_;rintro e w8 ⟨g,he,hge,hr,hb⟩;rw [HCL.out] at he;subst he;replace hm:=hm.callNew hb hr hge;clear hb hr hge))
 refine bodyPost_ret (results_tmp2 Tryz.results43 _ _ _) rfl ?_
 have hf:=hm.fresh _ (List.mem_cons_self ..)
 exact ⟨g,rfl,by simpa using hf,by rw [HC2.out ()];exact hm.get 0 rfl,hm.below⟩
theorem ja (ks ns ds bs:List Int) (va:Value) (b off cap n:Nat) (hn:bs.length=n+16) (hcap:n+16≤cap) (hf:bs.drop n≠tagOf ks ns ds (bs.take n)) (hkl:ks.length=32) (hnl:ns.length=12) (hkb:Bytes ks) (hnb:Bytes ns) (hdb:Bytes ds) (hbb:Bytes bs) (hal:ds.length≤20000) (hbl:bs.length≤20000) (w:World) (ht:Tab w) (hq:QTab w) (hva:SlOld w va ds) (hs:Seg w b off bs) :
  Calls Tryz.prog 43 #[.agg (u8s ks).toArray,.agg (u8s ns).toArray,va,.slice (some ⟨b,off,none⟩) (n+16) cap] w fun e w'=>e=.returned (.tuple #[.slice none 0 0,.int .i64 50])∧Below w.heap.size w w':=by
 obtain ⟨pa,ca,rfl,_⟩:=hva.len
 have hm:=Mem.start w
 have HT:Hid _:=ht
 have HKL:Hid _:=hkl
 have HNL:Hid _:=hnl
 have HKB:Hid _:=hkb
 have HNB:Hid _:=hnb
 have HKU:Hid ((u8s ks).length=32):=by show _=_;rw [ab];exact hkl
 have HNU:Hid ((u8s ns).length=12):=by show _=_;rw [ab];exact hnl
 have HQ:Hid _:=hq
 have HDB:Hid _:=hdb
 have HA:Hid (SlOld w (.slice pa ds.length ca) ds):=hva
 have HSG:Hid (Seg w b off bs):=hs
 obtain ⟨C,hC⟩:∃C,C=bs.take n:=⟨_,rfl⟩
 have HCL:Hid (C.length=n):=by show _=_;rw [hC,List.length_take];omega
 have HCB:Hid (Bytes C):=by rw [hC];exact hbb.take _
 have HCS:Hid (∀W,Seg W b off bs→SlOld W (.slice (some ⟨b,off,none⟩) n cap) C):=fun W h=>by
  rw [←HCL.out]
  exact ⟨_,_,rfl,by rw [HCL.out];omega,fun _=>⟨b,off,rfl,by rw [hC];exact h.take n⟩⟩
 obtain ⟨D,hD⟩:∃D,D=bs.drop n:=⟨_,rfl⟩
 have HDD:Hid (∀_:Unit,bs.drop n=D):=fun _=>hD.symm
 have HDL:Hid (D.length=16):=by show _=_;rw [hD,List.length_drop];omega
 have HDU:Hid ((u8s D).length=16):=by show _=_;rw [ab];exact HDL.out
 obtain ⟨G,hG⟩:∃G,G=tagOf ks ns ds C:=⟨_,rfl⟩
 have HGG:Hid (∀_:Unit,tagOf ks ns ds C=G):=fun _=>hG.symm
 have HGL:Hid (G.length=16):=by show _=_;rw [hG,df]
 have HDG:Hid ((!decide (D=G))=true):=by
  show _=_
  rw [←hC,←hD,←hG] at hf
  simp [hf]
 have HN:Hid (bs.length=n+16):=hn
 have hnl2:n≤20000:=by omega
 have HC2:Hid (∀_:Unit,bs.take n=C):=fun _=>hC.symm
 clear ht hq hkl hnl hkb hnb hdb hbb hva hs hC hD hG hf hn hbl
 go_enter Tryz.func43,Tryz.ntmps43
 go_wp2_with (first
  | ((with_reducible refine aa (some 4) (.box 39 (.tmp 0)) ?_);refine aB (u8s ks) rfl hm ?_;clear hm;intro w1 g4 hm)
  | ((with_reducible refine aa (some 5) (.box 96 (.tmp 1)) ?_);refine aB (u8s ns) rfl hm ?_;clear hm;intro w2 g5 hm)
  | (go_at_call 58;refine (iW bs b off cap n HN.out (by omega) hcap _ (Seg.mem HSG.out hm (by simp))).mono ?_;rintro e w3 ⟨he,hb⟩;rw [HDD.out ()] at he;subst he;replace hm:=hm.call hb;clear hb)
  | ((with_reducible refine aa (some 11) (.alloc 109) ?_);refine aj _ e7 hm ?_;clear hm;intro w4 g11 hm)
  | ((with_reducible refine aa none (.store 109 (.tmp 11) (.tmp 19)) ?_);refine ap 0 (u8s D) hm rfl rfl rfl 16 cA (by simp [ab]) (HDU.out) (aq _) ?_;clear hm;intro w5 hm))
 refine au ?_
 refine a6 (T:=fun W=>Mem w [] W [(g11,u8s D,109),(g5,u8s ns,96),(g4,u8s ks,39)]) (by kernel_rfl) hm ?_
 clear hm
 intro w6 hm
 refine aG 0 (v:=.agg (u8s D).toArray) rfl (by kernel_rfl) rfl (fun W hW=>ao 0 _ (Mem.get hW 0 rfl) rfl _ cI rfl 16 cA (by rw [HDU.out];omega) (by rw [List.drop_zero,List.take_of_length_le (Nat.le_of_eq HDU.out)])) hm ?_
 go_simp
 refine aG 1 (v:=.agg (u8s ks).toArray) rfl (by kernel_rfl) rfl (fun W hW=>ao 0 _ (Mem.get hW 2 rfl) rfl _ aS rfl 32 az (by rw [HKU.out];omega) (by rw [List.drop_zero,List.take_of_length_le (Nat.le_of_eq HKU.out)])) hm ?_
 go_simp
 refine aG 2 (v:=.agg (u8s ns).toArray) rfl (by kernel_rfl) rfl (fun W hW=>ao 0 _ (Mem.get hW 1 rfl) rfl _ dn rfl 12 dm (by rw [HNU.out];omega) (by rw [List.drop_zero,List.take_of_length_le (Nat.le_of_eq HNU.out)])) hm ?_
 go_simp
 refine aG 3 (v:=.slice pa ds.length ca) rfl (by kernel_rfl) rfl (fun W _=>by go_simp) hm ?_
 go_simp
 refine aG 4 (v:=.slice (some ⟨b,off,none⟩) n cap) rfl (by kernel_rfl) rfl (fun W _=>by go_simp) hm ?_
 go_simp
 refine aP 5 (by kernel_rfl) rfl rfl ?_
 intro K hK
 go_wp2_with (go_at_call 54;refine (tag_any ks ns ds C _ _ HKL.out HNL.out HKB.out HNB.out HDB.out HCB.out hal (by rw [HCL.out];exact hnl2) _ (Tab.mem HT.out hm (by simp)) (SlOld.mem HA.out hm) (HCS.out _ (Seg.mem HSG.out hm (by simp)))).mono ?_;rintro e w7 ⟨he,hb⟩;rw [HGG.out ()] at he;subst he;replace hm:=hm.call hb;clear hb)
 refine hK _ _ hm ?_
 clear hK K
 refine aG 6 (v:=.bool true) rfl (by kernel_rfl) rfl (fun W _=>exec_nea _ 16 .u8 D G _ HDG.out rfl rfl cI cy be eg_tag HDL.out HGL.out) hm ?_
 go_simp
 refine wpAnyH_done (by kernel_rfl) ?_ _
 simp only [endsIn]
 go_wp2_with fail
 refine bodyPost_ret (results_tmp2 Tryz.results43 _ _ _) rfl ?_
 exact ⟨rfl,hm.below⟩
def openCode (k n a b:List Int):Int:=if b.length<16 then 10 else if fits k n a b then 0 else 50
def openOf (k n a b:List Int):List Int:=if b.length<16 then [] else if fits k n a b then encOf k n (b.take (b.length - 16)) else []
theorem SlOld.some {w:World} {v:Value} {cs:List Int} (h:SlOld w v cs) (h0:0<cs.length):∃b off cap,v=.slice (some ⟨b,off,none⟩) cs.length cap∧cs.length≤cap∧Seg w b off cs:=by
 obtain ⟨p,cap,hv,hc,hs⟩:=h
 obtain ⟨b,off,hp,hseg⟩:=hs h0
 subst hp
 exact ⟨b,off,cap,hv,hc,hseg⟩
end Go.Proofs.YtnllomcajijbjaaGreatDoor
