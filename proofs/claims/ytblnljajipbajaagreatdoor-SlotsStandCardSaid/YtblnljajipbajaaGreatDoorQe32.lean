import Derived.Test.YtblnljajipbajaaGreatDoorQe31
set_option maxRecDepth 100000
set_option maxHeartbeats 4000000
namespace Go.Proofs.YtblnljajipbajaaGreatDoor
open Go Go.RowKit
theorem OwnB.mono {e:TypeId} {w:World} {b b':Nat} {v:Value} {zs:List Int} (h:OwnB e w b v zs) (hb:b'≤b):OwnB e w b' v zs:=by
 refine ⟨h.1,?_⟩
 rcases h.2 with hn|⟨g,cap,cur,hv,hg,rest⟩
 ·exact Or.inl hn
 ·exact Or.inr ⟨g,cap,cur,hv,Nat.le_trans hb hg,rest⟩
/-- A slice that a call made is kept beside the rows. -/
theorem Mem.callOwn {w0 w w':World} {S:List Nat} {rows:List (Nat×List Value×TypeId)} {e:TypeId} {v:Value} {zs:List Int} (hm:Mem w0 S w rows) (hb:Below w.heap.size w w') (ho:OwnB e w' w.heap.size v zs) :
  ∃rs,Mem w0 S w' (rows++rs)∧∀W,Mem w0 S W rs→SlOld W v zs:=by
 have hc:=hm.call hb
 rcases ho.2 with ⟨hv,hn⟩|⟨g,cap,cur,hv,hg,hr,hnc,_,_,ht⟩
 ·refine ⟨[],by rw [List.append_nil];exact hc,fun W _=>?_⟩
  have hz:zs=[]:=List.eq_nil_of_length_eq_zero hn
  subst hz
  rw [hv]
  exact old_empty _
 ·refine ⟨[(g,cur.toList,e)],⟨hc.os,hc.tape,hc.output,hc.size,hc.block,?_,?_,?_⟩,fun W hW=>?_⟩
  ·intro r hr'
   rcases List.mem_append.1 hr' with h|h
   ·exact hc.row r h
   ·simp only [List.mem_cons,List.not_mem_nil,or_false] at h
    subst h
    exact hr
  ·rw [List.map_append,List.nodup_append]
   refine ⟨hc.nodup,by simp,fun a ha b hb2=>?_⟩
   simp only [List.map_cons,List.map_nil,List.mem_cons,List.not_mem_nil,or_false] at hb2
   obtain ⟨r,hr',rfl⟩:=List.mem_map.1 ha
   have:=(hm.row r hr').lt
   rw [hb2]
   omega
  ·intro r hr'
   rcases List.mem_append.1 hr' with h|h
   ·exact hc.fresh r h
   ·simp only [List.mem_cons,List.not_mem_nil,or_false] at h
    subst h
    exact Or.inr (Nat.le_trans hm.size hg)
  ·rw [Nat.mul_one] at ht
   have hrow:Row W g (u8s zs++cur.toList.drop zs.length) e:=by
    rw [←ht,List.take_append_drop]
    exact hW.get 0 rfl
   rw [hv]
   exact old_head hrow rfl hnc
theorem gu {P:Program} {a:Act} {w:World} {dst:Option Tmp} {typ:TypeId} {pos:String} {aft:Array Edge} {gd:Option (Nat×Bool)} {t:TypeId} {x y:Operand} {rt:TypeId} (s s':ByteArray) (v:Bool) (hx:a.eval x=.string s) (hy:a.eval y=.string s') (hv:(!(s==s'))=v) :
  (execOp a.eval {dst:=dst,op:=.binOp .neq t x y rt,type:=typ,pos:=pos,after:=aft,guard:=gd}).run P w=.ok (.value (.bool v)) w:=by
 subst hv
 unfold execOp
 simp only [hx,hy]
 simp [eqGuard,binOp,Op.stringOp]
 rw [beq_toListBytes]
theorem fN (ks ns ds ms:List Int) (va vp:Value) (hkl:ks.length=32) (hnl:ns.length=12) (hkb:Bytes ks) (hnb:Bytes ns) (hdb:Bytes ds) (hmb:Bytes ms) (hal:ds.length≤20000) (hml:ms.length≤20000) (w:World) (hva:SlOld w va ds) (hvp:SlOld w vp ms) :
  Calls Tryz.prog 42 #[.agg (u8s ks).toArray,.agg (u8s ns).toArray,va,vp] w fun e w'=>∃v',e=.returned v'∧OwnB 5 w' w.heap.size v' (sealOf ks ns ds ms)∧Below w.heap.size w w':=by
 obtain ⟨pa,ca,rfl,_⟩:=hva.len
 obtain ⟨pp,cp,rfl,_⟩:=hvp.len
 have hm:=Mem.start w
 have HKL:Hid _:=hkl
 have HNL:Hid _:=hnl
 have HKB:Hid _:=hkb
 have HNB:Hid _:=hnb
 have HKU:Hid ((u8s ks).length=32):=by show _=_;rw [aa];exact hkl
 have HNU:Hid ((u8s ns).length=12):=by show _=_;rw [aa];exact hnl
 have HDB:Hid _:=hdb
 have HA:Hid (SlOld w (.slice pa ds.length ca) ds):=hva
 have HP:Hid (SlOld w (.slice pp ms.length cp) ms):=hvp
 obtain ⟨E,hE⟩:∃E,E=encKey ks:=⟨_,rfl⟩
 have HEE:Hid (∀_:Unit,deriveOf ks (strB {data:=#[101,110,99]}) 0=E):=fun _=>hE.symm
 have HEL:Hid (E.length=32):=by show _=_;rw [hE,encKey,bo]
 have HEB:Hid (Bytes E):=by rw [hE];exact da _ _ _
 obtain ⟨C,hC⟩:∃C,C=encOf ks ns ms:=⟨_,rfl⟩
 have HCC:Hid (∀_:Unit,xorOf E ns 1 ms=C):=fun _=>by rw [hC,hE];rfl
 have HCB:Hid (Bytes C):=by rw [hC];exact fU _ _ hmb
 have HCL:Hid (C.length=ms.length):=by show _=_;rw [hC,b5]
 obtain ⟨G,hG⟩:∃G,G=tagOf ks ns ds C:=⟨_,rfl⟩
 have HGG:Hid (∀_:Unit,tagOf ks ns ds C=G):=fun _=>hG.symm
 have HGL:Hid (G.length=16):=by show _=_;rw [hG,b6]
 have HGU:Hid ((u8s G).length=16):=by show _=_;rw [aa];exact HGL.out
 have HSL:Hid (∀_:Unit,sealOf ks ns ds ms=[]++C++G):=fun _=>by rw [hG,hC];rfl
 have hty:∀(a b c:Nat),∀r∈[(a,u8s G,(118:TypeId)),(b,u8s ns,(97:TypeId)),(c,u8s ks,(39:TypeId))],r.2.2≠5:=by
  intro a b c r hr
  simp only [List.mem_cons,List.not_mem_nil,or_false] at hr
  rcases hr with rfl|rfl|rfl<;>simp
 have HTY:Hid _:=hty
 clear hkl hnl hkb hnb hdb hmb hva hvp hE hC hG hty
 go_enter Tryz.func42,Tryz.ntmps42
 go_wp2_with (first
  | ((with_reducible refine ab (some 4) (.box 39 (.tmp 0)) ?_);refine au (u8s ks) rfl hm ?_;clear hm;intro w1 g4 hm)
  | ((with_reducible refine ab (some 5) (.box 97 (.tmp 1)) ?_);refine au (u8s ns) rfl hm ?_;clear hm;intro w2 g5 hm))
 refine ax ?_
 refine az (T:=fun W=>Mem w [] W [(g5,u8s ns,97),(g4,u8s ks,39)]) (by kernel_rfl) hm ?_
 clear hm
 intro w3 hm
 refine aG 0 (v:=.agg (u8s ks).toArray) rfl (by kernel_rfl) rfl (fun W hW=>ao 0 _ (Mem.get hW 1 rfl) rfl _ ar rfl 32 am (by rw [HKU.out];omega) (by rw [List.drop_zero,List.take_of_length_le (Nat.le_of_eq HKU.out)])) hm ?_
 go_simp
 refine aG 2 (v:=.agg (u8s ns).toArray) rfl (by kernel_rfl) rfl (fun W hW=>ao 0 _ (Mem.get hW 0 rfl) rfl _ ce rfl 12 cg (by rw [HNU.out];omega) (by rw [List.drop_zero,List.take_of_length_le (Nat.le_of_eq HNU.out)])) hm ?_
 go_simp
 refine aG 3 (v:=.slice pp ms.length cp) rfl (by kernel_rfl) rfl (fun W _=>by go_simp) hm ?_
 go_simp
 refine aP 1 (by kernel_rfl) rfl rfl ?_
 intro K hK
 go_wp2_with (go_at_call 60;refine (dV ks _ 0 HKL.out HKB.out (by decide) (by omega) _).mono ?_;rintro e wd ⟨he,hb⟩;rw [HEE.out ()] at he;subst he;replace hm:=hm.call hb;clear hb)
 refine hK _ _ hm ?_
 clear hK K
 refine aP 4 (by kernel_rfl) rfl rfl ?_
 intro K hK
 go_wp2_with (go_at_call 59;refine (fD E ns ms 1 _ HEL.out HNL.out HEB.out HNB.out ⟨by omega,by omega⟩ (by omega) _ (SlOld.mem HP.out hm)).mono ?_;rintro e w5 ⟨v9,he,ho,hb⟩;subst he;rw [HCC.out ()] at ho;have hmT:=hm.call hb;have hOm:=OwnB.mono ho hm.size;obtain ⟨rs,hm2,hso⟩:=Mem.callOwn hm hb ho;obtain ⟨p9,c9,hv9,_⟩:=OwnB.old ho;rw [HCL.out] at hv9;subst hv9;have HSO:Hid (∀W,Mem w [] W rs→SlOld W (.slice p9 ms.length c9) C):=hso;have HOM:Hid (OwnB 5 w5 w.heap.size (.slice p9 ms.length c9) C):=hOm;clear hso ho hb hOm)
 refine hK _ _ hmT ?_
 clear hK K
 refine aG 5 (v:=.slice p9 ms.length c9) rfl (by kernel_rfl) rfl (fun W _=>by go_simp) hmT ?_
 go_simp
 refine wpAnyH_done (by kernel_rfl) ?_ _
 simp only [endsIn]
 clear hm hmT
 have hm:Mem w [] w5 ((g5,u8s ns,97)::(g4,u8s ks,39)::rs):=hm2
 clear hm2
 go_wp2_with (first
  | ((with_reducible refine ab (some 16) (.load 39 (.tmp 4)) ?_);refine aw 1 hm rfl rfl _ ar rfl 32 am (HKU.out) ?_)
  | ((with_reducible refine ab (some 17) (.load 97 (.tmp 5)) ?_);refine aw 0 hm rfl rfl _ ce rfl 12 cg (HNU.out) ?_)
  | (go_at_call 61;refine (eK ks ns ds C _ _ HKL.out HNL.out HKB.out HNB.out HDB.out HCB.out hal (by rw [HCL.out];exact hml) _ (SlOld.mem HA.out hm) (HSO.out _ hm.tail.tail)).mono ?_;rintro e w6 ⟨he,hb⟩;rw [HGG.out ()] at he;subst he;replace hm:=hm.call hb;clear hb)
  | ((with_reducible refine ab (some 10) (.alloc 118) ?_);refine af _ cP hm ?_;clear hm;intro w7 g10 hm)
  | ((with_reducible refine ab none (.store 118 (.tmp 10) (.tmp 20)) ?_);refine ah 0 (u8s G) hm rfl rfl rfl 16 bX (by simp [aa]) (HGU.out) (aj _) ?_;clear hm;intro w8 hm))
 refine ax ?_
 refine az (T:=fun W=>Mem w [] W [(g10,u8s G,118),(g5,u8s ns,97),(g4,u8s ks,39)]) (by kernel_rfl) hm ?_
 clear hm
 intro w9 hm
 have HS9:Hid (SlOld w9 (.slice p9 ms.length c9) C):=HSO.out _ hm.tail.tail.tail
 replace hm:Mem w [] w9 [(g10,u8s G,118),(g5,u8s ns,97),(g4,u8s ks,39)]:=hm.sub (List.sublist_append_left [(g10,u8s G,118),(g5,u8s ns,97),(g4,u8s ks,39)] rs)
 refine aG 0 (v:=.slice p9 ms.length c9) rfl (by kernel_rfl) rfl (fun W _=>by go_simp) hm ?_
 go_simp
 refine aG 2 (v:=.slice (some ⟨g10,0,none⟩) 16 16) rfl (by kernel_rfl) rfl (fun W _=>by go_simp) hm ?_
 go_simp
 refine aP 1 (by kernel_rfl) rfl rfl ?_
 intro K hK
 refine b8 rfl av be C hm (OwnB.nil _ _ _) (HTY.out _ _ _) rfl rfl HCL.out.symm HS9.out.src0.2.2 (by rw [HCL.out];simp;omega) ?_
 clear hm
 intro v22 w10 ho hm
 have HO1:Hid (OwnB 5 w10 w.heap.size v22 ([]++C)):=ho
 clear ho
 refine wpList_nil ?_
 refine hK _ _ hm ?_
 clear hK K
 refine aP 3 (by kernel_rfl) rfl rfl ?_
 intro K hK
 refine b8 rfl av be G hm HO1.out (HTY.out _ _ _) rfl rfl HGL.out.symm (fun _=>⟨g10,0,rfl,Seg.row (hm.get 0 rfl)⟩) (by rw [List.nil_append,HCL.out,HGL.out];omega) ?_
 clear hm
 intro v24 w11 ho hm
 have HO2:Hid (OwnB 5 w11 w.heap.size v24 ([]++C++G)):=ho
 clear ho HO1
 refine wpList_nil ?_
 refine hK _ _ hm ?_
 clear hK K
 refine aG 4 (v:=v24) rfl (by kernel_rfl) rfl (fun W _=>by go_simp) hm ?_
 go_simp
 refine wpAnyH_done (by kernel_rfl) ?_ _
 simp only [endsIn]
 go_wp2_with fail
 go_ret
 exact ⟨v24,rfl,by rw [HSL.out ()];exact HO2.out,hm.below⟩
theorem fp (ks ns ds bs:List Int) (va:Value) (b off cap n:Nat) (hn:bs.length=n+16) (hcap:n+16≤cap) (hf:bs.drop n=tagOf ks ns ds (bs.take n)) (hkl:ks.length=32) (hnl:ns.length=12) (hkb:Bytes ks) (hnb:Bytes ns) (hdb:Bytes ds) (hbb:Bytes bs) (hal:ds.length≤20000) (hbl:bs.length≤20000) (w:World) (hva:SlOld w va ds) (hs:Seg w b off bs) :
  Calls Tryz.prog 44 #[.agg (u8s ks).toArray,.agg (u8s ns).toArray,va,.slice (some ⟨b,off,none⟩) (n+16) cap] w fun e w'=>∃v',e=.returned (.tuple #[v',.int .i64 0])∧OwnB 5 w' w.heap.size v' (encOf ks ns (bs.take n))∧Below w.heap.size w w':=by
 obtain ⟨pa,ca,rfl,_⟩:=hva.len
 have hm:=Mem.start w
 have HKL:Hid _:=hkl
 have HNL:Hid _:=hnl
 have HKB:Hid _:=hkb
 have HNB:Hid _:=hnb
 have HKU:Hid ((u8s ks).length=32):=by show _=_;rw [aa];exact hkl
 have HNU:Hid ((u8s ns).length=12):=by show _=_;rw [aa];exact hnl
 have HDB:Hid _:=hdb
 have HA:Hid (SlOld w (.slice pa ds.length ca) ds):=hva
 have HSG:Hid (Seg w b off bs):=hs
 obtain ⟨E,hE⟩:∃E,E=encKey ks:=⟨_,rfl⟩
 have HEE:Hid (∀_:Unit,deriveOf ks (strB {data:=#[101,110,99]}) 0=E):=fun _=>hE.symm
 have HEL:Hid (E.length=32):=by show _=_;rw [hE,encKey,bo]
 have HEB:Hid (Bytes E):=by rw [hE];exact da _ _ _
 obtain ⟨T,hT⟩:∃T,T=bs.take n:=⟨_,rfl⟩
 have HTL:Hid (T.length=n):=by show _=_;rw [hT,List.length_take];omega
 have HTB:Hid (Bytes T):=by rw [hT];exact hbb.take _
 have HTS:Hid (∀W,Seg W b off bs→SlOld W (.slice (some ⟨b,off,none⟩) n cap) T):=fun W h=>by
  rw [hT]
  exact old_segT h n (by omega) (by omega)
 obtain ⟨D,hD⟩:∃D,D=bs.drop n:=⟨_,rfl⟩
 have HDS:Hid (∀W,Seg W b off bs→SlOld W (.slice (some ⟨b,off+n,none⟩) 16 (cap - n)) D):=fun W h=>by
  rw [hD]
  exact old_segD h n 16 hn (by omega)
 obtain ⟨G,hG⟩:∃G,G=tagOf ks ns ds T:=⟨_,rfl⟩
 have HGG:Hid (∀_:Unit,tagOf ks ns ds T=G):=fun _=>hG.symm
 have HGL:Hid (G.length=16):=by show _=_;rw [hG,b6]
 have HGU:Hid ((u8s G).length=16):=by show _=_;rw [aa];exact HGL.out
 have HNE:Hid ((!(strOf G==strOf D))=false):=by
  show _=_
  rw [←hT,←hD,←hG] at hf
  rw [strOf_eq (by rw [hG];exact fL _ _ _ _) (by rw [hD];exact hbb.drop _)]
  rw [decide_eq_true hf.symm];rfl
 obtain ⟨C,hC⟩:∃C,C=encOf ks ns (bs.take n):=⟨_,rfl⟩
 have HCC:Hid (∀_:Unit,xorOf E ns 1 T=C):=fun _=>by rw [hC,hE,hT];rfl
 have HCE:Hid (∀_:Unit,encOf ks ns (bs.take n)=C):=fun _=>hC.symm
 have HCL:Hid (C.length=n):=by show _=_;rw [hC,b5,List.length_take];omega
 have hnl2:n≤20000:=by omega
 have hni:¬(n:Int)<0:=by omega
 clear hkl hnl hkb hnb hdb hbb hva hs hT hD hG hf hn hbl hE hC
 go_enter Tryz.func44,Tryz.ntmps44
 go_wp2_with (first
  | ((with_reducible refine ab (some 4) (.box 39 (.tmp 0)) ?_);refine au (u8s ks) rfl hm ?_;clear hm;intro w1 g4 hm)
  | ((with_reducible refine ab (some 5) (.box 97 (.tmp 1)) ?_);refine au (u8s ns) rfl hm ?_;clear hm;intro w2 g5 hm))
 refine ax ?_
 refine az (T:=fun W=>Mem w [] W [(g5,u8s ns,97),(g4,u8s ks,39)]) (by kernel_rfl) hm ?_
 clear hm
 intro w3 hm
 refine aG 0 (v:=.agg (u8s ks).toArray) rfl (by kernel_rfl) rfl (fun W hW=>ao 0 _ (Mem.get hW 1 rfl) rfl _ ar rfl 32 am (by rw [HKU.out];omega) (by rw [List.drop_zero,List.take_of_length_le (Nat.le_of_eq HKU.out)])) hm ?_
 go_simp
 refine aG 1 (v:=.agg (u8s ns).toArray) rfl (by kernel_rfl) rfl (fun W hW=>ao 0 _ (Mem.get hW 0 rfl) rfl _ ce rfl 12 cg (by rw [HNU.out];omega) (by rw [List.drop_zero,List.take_of_length_le (Nat.le_of_eq HNU.out)])) hm ?_
 go_simp
 refine aG 2 (v:=.slice pa ds.length ca) rfl (by kernel_rfl) rfl (fun W _=>by go_simp) hm ?_
 go_simp
 refine aG 3 (v:=.slice (some ⟨b,off,none⟩) (n+16) cap) rfl (by kernel_rfl) rfl (fun W _=>by go_simp) hm ?_
 go_simp
 refine aG 4 (v:=.int .i64 (n:Int)) rfl (by kernel_rfl) rfl (fun W _=>by go_simp) hm ?_
 go_simp
 refine aG 5 (v:=.slice (some ⟨b,off,none⟩) n cap) rfl (by kernel_rfl) rfl (fun W _=>fV av aC n (by omega) rfl rfl rfl) hm ?_
 go_simp
 refine wpAnyH_all (rs:=[6,7]) (by kernel_rfl) (by simp) ?_
 intro i hi
 simp only [List.mem_cons,List.not_mem_nil,or_false] at hi
 rcases hi with rfl|rfl
 ·refine ay 6 rfl rfl ?_
  intro K hK
  go_wp2_with (go_at_call 61;refine (eK ks ns ds T _ _ HKL.out HNL.out HKB.out HNB.out HDB.out HTB.out hal (by rw [HTL.out];exact hnl2) _ (SlOld.mem HA.out hm) (HTS.out _ (Seg.mem HSG.out hm (by simp)))).mono ?_;rintro e wt ⟨he,hb⟩;rw [HGG.out ()] at he;subst he;replace hm:=hm.call hb;clear hb)
  refine hK _ _ hm ?_
  clear hK K
  refine aP 7 (by kernel_rfl) rfl rfl ?_
  intro K hK
  refine af _ cP hm ?_
  clear hm
  intro wa g11 hm
  refine wpList_nil ?_
  refine hK _ _ hm.tail ?_
  clear hK K
  refine aP 8 (by kernel_rfl) rfl rfl ?_
  intro K hK
  refine ah 0 (u8s G) hm rfl rfl rfl 16 bX (by simp [aa]) HGU.out (aj _) ?_
  clear hm
  intro wz hm
  refine wpList_nil ?_
  refine hK _ _ hm.tail ?_
  clear hK K
  refine wpAnyH_done (by kernel_rfl) ?_ _
  simp only [endsIn]
  go_wp2_with fail
  refine ax ?_
  refine az (T:=fun W=>Mem w [] W [(g11,u8s G,118),(g5,u8s ns,97),(g4,u8s ks,39)]) (by kernel_rfl) hm ?_
  clear hm
  intro w4 hm
  refine aG 0 (v:=.slice (some ⟨g11,0,none⟩) 16 16) rfl (by kernel_rfl) rfl (fun W _=>by go_simp) hm ?_
  go_simp
  refine aG 1 (v:=.string (strOf G)) rfl (by kernel_rfl) rfl (fun W hW=>bd av aZ bH _ rfl (aE (Mem.get hW 0 rfl) HGL.out (Nat.le_refl _))) hm ?_
  go_simp
  refine aG 2 (v:=.slice (some ⟨b,off,none⟩) (n+16) cap) rfl (by kernel_rfl) rfl (fun W _=>by go_simp) hm ?_
  go_simp
  refine aG 3 (v:=.int .i64 (n:Int)) rfl (by kernel_rfl) rfl (fun W _=>by go_simp) hm ?_
  go_simp
  refine aG 4 (v:=.slice (some ⟨b,off+n,none⟩) 16 (cap - n)) rfl (by kernel_rfl) rfl (fun W _=>fM av aC n 16 (by omega) (by omega) (by omega) rfl rfl rfl) hm ?_
  go_simp
  refine aG 5 (v:=.string (strOf D)) rfl (by kernel_rfl) rfl (fun W hW=>bd av aZ bH _ rfl (HDS.out _ (Seg.mem HSG.out hW (by simp)))) hm ?_
  go_simp
  refine aG 6 (v:=.bool false) rfl (by kernel_rfl) rfl (fun W _=>gu _ _ _ rfl rfl HNE.out) hm ?_
  go_simp
  refine wpAnyH_done (by kernel_rfl) ?_ _
  simp only [endsIn]
  go_wp2_with fail
  refine ax ?_
  refine az (T:=fun W=>Mem w [] W [(g11,u8s G,118),(g5,u8s ns,97),(g4,u8s ks,39)]) (by kernel_rfl) hm ?_
  clear hm
  intro w6 hm
  refine aG 0 (v:=.agg (u8s ks).toArray) rfl (by kernel_rfl) rfl (fun W hW=>ao 0 _ (Mem.get hW 2 rfl) rfl _ ar rfl 32 am (by rw [HKU.out];omega) (by rw [List.drop_zero,List.take_of_length_le (Nat.le_of_eq HKU.out)])) hm ?_
  go_simp
  refine aG 2 (v:=.agg (u8s ns).toArray) rfl (by kernel_rfl) rfl (fun W hW=>ao 0 _ (Mem.get hW 1 rfl) rfl _ ce rfl 12 cg (by rw [HNU.out];omega) (by rw [List.drop_zero,List.take_of_length_le (Nat.le_of_eq HNU.out)])) hm ?_
  go_simp
  refine aG 3 (v:=.slice (some ⟨b,off,none⟩) (n+16) cap) rfl (by kernel_rfl) rfl (fun W _=>by go_simp) hm ?_
  go_simp
  refine aG 4 (v:=.int .i64 (n:Int)) rfl (by kernel_rfl) rfl (fun W _=>by go_simp) hm ?_
  go_simp
  refine aG 5 (v:=.slice (some ⟨b,off,none⟩) n cap) rfl (by kernel_rfl) rfl (fun W _=>fV av aC n (by omega) rfl rfl rfl) hm ?_
  go_simp
  refine aP 1 (by kernel_rfl) rfl rfl ?_
  intro K hK
  go_wp2_with (go_at_call 60;refine (dV ks _ 0 HKL.out HKB.out (by decide) (by omega) _).mono ?_;rintro e wd ⟨he,hb⟩;rw [HEE.out ()] at he;subst he;replace hm:=hm.call hb;clear hb)
  refine hK _ _ hm ?_
  clear hK K
  refine aP 6 (by kernel_rfl) rfl rfl ?_
  intro K hK
  go_wp2_with (go_at_call 59;refine (fD E ns T 1 _ HEL.out HNL.out HEB.out HNB.out ⟨by omega,by omega⟩ (by rw [HTL.out];omega) _ (HTS.out _ (Seg.mem HSG.out hm (by simp)))).mono ?_;rintro e w7 ⟨v9,he,ho,hb⟩;subst he;rw [HCC.out ()] at ho;have hmT:=hm.call hb;have hOm:=OwnB.mono ho hm.size;obtain ⟨rs,hm2,hso⟩:=Mem.callOwn hm hb ho;obtain ⟨p9,c9,hv9,_⟩:=OwnB.old ho;rw [HCL.out] at hv9;subst hv9;have HSO:Hid (∀W,Mem w [] W rs→SlOld W (.slice p9 n c9) C):=hso;have HOM:Hid (OwnB 5 w7 w.heap.size (.slice p9 n c9) C):=hOm;clear hso ho hb hOm)
  refine hK _ _ hmT ?_
  clear hK K
  refine aG 7 (v:=.slice p9 n c9) rfl (by kernel_rfl) rfl (fun W _=>by go_simp) hmT ?_
  go_simp
  refine aG 8 (v:=.int .i64 0) rfl (by kernel_rfl) rfl (fun W _=>by go_simp) hmT ?_
  go_simp
  refine wpAnyH_done (by kernel_rfl) ?_ _
  simp only [endsIn]
  go_wp2_with fail
  refine bodyPost_ret (results_tmp2 Tryz.results44 _ _ _) rfl ?_
  exact ⟨_,rfl,by rw [HCE.out ()];exact HOM.out,hmT.below⟩
 ·refine ay 7 rfl rfl ?_
  intro K hK
  refine af _ cP hm ?_
  clear hm
  intro wa g11 hm
  refine wpList_nil ?_
  refine hK _ _ hm.tail ?_
  clear hK K
  refine aP 6 (by kernel_rfl) rfl rfl ?_
  intro K hK
  go_wp2_with (go_at_call 61;refine (eK ks ns ds T _ _ HKL.out HNL.out HKB.out HNB.out HDB.out HTB.out hal (by rw [HTL.out];exact hnl2) _ (SlOld.mem HA.out hm) (HTS.out _ (Seg.mem HSG.out hm (by simp)))).mono ?_;rintro e wt ⟨he,hb⟩;rw [HGG.out ()] at he;subst he;replace hm:=hm.call hb;clear hb)
  refine hK _ _ hm.tail ?_
  clear hK K
  refine aP 8 (by kernel_rfl) rfl rfl ?_
  intro K hK
  refine ah 0 (u8s G) hm rfl rfl rfl 16 bX (by simp [aa]) HGU.out (aj _) ?_
  clear hm
  intro wz hm
  refine wpList_nil ?_
  refine hK _ _ hm.tail ?_
  clear hK K
  refine wpAnyH_done (by kernel_rfl) ?_ _
  simp only [endsIn]
  go_wp2_with fail
  refine ax ?_
  refine az (T:=fun W=>Mem w [] W [(g11,u8s G,118),(g5,u8s ns,97),(g4,u8s ks,39)]) (by kernel_rfl) hm ?_
  clear hm
  intro w4 hm
  refine aG 0 (v:=.slice (some ⟨g11,0,none⟩) 16 16) rfl (by kernel_rfl) rfl (fun W _=>by go_simp) hm ?_
  go_simp
  refine aG 1 (v:=.string (strOf G)) rfl (by kernel_rfl) rfl (fun W hW=>bd av aZ bH _ rfl (aE (Mem.get hW 0 rfl) HGL.out (Nat.le_refl _))) hm ?_
  go_simp
  refine aG 2 (v:=.slice (some ⟨b,off,none⟩) (n+16) cap) rfl (by kernel_rfl) rfl (fun W _=>by go_simp) hm ?_
  go_simp
  refine aG 3 (v:=.int .i64 (n:Int)) rfl (by kernel_rfl) rfl (fun W _=>by go_simp) hm ?_
  go_simp
  refine aG 4 (v:=.slice (some ⟨b,off+n,none⟩) 16 (cap - n)) rfl (by kernel_rfl) rfl (fun W _=>fM av aC n 16 (by omega) (by omega) (by omega) rfl rfl rfl) hm ?_
  go_simp
  refine aG 5 (v:=.string (strOf D)) rfl (by kernel_rfl) rfl (fun W hW=>bd av aZ bH _ rfl (HDS.out _ (Seg.mem HSG.out hW (by simp)))) hm ?_
  go_simp
  refine aG 6 (v:=.bool false) rfl (by kernel_rfl) rfl (fun W _=>gu _ _ _ rfl rfl HNE.out) hm ?_
  go_simp
  refine wpAnyH_done (by kernel_rfl) ?_ _
  simp only [endsIn]
  go_wp2_with fail
  refine ax ?_
  refine az (T:=fun W=>Mem w [] W [(g11,u8s G,118),(g5,u8s ns,97),(g4,u8s ks,39)]) (by kernel_rfl) hm ?_
  clear hm
  intro w6 hm
  refine aG 0 (v:=.agg (u8s ks).toArray) rfl (by kernel_rfl) rfl (fun W hW=>ao 0 _ (Mem.get hW 2 rfl) rfl _ ar rfl 32 am (by rw [HKU.out];omega) (by rw [List.drop_zero,List.take_of_length_le (Nat.le_of_eq HKU.out)])) hm ?_
  go_simp
  refine aG 2 (v:=.agg (u8s ns).toArray) rfl (by kernel_rfl) rfl (fun W hW=>ao 0 _ (Mem.get hW 1 rfl) rfl _ ce rfl 12 cg (by rw [HNU.out];omega) (by rw [List.drop_zero,List.take_of_length_le (Nat.le_of_eq HNU.out)])) hm ?_
  go_simp
  refine aG 3 (v:=.slice (some ⟨b,off,none⟩) (n+16) cap) rfl (by kernel_rfl) rfl (fun W _=>by go_simp) hm ?_
  go_simp
  refine aG 4 (v:=.int .i64 (n:Int)) rfl (by kernel_rfl) rfl (fun W _=>by go_simp) hm ?_
  go_simp
  refine aG 5 (v:=.slice (some ⟨b,off,none⟩) n cap) rfl (by kernel_rfl) rfl (fun W _=>fV av aC n (by omega) rfl rfl rfl) hm ?_
  go_simp
  refine aP 1 (by kernel_rfl) rfl rfl ?_
  intro K hK
  go_wp2_with (go_at_call 60;refine (dV ks _ 0 HKL.out HKB.out (by decide) (by omega) _).mono ?_;rintro e wd ⟨he,hb⟩;rw [HEE.out ()] at he;subst he;replace hm:=hm.call hb;clear hb)
  refine hK _ _ hm ?_
  clear hK K
  refine aP 6 (by kernel_rfl) rfl rfl ?_
  intro K hK
  go_wp2_with (go_at_call 59;refine (fD E ns T 1 _ HEL.out HNL.out HEB.out HNB.out ⟨by omega,by omega⟩ (by rw [HTL.out];omega) _ (HTS.out _ (Seg.mem HSG.out hm (by simp)))).mono ?_;rintro e w7 ⟨v9,he,ho,hb⟩;subst he;rw [HCC.out ()] at ho;have hmT:=hm.call hb;have hOm:=OwnB.mono ho hm.size;obtain ⟨rs,hm2,hso⟩:=Mem.callOwn hm hb ho;obtain ⟨p9,c9,hv9,_⟩:=OwnB.old ho;rw [HCL.out] at hv9;subst hv9;have HSO:Hid (∀W,Mem w [] W rs→SlOld W (.slice p9 n c9) C):=hso;have HOM:Hid (OwnB 5 w7 w.heap.size (.slice p9 n c9) C):=hOm;clear hso ho hb hOm)
  refine hK _ _ hmT ?_
  clear hK K
  refine aG 7 (v:=.slice p9 n c9) rfl (by kernel_rfl) rfl (fun W _=>by go_simp) hmT ?_
  go_simp
  refine aG 8 (v:=.int .i64 0) rfl (by kernel_rfl) rfl (fun W _=>by go_simp) hmT ?_
  go_simp
  refine wpAnyH_done (by kernel_rfl) ?_ _
  simp only [endsIn]
  go_wp2_with fail
  refine bodyPost_ret (results_tmp2 Tryz.results44 _ _ _) rfl ?_
  exact ⟨_,rfl,by rw [HCE.out ()];exact HOM.out,hmT.below⟩
theorem fI (ks ns ds bs:List Int) (va:Value) (b off cap n:Nat) (hn:bs.length=n+16) (hcap:n+16≤cap) (hf:bs.drop n≠tagOf ks ns ds (bs.take n)) (hkl:ks.length=32) (hnl:ns.length=12) (hkb:Bytes ks) (hnb:Bytes ns) (hdb:Bytes ds) (hbb:Bytes bs) (hal:ds.length≤20000) (hbl:bs.length≤20000) (w:World) (hva:SlOld w va ds) (hs:Seg w b off bs) :
  Calls Tryz.prog 44 #[.agg (u8s ks).toArray,.agg (u8s ns).toArray,va,.slice (some ⟨b,off,none⟩) (n+16) cap] w fun e w'=>e=.returned (.tuple #[.slice none 0 0,.int .i64 50])∧Below w.heap.size w w':=by
 obtain ⟨pa,ca,rfl,_⟩:=hva.len
 have hm:=Mem.start w
 have HKL:Hid _:=hkl
 have HNL:Hid _:=hnl
 have HKB:Hid _:=hkb
 have HNB:Hid _:=hnb
 have HKU:Hid ((u8s ks).length=32):=by show _=_;rw [aa];exact hkl
 have HNU:Hid ((u8s ns).length=12):=by show _=_;rw [aa];exact hnl
 have HDB:Hid _:=hdb
 have HA:Hid (SlOld w (.slice pa ds.length ca) ds):=hva
 have HSG:Hid (Seg w b off bs):=hs
 obtain ⟨T,hT⟩:∃T,T=bs.take n:=⟨_,rfl⟩
 have HTL:Hid (T.length=n):=by show _=_;rw [hT,List.length_take];omega
 have HTB:Hid (Bytes T):=by rw [hT];exact hbb.take _
 have HTS:Hid (∀W,Seg W b off bs→SlOld W (.slice (some ⟨b,off,none⟩) n cap) T):=fun W h=>by
  rw [hT]
  exact old_segT h n (by omega) (by omega)
 obtain ⟨D,hD⟩:∃D,D=bs.drop n:=⟨_,rfl⟩
 have HDS:Hid (∀W,Seg W b off bs→SlOld W (.slice (some ⟨b,off+n,none⟩) 16 (cap - n)) D):=fun W h=>by
  rw [hD]
  exact old_segD h n 16 hn (by omega)
 obtain ⟨G,hG⟩:∃G,G=tagOf ks ns ds T:=⟨_,rfl⟩
 have HGG:Hid (∀_:Unit,tagOf ks ns ds T=G):=fun _=>hG.symm
 have HGL:Hid (G.length=16):=by show _=_;rw [hG,b6]
 have HGU:Hid ((u8s G).length=16):=by show _=_;rw [aa];exact HGL.out
 have HNE:Hid ((!(strOf G==strOf D))=true):=by
  show _=_
  rw [←hT,←hD,←hG] at hf
  rw [strOf_eq (by rw [hG];exact fL _ _ _ _) (by rw [hD];exact hbb.drop _)]
  rw [decide_eq_false (Ne.symm hf)];rfl
 have hnl2:n≤20000:=by omega
 have hni:¬(n:Int)<0:=by omega
 clear hkl hnl hkb hnb hdb hbb hva hs hT hD hG hf hn hbl
 go_enter Tryz.func44,Tryz.ntmps44
 go_wp2_with (first
  | ((with_reducible refine ab (some 4) (.box 39 (.tmp 0)) ?_);refine au (u8s ks) rfl hm ?_;clear hm;intro w1 g4 hm)
  | ((with_reducible refine ab (some 5) (.box 97 (.tmp 1)) ?_);refine au (u8s ns) rfl hm ?_;clear hm;intro w2 g5 hm))
 refine ax ?_
 refine az (T:=fun W=>Mem w [] W [(g5,u8s ns,97),(g4,u8s ks,39)]) (by kernel_rfl) hm ?_
 clear hm
 intro w3 hm
 refine aG 0 (v:=.agg (u8s ks).toArray) rfl (by kernel_rfl) rfl (fun W hW=>ao 0 _ (Mem.get hW 1 rfl) rfl _ ar rfl 32 am (by rw [HKU.out];omega) (by rw [List.drop_zero,List.take_of_length_le (Nat.le_of_eq HKU.out)])) hm ?_
 go_simp
 refine aG 1 (v:=.agg (u8s ns).toArray) rfl (by kernel_rfl) rfl (fun W hW=>ao 0 _ (Mem.get hW 0 rfl) rfl _ ce rfl 12 cg (by rw [HNU.out];omega) (by rw [List.drop_zero,List.take_of_length_le (Nat.le_of_eq HNU.out)])) hm ?_
 go_simp
 refine aG 2 (v:=.slice pa ds.length ca) rfl (by kernel_rfl) rfl (fun W _=>by go_simp) hm ?_
 go_simp
 refine aG 3 (v:=.slice (some ⟨b,off,none⟩) (n+16) cap) rfl (by kernel_rfl) rfl (fun W _=>by go_simp) hm ?_
 go_simp
 refine aG 4 (v:=.int .i64 (n:Int)) rfl (by kernel_rfl) rfl (fun W _=>by go_simp) hm ?_
 go_simp
 refine aG 5 (v:=.slice (some ⟨b,off,none⟩) n cap) rfl (by kernel_rfl) rfl (fun W _=>fV av aC n (by omega) rfl rfl rfl) hm ?_
 go_simp
 refine wpAnyH_all (rs:=[6,7]) (by kernel_rfl) (by simp) ?_
 intro i hi
 simp only [List.mem_cons,List.not_mem_nil,or_false] at hi
 rcases hi with rfl|rfl
 ·refine ay 6 rfl rfl ?_
  intro K hK
  go_wp2_with (go_at_call 61;refine (eK ks ns ds T _ _ HKL.out HNL.out HKB.out HNB.out HDB.out HTB.out hal (by rw [HTL.out];exact hnl2) _ (SlOld.mem HA.out hm) (HTS.out _ (Seg.mem HSG.out hm (by simp)))).mono ?_;rintro e wt ⟨he,hb⟩;rw [HGG.out ()] at he;subst he;replace hm:=hm.call hb;clear hb)
  refine hK _ _ hm ?_
  clear hK K
  refine aP 7 (by kernel_rfl) rfl rfl ?_
  intro K hK
  refine af _ cP hm ?_
  clear hm
  intro wa g11 hm
  refine wpList_nil ?_
  refine hK _ _ hm.tail ?_
  clear hK K
  refine aP 8 (by kernel_rfl) rfl rfl ?_
  intro K hK
  refine ah 0 (u8s G) hm rfl rfl rfl 16 bX (by simp [aa]) HGU.out (aj _) ?_
  clear hm
  intro wz hm
  refine wpList_nil ?_
  refine hK _ _ hm.tail ?_
  clear hK K
  refine wpAnyH_done (by kernel_rfl) ?_ _
  simp only [endsIn]
  go_wp2_with fail
  refine ax ?_
  refine az (T:=fun W=>Mem w [] W [(g11,u8s G,118),(g5,u8s ns,97),(g4,u8s ks,39)]) (by kernel_rfl) hm ?_
  clear hm
  intro w4 hm
  refine aG 0 (v:=.slice (some ⟨g11,0,none⟩) 16 16) rfl (by kernel_rfl) rfl (fun W _=>by go_simp) hm ?_
  go_simp
  refine aG 1 (v:=.string (strOf G)) rfl (by kernel_rfl) rfl (fun W hW=>bd av aZ bH _ rfl (aE (Mem.get hW 0 rfl) HGL.out (Nat.le_refl _))) hm ?_
  go_simp
  refine aG 2 (v:=.slice (some ⟨b,off,none⟩) (n+16) cap) rfl (by kernel_rfl) rfl (fun W _=>by go_simp) hm ?_
  go_simp
  refine aG 3 (v:=.int .i64 (n:Int)) rfl (by kernel_rfl) rfl (fun W _=>by go_simp) hm ?_
  go_simp
  refine aG 4 (v:=.slice (some ⟨b,off+n,none⟩) 16 (cap - n)) rfl (by kernel_rfl) rfl (fun W _=>fM av aC n 16 (by omega) (by omega) (by omega) rfl rfl rfl) hm ?_
  go_simp
  refine aG 5 (v:=.string (strOf D)) rfl (by kernel_rfl) rfl (fun W hW=>bd av aZ bH _ rfl (HDS.out _ (Seg.mem HSG.out hW (by simp)))) hm ?_
  go_simp
  refine aG 6 (v:=.bool true) rfl (by kernel_rfl) rfl (fun W _=>gu _ _ _ rfl rfl HNE.out) hm ?_
  go_simp
  refine wpAnyH_done (by kernel_rfl) ?_ _
  simp only [endsIn]
  go_wp2_with fail
  refine bodyPost_ret (results_tmp2 Tryz.results44 _ _ _) rfl ?_
  exact ⟨rfl,hm.below⟩
 ·refine ay 7 rfl rfl ?_
  intro K hK
  refine af _ cP hm ?_
  clear hm
  intro wa g11 hm
  refine wpList_nil ?_
  refine hK _ _ hm.tail ?_
  clear hK K
  refine aP 6 (by kernel_rfl) rfl rfl ?_
  intro K hK
  go_wp2_with (go_at_call 61;refine (eK ks ns ds T _ _ HKL.out HNL.out HKB.out HNB.out HDB.out HTB.out hal (by rw [HTL.out];exact hnl2) _ (SlOld.mem HA.out hm) (HTS.out _ (Seg.mem HSG.out hm (by simp)))).mono ?_;rintro e wt ⟨he,hb⟩;rw [HGG.out ()] at he;subst he;replace hm:=hm.call hb;clear hb)
  refine hK _ _ hm.tail ?_
  clear hK K
  refine aP 8 (by kernel_rfl) rfl rfl ?_
  intro K hK
  refine ah 0 (u8s G) hm rfl rfl rfl 16 bX (by simp [aa]) HGU.out (aj _) ?_
  clear hm
  intro wz hm
  refine wpList_nil ?_
  refine hK _ _ hm.tail ?_
  clear hK K
  refine wpAnyH_done (by kernel_rfl) ?_ _
  simp only [endsIn]
  go_wp2_with fail
  refine ax ?_
  refine az (T:=fun W=>Mem w [] W [(g11,u8s G,118),(g5,u8s ns,97),(g4,u8s ks,39)]) (by kernel_rfl) hm ?_
  clear hm
  intro w4 hm
  refine aG 0 (v:=.slice (some ⟨g11,0,none⟩) 16 16) rfl (by kernel_rfl) rfl (fun W _=>by go_simp) hm ?_
  go_simp
  refine aG 1 (v:=.string (strOf G)) rfl (by kernel_rfl) rfl (fun W hW=>bd av aZ bH _ rfl (aE (Mem.get hW 0 rfl) HGL.out (Nat.le_refl _))) hm ?_
  go_simp
  refine aG 2 (v:=.slice (some ⟨b,off,none⟩) (n+16) cap) rfl (by kernel_rfl) rfl (fun W _=>by go_simp) hm ?_
  go_simp
  refine aG 3 (v:=.int .i64 (n:Int)) rfl (by kernel_rfl) rfl (fun W _=>by go_simp) hm ?_
  go_simp
  refine aG 4 (v:=.slice (some ⟨b,off+n,none⟩) 16 (cap - n)) rfl (by kernel_rfl) rfl (fun W _=>fM av aC n 16 (by omega) (by omega) (by omega) rfl rfl rfl) hm ?_
  go_simp
  refine aG 5 (v:=.string (strOf D)) rfl (by kernel_rfl) rfl (fun W hW=>bd av aZ bH _ rfl (HDS.out _ (Seg.mem HSG.out hW (by simp)))) hm ?_
  go_simp
  refine aG 6 (v:=.bool true) rfl (by kernel_rfl) rfl (fun W _=>gu _ _ _ rfl rfl HNE.out) hm ?_
  go_simp
  refine wpAnyH_done (by kernel_rfl) ?_ _
  simp only [endsIn]
  go_wp2_with fail
  refine bodyPost_ret (results_tmp2 Tryz.results44 _ _ _) rfl ?_
  exact ⟨rfl,hm.below⟩
end Go.Proofs.YtblnljajipbajaaGreatDoor
