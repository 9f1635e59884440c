import Derived.Test.YtdkkdkgdaambiaaGreatDoorQb49
import Derived.Test.YtdkkdkgdaambiaaGreatDoorQb39
set_option maxRecDepth 100000
set_option maxHeartbeats 4000000
namespace Go.Proofs.YtdkkdkgdaambiaaGreatDoor
open Go Go.RowKit Go.Maps
theorem l9 {a:Act} {w:World} {dst:Option Tmp} {typ:TypeId} {pos:String} {aft:Array Edge} {gd:Option (Nat×Bool)} {x y:Operand} (s u:ByteArray) (v:Bool) (hx:a.eval x=.string s) (hy:a.eval y=.string u) (hv:(s != u)=v) :
  (execOp a.eval {dst:=dst,op:=.binOp .neq 9 x y 9,type:=typ,pos:=pos,after:=aft,guard:=gd}).run Tryz.prog w=.ok (.value (.bool v)) w:=by
 unfold execOp
 simp only [hx,hy]
 simp [eqGuard,binOp,go_sem,Op.stringOp]
 rw [←beq_toListBytes,←hv]
 simp [bne]
theorem numL_inj8:∀ {a b:List Int},Bytes a→Bytes b→a.length=b.length→numL a=numL b→a=b:=by
 intro a b ha hb hl h
 have key:∀(n:Nat) (a b:List Int),a.length=n→b.length=n→Bytes a→Bytes b→numL a=numL b→a=b:=by
  intro n
  induction n with
  | zero=>intro a b h1 h2 _ _ _;rw [List.length_eq_zero_iff.1 h1,List.length_eq_zero_iff.1 h2]
  | succ n ih =>
   intro a b h1 h2 ha hb h
   have ea:=gh a n (by omega)
   have eb:=gh b n (by omega)
   rw [List.take_of_length_le (by omega)] at ea eb
   have x1:=Bytes.get ha n
   have x2:=Bytes.get hb n
   rw [ea,eb] at h
   have h3:a.getD n 0=b.getD n 0:=by omega
   have h4:numL (a.take n)=numL (b.take n):=by omega
   have h5:=ih (a.take n) (b.take n) (by rw [List.length_take];omega) (by rw [List.length_take];omega) (Bytes.take ha n) (Bytes.take hb n) h4
   apply List.ext_getElem (by omega)
   intro i hi1 hi2
   by_cases hin:i<n
   ·have h6:=congrArg (fun l=>l[i]?) h5
    simp only [List.getElem?_take,if_pos hin] at h6
    rw [List.getElem?_eq_getElem hi1,List.getElem?_eq_getElem hi2] at h6
    exact Option.some.inj h6
   ·have hin2:i=n:=by omega
    subst hin2
    rw [List.getD_eq_getElem?_getD,List.getD_eq_getElem?_getD,List.getElem?_eq_getElem hi1,List.getElem?_eq_getElem hi2] at h3
    exact h3
 exact key b.length a b hl rfl ha hb h
theorem opens_gen (x:Nat) (was now:List Int) (vw vn:Value) (hwl:was.length=512) (hnl:now.length=512) (hwb:Bytes was) (hnb:Bytes now) (hne:now.take 8≠was.take 8) (w:World) (hvw:SlOld w vw was) (hvn:SlOld w vn now) :
  Calls Tryz.prog 15 #[.int .u32 (x:Int),vw,vn] w fun e w'=>e=.returned (.tuple #[.string (strOf []),.bool false])∧Below w.heap.size w w':=by
 obtain ⟨pw,cw,rfl,hcw⟩:=hvw.len
 obtain ⟨pn,cn,rfl,hcn⟩:=hvn.len
 rw [hwl] at hcw
 rw [hnl] at hcn
 have HVW:Hid (SlOld w (.slice pw was.length cw) was):=hvw
 have HVN:Hid (SlOld w (.slice pn now.length cn) now):=hvn
 rw [hwl] at HVW ⊢
 rw [hnl] at HVN ⊢
 have HNL:Hid (now.length=512):=hnl
 have HNB:Hid (Bytes now):=hnb
 have hm:=Mem.start w
 obtain ⟨X,hX⟩:∃X,X=numL (now.take 8):=⟨_,rfl⟩
 have HX:Hid (∀_:Unit,numL (now.take 8)=X):=fun _=>hX.symm
 obtain ⟨N8,hN8⟩:∃l,l=now.take 8:=⟨_,rfl⟩
 have HN8:Hid (∀_:Unit,now.take 8=N8):=fun _=>hN8.symm
 obtain ⟨W8,hW8⟩:∃l,l=was.take 8:=⟨_,rfl⟩
 have HW8:Hid (∀_:Unit,was.take 8=W8):=fun _=>hW8.symm
 have HNE:Hid ((strOf N8 != strOf W8)=true):=by
  show _=_
  rw [bne,hN8,hW8,fY (Bytes.take hnb 8) (Bytes.take hwb 8),decide_eq_false hne]
  rfl
 clear hvw hvn hwb hnb hX hN8 hW8 hne hwl hnl
 go_enter Tryz.func15,Tryz.ntmps15
 go_wp2_with (first
  | (go_at_call 44;refine (get8_ok now _ 512 cn HNL.out (by omega) HNB.out _ HVN.out).mono ?_;rintro e w1 ⟨v9,he,hb⟩;rw [HX.out ()] at he;subst he;replace hm:=hm.call hb;clear hb))
 refine ar ?_
 refine am (T:=fun W=>Mem w [] W []) (by kernel_rfl) hm ?_
 clear hm
 intro w2 hm
 refine aT 0 (v:=.slice pn 512 cn) rfl (by kernel_rfl) rfl (fun W _=>by go_simp) hm ?_
 go_simp
 refine aT 1 (v:=.slice (cutHi pn cn) 8 cn) rfl (by kernel_rfl) rfl (fun W _=>bC ai av 8 (by omega) rfl rfl rfl) hm ?_
 go_simp
 refine aT 2 (v:=.string (strOf N8)) rfl (by kernel_rfl) rfl (fun W hW=>by rw [←HN8.out ()];exact aA ai aL aR _ rfl (dw (SlOld.mem HVN.out hW) 8 (by omega))) hm ?_
 go_simp
 refine aT 3 (v:=.slice pw 512 cw) rfl (by kernel_rfl) rfl (fun W _=>by go_simp) hm ?_
 go_simp
 refine aT 4 (v:=.slice (cutHi pw cw) 8 cw) rfl (by kernel_rfl) rfl (fun W _=>bC ai av 8 (by omega) rfl rfl rfl) hm ?_
 go_simp
 refine aT 5 (v:=.string (strOf W8)) rfl (by kernel_rfl) rfl (fun W hW=>by rw [←HW8.out ()];exact aA ai aL aR _ rfl (dw (SlOld.mem HVW.out hW) 8 (by omega))) hm ?_
 go_simp
 refine aT 6 (v:=.bool true) rfl (by kernel_rfl) rfl (fun W _=>l9 (strOf N8) (strOf W8) true rfl rfl HNE.out) hm ?_
 go_simp
 refine wpAnyH_done (by kernel_rfl) ?_ _
 simp only [endsIn]
 go_wp2_with fail
 go_ret2
 exact ⟨rfl,hm.below⟩
theorem opens_bad (ks:List Int) (x:Nat) (was now:List Int) (vw vn:Value) (hx:x<4294967296) (hwl:was.length=512) (hnl:now.length=512) (hnb:Bytes now) (hks:deriveOf kNine (strB {data:=#[112,97,103,101]}) 0=ks) (heq:now.take 8=was.take 8) (hbad:fits ks (nonceOf x (numL (now.take 8))) labPage ((now.drop 8).take 498)=false) (w:World) (hvw:SlOld w vw was) (hvn:SlOld w vn now) :
  Calls Tryz.prog 15 #[.int .u32 (x:Int),vw,vn] w fun e w'=>e=.returned (.tuple #[.string (strOf []),.bool false])∧Below w.heap.size w w':=by
 obtain ⟨pw,cw,rfl,hcw⟩:=hvw.len
 obtain ⟨pn,cn,rfl,hcn⟩:=hvn.len
 rw [hwl] at hcw
 rw [hnl] at hcn
 have HVW:Hid (SlOld w (.slice pw was.length cw) was):=hvw
 have HVN:Hid (SlOld w (.slice pn now.length cn) now):=hvn
 rw [hwl] at HVW ⊢
 rw [hnl] at HVN ⊢
 have HNL:Hid (now.length=512):=hnl
 have HNB:Hid (Bytes now):=hnb
 have hm:=Mem.start w
 obtain ⟨X,hX⟩:∃X,X=numL (now.take 8):=⟨_,rfl⟩
 have HX:Hid (∀_:Unit,numL (now.take 8)=X):=fun _=>hX.symm
 obtain ⟨N8,hN8⟩:∃l,l=now.take 8:=⟨_,rfl⟩
 have HN8:Hid (∀_:Unit,now.take 8=N8):=fun _=>hN8.symm
 have HKD:Hid (∀_:Unit,deriveOf kNine (strB {data:=#[112,97,103,101]}) 0=ks):=fun _=>hks
 have HKL:Hid (ks.length=32):=by show _=_;rw [←hks];exact bd _ _ _
 have HKB:Hid (Bytes ks):=by rw [←hks];exact cY _ _ _
 have HKU:Hid ((u8s ks).length=32):=by show _=_;rw [ab,HKL.out]
 obtain ⟨ns,hns⟩:∃ns,ns=nonceOf (x:Int) X:=⟨_,rfl⟩
 have HNS:Hid (∀_:Unit,nonceOf (x:Int) X=ns):=fun _=>hns.symm
 have HNSL:Hid (ns.length=12):=by show _=_;rw [hns,ce]
 have HNSB:Hid (Bytes ns):=by rw [hns];exact dS _ _
 obtain ⟨SB,hSB⟩:∃SB,SB=(now.drop 8).take 498:=⟨_,rfl⟩
 have HSE:Hid (∀_:Unit,(now.drop 8).take 498=SB):=fun _=>hSB.symm
 have HSL:Hid (SB.length=498):=by show _=_;rw [hSB,List.length_take,List.length_drop,hnl];rfl
 have HSB:Hid (Bytes SB):=by rw [hSB];exact (Bytes.drop hnb 8).take 498
 have HW8:Hid (∀_:Unit,was.take 8=N8):=fun _=>by rw [hN8,heq]
 have HNE:Hid ((strOf N8 != strOf N8)=false):=by
  show _=_
  rw [bne,fY (by rw [hN8];exact Bytes.take hnb 8) (by rw [hN8];exact Bytes.take hnb 8),decide_eq_true rfl]
  rfl
 have HTL:Hid (([]:List Int).length=0):=rfl
 have HOC:Hid (openCode ks ns labPage SB=50∧openOf ks ns labPage SB=[]):=by
  show _∧_
  rw [←hSB,←hX,←hns] at hbad
  exact ⟨by rw [openCode,HSL.out,if_neg (by omega),hbad];rfl,by rw [openOf,HSL.out,if_neg (by omega),hbad];rfl⟩
 clear hvw hvn hnb hX hN8 hwl hnl hks heq hbad hns hSB
 obtain ⟨bn,on,hpn⟩:∃b o,pn=some ⟨b,o,none⟩:=by
  obtain ⟨_,_,hs9⟩:=HVN.out.src0
  obtain ⟨b9,o9,e9,_⟩:=hs9 (by omega)
  exact ⟨b9,o9,e9⟩
 subst hpn
 go_enter Tryz.func15,Tryz.ntmps15
 go_wp2_with (first
  | (go_at_call 44;refine (get8_ok now _ 512 cn HNL.out (by omega) HNB.out _ HVN.out).mono ?_;rintro e w1 ⟨v9,he,hb⟩;rw [HX.out ()] at he;subst he;replace hm:=hm.call hb;clear hb))
 refine ar ?_
 refine am (T:=fun W=>Mem w [] W []) (by kernel_rfl) hm ?_
 clear hm
 intro w2 hm
 refine aT 0 (v:=.slice (some ⟨bn,on,none⟩) 512 cn) rfl (by kernel_rfl) rfl (fun W _=>by go_simp) hm ?_
 go_simp
 refine aT 1 (v:=.slice (cutHi (some ⟨bn,on,none⟩) cn) 8 cn) rfl (by kernel_rfl) rfl (fun W _=>bC ai av 8 (by omega) rfl rfl rfl) hm ?_
 go_simp
 refine aT 2 (v:=.string (strOf N8)) rfl (by kernel_rfl) rfl (fun W hW=>by rw [←HN8.out ()];exact aA ai aL aR _ rfl (dw (SlOld.mem HVN.out hW) 8 (by omega))) hm ?_
 go_simp
 refine aT 3 (v:=.slice pw 512 cw) rfl (by kernel_rfl) rfl (fun W _=>by go_simp) hm ?_
 go_simp
 refine aT 4 (v:=.slice (cutHi pw cw) 8 cw) rfl (by kernel_rfl) rfl (fun W _=>bC ai av 8 (by omega) rfl rfl rfl) hm ?_
 go_simp
 refine aT 5 (v:=.string (strOf N8)) rfl (by kernel_rfl) rfl (fun W hW=>by rw [←HW8.out ()];exact aA ai aL aR _ rfl (dw (SlOld.mem HVW.out hW) 8 (by omega))) hm ?_
 go_simp
 refine aT 6 (v:=.bool false) rfl (by kernel_rfl) rfl (fun W _=>l9 (strOf N8) (strOf N8) false rfl rfl HNE.out) hm ?_
 go_simp
 refine wpAnyH_done (by kernel_rfl) ?_ _
 simp only [endsIn]
 go_wp2_with (first
  | ((with_reducible refine aa (some 30) (.build 61 #[(3,.const (.int .u8 9))]) ?_);go_must (refine aS (u8s kNine) _ rfl jA ?_))
  | (go_at_call 45;refine (dX kNine {data:=#[112,97,103,101]} 0 rfl iu (by decide) (by omega) _).mono ?_;rintro e w3 ⟨he,hb⟩;rw [HKD.out ()] at he;subst he;replace hm:=hm.call hb;clear hb)
  | ((with_reducible refine aa (some 11) (.alloc 61) ?_);refine ae _ eu hm ?_;clear hm;intro w4 gk hm)
  | ((with_reducible refine aa none (.store 61 (.tmp 11) (.tmp 31)) ?_);refine af 0 (u8s ks) hm rfl rfl rfl 32 aH (by simp [ab]) (HKU.out) (aj _) ?_;clear hm;intro w5 hm))
 have HGK:Hid (Row w5 gk (u8s ks) 61):=hm.get 0 rfl
 have HSS:Hid (SlOld w5 (.slice (some ⟨bn,on+8,none⟩) 498 (cn - 8)) SB):=by
  have h9:=SlOld.mem HVN.out hm
  obtain ⟨_,_,hs9⟩:=h9.src0
  obtain ⟨b9,o9,e9,hsg⟩:=hs9 (by omega)
  cases e9
  rw [←HSE.out ()]
  have h8:((now.drop 8).take 498).length=498:=by rw [HSE.out (),HSL.out]
  exact ⟨_,_,by rw [h8],by rw [h8];omega,fun _=>⟨bn,on+8,rfl,(hsg.drop 8).take 498⟩⟩
 have HB5:Hid (Below w.heap.size w w5):=hm.below
 clear hm
 have hm:=Mem.start w5
 refine ar ?_
 refine am (T:=fun W=>Mem w5 [] W []) (by kernel_rfl) hm ?_
 clear hm
 intro w6 hm
 refine aT 0 (v:=.agg (u8s ks).toArray) rfl (by kernel_rfl) rfl (fun W hW=>ao 0 _ (Row.below' HGK.out hW.below) rfl _ aJ rfl 32 aH (by rw [HKU.out];omega) (by rw [List.drop_zero,List.take_of_length_le (Nat.le_of_eq HKU.out)])) hm ?_
 go_simp
 refine aT 1 (v:=.int .u32 (x:Int)) rfl (by kernel_rfl) rfl (fun W _=>by go_simp) hm ?_
 go_simp
 refine aT 2 (v:=.int .u64 X) rfl (by kernel_rfl) rfl (fun W _=>by go_simp) hm ?_
 go_simp
 refine aT 6 (v:=.slice (some ⟨bn,on,none⟩) 512 cn) rfl (by kernel_rfl) rfl (fun W _=>by go_simp) hm ?_
 go_simp
 refine aT 7 (v:=.slice (some ⟨bn,on+8,none⟩) 498 (cn - 8)) rfl (by kernel_rfl) rfl (fun W _=>eB ai av 8 (on+8) 498 rfl (by omega) (by omega) rfl rfl rfl rfl rfl) hm ?_
 go_simp
 refine wpAnyH_all (rs:=[3,4]) (by kernel_rfl) (by simp) ?_
 intro i hi
 simp only [List.mem_cons,List.not_mem_nil,or_false] at hi
 rcases hi with rfl|rfl
 ·refine aM 3 rfl rfl ?_
  intro K hK
  go_wp2_with (go_at_call 47;go_loud (refine (dP (x:Int) X (by omega) _).mono ?_;rintro e wx1 ⟨he,hb⟩;rw [HNS.out ()] at he;subst he;replace hm:=hm.call hb;clear hb))
  refine hK _ _ hm ?_
  clear hK K
  refine aO 4 (by kernel_rfl) rfl rfl ?_
  intro K hK
  refine dF ai bA hm ?_
  clear hm
  intro wx2 gA hm hb
  refine wpList_nil ?_
  refine hK _ _ hm.tail ?_
  clear hK K
  refine aO 5 (by kernel_rfl) rfl rfl ?_
  intro K hK
  refine cq labPage rfl ai aL rfl rfl hm ?_
  clear hm
  intro wx3 hm hs
  have HA:Hid (SlOld wx3 (.slice (some ⟨gA,0,none⟩) 4 4) labPage):=hs
  clear hs
  refine wpList_nil ?_
  refine hK _ _ hm ?_
  clear hK K
  refine aO 8 (by kernel_rfl) rfl rfl ?_
  intro K hK
  go_wp2_with (go_at_call 46;refine (d6 ks ns labPage SB _ _ HKL.out HNSL.out HKB.out HNSB.out aI HSB.out (by decide) (by rw [HSL.out];omega) _ HA.out (SlOld.mem HSS.out hm)).mono ?_;rintro e wo ⟨v',he,ho,hb⟩;rw [HOC.out.1] at he;rw [HOC.out.2] at ho;obtain ⟨px,cx,hvx,hcx,hsx⟩:=OwnB.old ho;rw [HTL.out] at hvx;subst hvx;subst he;have HXO:Hid (SlOld wo (.slice px 0 cx) []):=⟨px,cx,by rw [HTL.out],hcx,hsx⟩;replace hm:=hm.call hb;clear hb ho hcx hsx)
  refine hK _ _ hm ?_
  clear hK K
  refine aT 9 (v:=.tuple #[.slice px 0 cx,.int .i64 50]) rfl (by kernel_rfl) rfl (fun W _=>by go_simp) hm ?_
  go_simp
  refine aT 10 (v:=.slice px 0 cx) rfl (by kernel_rfl) rfl (fun W _=>by go_simp) hm ?_
  go_simp
  refine aT 11 (v:=.int .i64 50) rfl (by kernel_rfl) rfl (fun W _=>by go_simp) hm ?_
  go_simp
  refine aT 12 (v:=.slice px 0 cx) rfl (by kernel_rfl) rfl (fun W _=>by go_simp) hm ?_
  go_simp
  refine aT 13 (v:=.int .i64 50) rfl (by kernel_rfl) rfl (fun W _=>by go_simp) hm ?_
  go_simp
  refine wpAnyH_done (by kernel_rfl) ?_ _
  simp only [endsIn]
  go_wp2_with fail
  go_ret2
  exact ⟨rfl,HB5.out.trans (hm.below.mono HB5.out.size)⟩
 ·refine aM 4 rfl rfl ?_
  intro K hK
  refine dF ai bA hm ?_
  clear hm
  intro wx1 gA hm hb
  refine wpList_nil ?_
  refine hK _ _ hm.tail ?_
  clear hK K
  refine wpAnyH_all (rs:=[3,5]) (by kernel_rfl) (by simp) ?_
  intro i hi
  simp only [List.mem_cons,List.not_mem_nil,or_false] at hi
  rcases hi with rfl|rfl
  ·refine aM 3 rfl rfl ?_
   intro K hK
   go_wp2_with (go_at_call 47;go_loud (refine (dP (x:Int) X (by omega) _).mono ?_;rintro e wx2 ⟨he,hb⟩;rw [HNS.out ()] at he;subst he;replace hm:=hm.call hb;clear hb))
   refine hK _ _ hm.tail ?_
   clear hK K
   refine aO 5 (by kernel_rfl) rfl rfl ?_
   intro K hK
   refine cq labPage rfl ai aL rfl rfl hm ?_
   clear hm
   intro wx3 hm hs
   have HA:Hid (SlOld wx3 (.slice (some ⟨gA,0,none⟩) 4 4) labPage):=hs
   clear hs
   refine wpList_nil ?_
   refine hK _ _ hm ?_
   clear hK K
   refine aO 8 (by kernel_rfl) rfl rfl ?_
   intro K hK
   go_wp2_with (go_at_call 46;refine (d6 ks ns labPage SB _ _ HKL.out HNSL.out HKB.out HNSB.out aI HSB.out (by decide) (by rw [HSL.out];omega) _ HA.out (SlOld.mem HSS.out hm)).mono ?_;rintro e wo ⟨v',he,ho,hb⟩;rw [HOC.out.1] at he;rw [HOC.out.2] at ho;obtain ⟨px,cx,hvx,hcx,hsx⟩:=OwnB.old ho;rw [HTL.out] at hvx;subst hvx;subst he;have HXO:Hid (SlOld wo (.slice px 0 cx) []):=⟨px,cx,by rw [HTL.out],hcx,hsx⟩;replace hm:=hm.call hb;clear hb ho hcx hsx)
   refine hK _ _ hm ?_
   clear hK K
   refine aT 9 (v:=.tuple #[.slice px 0 cx,.int .i64 50]) rfl (by kernel_rfl) rfl (fun W _=>by go_simp) hm ?_
   go_simp
   refine aT 10 (v:=.slice px 0 cx) rfl (by kernel_rfl) rfl (fun W _=>by go_simp) hm ?_
   go_simp
   refine aT 11 (v:=.int .i64 50) rfl (by kernel_rfl) rfl (fun W _=>by go_simp) hm ?_
   go_simp
   refine aT 12 (v:=.slice px 0 cx) rfl (by kernel_rfl) rfl (fun W _=>by go_simp) hm ?_
   go_simp
   refine aT 13 (v:=.int .i64 50) rfl (by kernel_rfl) rfl (fun W _=>by go_simp) hm ?_
   go_simp
   refine wpAnyH_done (by kernel_rfl) ?_ _
   simp only [endsIn]
   go_wp2_with fail
   go_ret2
   exact ⟨rfl,HB5.out.trans (hm.below.mono HB5.out.size)⟩
  ·refine aM 5 rfl rfl ?_
   intro K hK
   refine cq labPage rfl ai aL rfl rfl hm ?_
   clear hm
   intro wx2 hm hs
   have HA:Hid (SlOld wx2 (.slice (some ⟨gA,0,none⟩) 4 4) labPage):=hs
   clear hs
   refine wpList_nil ?_
   refine hK _ _ hm ?_
   clear hK K
   refine aO 3 (by kernel_rfl) rfl rfl ?_
   intro K hK
   go_wp2_with (go_at_call 47;go_loud (refine (dP (x:Int) X (by omega) _).mono ?_;rintro e wx3 ⟨he,hb⟩;rw [HNS.out ()] at he;subst he;have HA:Hid (SlOld wx3 (.slice (some ⟨gA,0,none⟩) 4 4) labPage):=SlOld.bel HA.out hb;replace hm:=hm.call hb;clear hb))
   refine hK _ _ hm ?_
   clear hK K
   refine aO 8 (by kernel_rfl) rfl rfl ?_
   intro K hK
   go_wp2_with (go_at_call 46;refine (d6 ks ns labPage SB _ _ HKL.out HNSL.out HKB.out HNSB.out aI HSB.out (by decide) (by rw [HSL.out];omega) _ HA.out (SlOld.mem HSS.out hm)).mono ?_;rintro e wo ⟨v',he,ho,hb⟩;rw [HOC.out.1] at he;rw [HOC.out.2] at ho;obtain ⟨px,cx,hvx,hcx,hsx⟩:=OwnB.old ho;rw [HTL.out] at hvx;subst hvx;subst he;have HXO:Hid (SlOld wo (.slice px 0 cx) []):=⟨px,cx,by rw [HTL.out],hcx,hsx⟩;replace hm:=hm.call hb;clear hb ho hcx hsx)
   refine hK _ _ hm ?_
   clear hK K
   refine aT 9 (v:=.tuple #[.slice px 0 cx,.int .i64 50]) rfl (by kernel_rfl) rfl (fun W _=>by go_simp) hm ?_
   go_simp
   refine aT 10 (v:=.slice px 0 cx) rfl (by kernel_rfl) rfl (fun W _=>by go_simp) hm ?_
   go_simp
   refine aT 11 (v:=.int .i64 50) rfl (by kernel_rfl) rfl (fun W _=>by go_simp) hm ?_
   go_simp
   refine aT 12 (v:=.slice px 0 cx) rfl (by kernel_rfl) rfl (fun W _=>by go_simp) hm ?_
   go_simp
   refine aT 13 (v:=.int .i64 50) rfl (by kernel_rfl) rfl (fun W _=>by go_simp) hm ?_
   go_simp
   refine wpAnyH_done (by kernel_rfl) ?_ _
   simp only [endsIn]
   go_wp2_with fail
   go_ret2
   exact ⟨rfl,HB5.out.trans (hm.below.mono HB5.out.size)⟩
theorem opens_good (ks:List Int) (x:Nat) (was now:List Int) (vw vn:Value) (hx:x<4294967296) (hwl:was.length=512) (hnl:now.length=512) (hnb:Bytes now) (hks:deriveOf kNine (strB {data:=#[112,97,103,101]}) 0=ks) (heq:now.take 8=was.take 8) (hok:fits ks (nonceOf x (numL (now.take 8))) labPage ((now.drop 8).take 498)=true) (w:World) (hvw:SlOld w vw was) (hvn:SlOld w vn now) :
  Calls Tryz.prog 15 #[.int .u32 (x:Int),vw,vn] w fun e w'=>e=.returned (.tuple #[.string (strOf (plainP ks x (numL (now.take 8)) now)),.bool true])∧Below w.heap.size w w':=by
 obtain ⟨pw,cw,rfl,hcw⟩:=hvw.len
 obtain ⟨pn,cn,rfl,hcn⟩:=hvn.len
 rw [hwl] at hcw
 rw [hnl] at hcn
 have HVW:Hid (SlOld w (.slice pw was.length cw) was):=hvw
 have HVN:Hid (SlOld w (.slice pn now.length cn) now):=hvn
 rw [hwl] at HVW ⊢
 rw [hnl] at HVN ⊢
 have HNL:Hid (now.length=512):=hnl
 have HNB:Hid (Bytes now):=hnb
 have hm:=Mem.start w
 obtain ⟨X,hX⟩:∃X,X=numL (now.take 8):=⟨_,rfl⟩
 have HX:Hid (∀_:Unit,numL (now.take 8)=X):=fun _=>hX.symm
 obtain ⟨N8,hN8⟩:∃l,l=now.take 8:=⟨_,rfl⟩
 have HN8:Hid (∀_:Unit,now.take 8=N8):=fun _=>hN8.symm
 have HKD:Hid (∀_:Unit,deriveOf kNine (strB {data:=#[112,97,103,101]}) 0=ks):=fun _=>hks
 have HKL:Hid (ks.length=32):=by show _=_;rw [←hks];exact bd _ _ _
 have HKB:Hid (Bytes ks):=by rw [←hks];exact cY _ _ _
 have HKU:Hid ((u8s ks).length=32):=by show _=_;rw [ab,HKL.out]
 obtain ⟨ns,hns⟩:∃ns,ns=nonceOf (x:Int) X:=⟨_,rfl⟩
 have HNS:Hid (∀_:Unit,nonceOf (x:Int) X=ns):=fun _=>hns.symm
 have HNSL:Hid (ns.length=12):=by show _=_;rw [hns,ce]
 have HNSB:Hid (Bytes ns):=by rw [hns];exact dS _ _
 obtain ⟨SB,hSB⟩:∃SB,SB=(now.drop 8).take 498:=⟨_,rfl⟩
 have HSE:Hid (∀_:Unit,(now.drop 8).take 498=SB):=fun _=>hSB.symm
 have HSL:Hid (SB.length=498):=by show _=_;rw [hSB,List.length_take,List.length_drop,hnl];rfl
 have HSB:Hid (Bytes SB):=by rw [hSB];exact (Bytes.drop hnb 8).take 498
 have HW8:Hid (∀_:Unit,was.take 8=N8):=fun _=>by rw [hN8,heq]
 have HNE:Hid ((strOf N8 != strOf N8)=false):=by
  show _=_
  rw [bne,fY (by rw [hN8];exact Bytes.take hnb 8) (by rw [hN8];exact Bytes.take hnb 8),decide_eq_true rfl]
  rfl
 obtain ⟨TX,hTX⟩:∃TX,TX=encOf ks ns (SB.take 482):=⟨_,rfl⟩
 have HTL:Hid (TX.length=482):=by show _=_;rw [hTX,cI,List.length_take,HSL.out];rfl
 have HTB:Hid (Bytes TX):=by rw [hTX];exact eL _ _ (Bytes.take HSB.out _)
 have HOC:Hid (openCode ks ns labPage SB=0∧openOf ks ns labPage SB=TX):=by
  show _∧_
  rw [←hSB,←hX,←hns] at hok
  exact ⟨by rw [openCode,HSL.out,if_neg (by omega),hok];rfl,by rw [openOf,HSL.out,if_neg (by omega),hok,hTX];rfl⟩
 obtain ⟨SZ,hSZ⟩:∃SZ,SZ=numL (TX.take 2):=⟨_,rfl⟩
 have HSZ:Hid (∀_:Unit,numL (TX.take 2)=SZ):=fun _=>hSZ.symm
 have hz0:0≤SZ:=by rw [hSZ];exact bH (Bytes.take HTB.out 2)
 have hz1:SZ<65536:=by
  have h:=eD (Bytes.take HTB.out 2)
  rw [List.length_take,HTL.out,show min 2 482=2 from rfl,←hSZ] at h
  have h2:(256:Int) ^ 2=65536:=by decide
  omega
 obtain ⟨mm,hmd⟩:∃mm:Nat,mm=(min SZ 480).toNat:=⟨_,rfl⟩
 have hm480:mm≤480:=by omega
 have hcase:(¬(480:Int)<SZ∧¬SZ > 480∧(mm:Int)=SZ)∨((480:Int)<SZ∧SZ > 480∧(mm:Int)=480):=by omega
 obtain ⟨RS,hRS⟩:∃RS,RS=plainP ks x (numL (now.take 8)) now:=⟨_,rfl⟩
 have HRES:Hid (∀_:Unit,(TX.drop 2).take mm=RS):=fun _=>by
  rw [hRS]
  unfold plainP
  rw [←hX,←hns,←hSB,←hTX,←hSZ,hmd]
 rw [←hRS]
 clear hvw hvn hnb hX hN8 hwl hnl hks heq hok hns hSB hTX hSZ hRS hmd
 obtain ⟨bn,on,hpn⟩:∃b o,pn=some ⟨b,o,none⟩:=by
  obtain ⟨_,_,hs9⟩:=HVN.out.src0
  obtain ⟨b9,o9,e9,_⟩:=hs9 (by omega)
  exact ⟨b9,o9,e9⟩
 subst hpn
 go_enter Tryz.func15,Tryz.ntmps15
 go_wp2_with (first
  | (go_at_call 44;refine (get8_ok now _ 512 cn HNL.out (by omega) HNB.out _ HVN.out).mono ?_;rintro e w1 ⟨v9,he,hb⟩;rw [HX.out ()] at he;subst he;replace hm:=hm.call hb;clear hb))
 refine ar ?_
 refine am (T:=fun W=>Mem w [] W []) (by kernel_rfl) hm ?_
 clear hm
 intro w2 hm
 refine aT 0 (v:=.slice (some ⟨bn,on,none⟩) 512 cn) rfl (by kernel_rfl) rfl (fun W _=>by go_simp) hm ?_
 go_simp
 refine aT 1 (v:=.slice (cutHi (some ⟨bn,on,none⟩) cn) 8 cn) rfl (by kernel_rfl) rfl (fun W _=>bC ai av 8 (by omega) rfl rfl rfl) hm ?_
 go_simp
 refine aT 2 (v:=.string (strOf N8)) rfl (by kernel_rfl) rfl (fun W hW=>by rw [←HN8.out ()];exact aA ai aL aR _ rfl (dw (SlOld.mem HVN.out hW) 8 (by omega))) hm ?_
 go_simp
 refine aT 3 (v:=.slice pw 512 cw) rfl (by kernel_rfl) rfl (fun W _=>by go_simp) hm ?_
 go_simp
 refine aT 4 (v:=.slice (cutHi pw cw) 8 cw) rfl (by kernel_rfl) rfl (fun W _=>bC ai av 8 (by omega) rfl rfl rfl) hm ?_
 go_simp
 refine aT 5 (v:=.string (strOf N8)) rfl (by kernel_rfl) rfl (fun W hW=>by rw [←HW8.out ()];exact aA ai aL aR _ rfl (dw (SlOld.mem HVW.out hW) 8 (by omega))) hm ?_
 go_simp
 refine aT 6 (v:=.bool false) rfl (by kernel_rfl) rfl (fun W _=>l9 (strOf N8) (strOf N8) false rfl rfl HNE.out) hm ?_
 go_simp
 refine wpAnyH_done (by kernel_rfl) ?_ _
 simp only [endsIn]
 go_wp2_with (first
  | ((with_reducible refine aa (some 30) (.build 61 #[(3,.const (.int .u8 9))]) ?_);go_must (refine aS (u8s kNine) _ rfl jA ?_))
  | (go_at_call 45;refine (dX kNine {data:=#[112,97,103,101]} 0 rfl iu (by decide) (by omega) _).mono ?_;rintro e w3 ⟨he,hb⟩;rw [HKD.out ()] at he;subst he;replace hm:=hm.call hb;clear hb)
  | ((with_reducible refine aa (some 11) (.alloc 61) ?_);refine ae _ eu hm ?_;clear hm;intro w4 gk hm)
  | ((with_reducible refine aa none (.store 61 (.tmp 11) (.tmp 31)) ?_);refine af 0 (u8s ks) hm rfl rfl rfl 32 aH (by simp [ab]) (HKU.out) (aj _) ?_;clear hm;intro w5 hm))
 have HGK:Hid (Row w5 gk (u8s ks) 61):=hm.get 0 rfl
 have HSS:Hid (SlOld w5 (.slice (some ⟨bn,on+8,none⟩) 498 (cn - 8)) SB):=by
  have h9:=SlOld.mem HVN.out hm
  obtain ⟨_,_,hs9⟩:=h9.src0
  obtain ⟨b9,o9,e9,hsg⟩:=hs9 (by omega)
  cases e9
  rw [←HSE.out ()]
  have h8:((now.drop 8).take 498).length=498:=by rw [HSE.out (),HSL.out]
  exact ⟨_,_,by rw [h8],by rw [h8];omega,fun _=>⟨bn,on+8,rfl,(hsg.drop 8).take 498⟩⟩
 have HB5:Hid (Below w.heap.size w w5):=hm.below
 clear hm
 have hm:=Mem.start w5
 refine ar ?_
 refine am (T:=fun W=>Mem w5 [] W []) (by kernel_rfl) hm ?_
 clear hm
 intro w6 hm
 refine aT 0 (v:=.agg (u8s ks).toArray) rfl (by kernel_rfl) rfl (fun W hW=>ao 0 _ (Row.below' HGK.out hW.below) rfl _ aJ rfl 32 aH (by rw [HKU.out];omega) (by rw [List.drop_zero,List.take_of_length_le (Nat.le_of_eq HKU.out)])) hm ?_
 go_simp
 refine aT 1 (v:=.int .u32 (x:Int)) rfl (by kernel_rfl) rfl (fun W _=>by go_simp) hm ?_
 go_simp
 refine aT 2 (v:=.int .u64 X) rfl (by kernel_rfl) rfl (fun W _=>by go_simp) hm ?_
 go_simp
 refine aT 6 (v:=.slice (some ⟨bn,on,none⟩) 512 cn) rfl (by kernel_rfl) rfl (fun W _=>by go_simp) hm ?_
 go_simp
 refine aT 7 (v:=.slice (some ⟨bn,on+8,none⟩) 498 (cn - 8)) rfl (by kernel_rfl) rfl (fun W _=>eB ai av 8 (on+8) 498 rfl (by omega) (by omega) rfl rfl rfl rfl rfl) hm ?_
 go_simp
 refine wpAnyH_all (rs:=[3,4]) (by kernel_rfl) (by simp) ?_
 intro i hi
 simp only [List.mem_cons,List.not_mem_nil,or_false] at hi
 rcases hi with rfl|rfl
 ·refine aM 3 rfl rfl ?_
  intro K hK
  go_wp2_with (go_at_call 47;go_loud (refine (dP (x:Int) X (by omega) _).mono ?_;rintro e wx1 ⟨he,hb⟩;rw [HNS.out ()] at he;subst he;replace hm:=hm.call hb;clear hb))
  refine hK _ _ hm ?_
  clear hK K
  refine aO 4 (by kernel_rfl) rfl rfl ?_
  intro K hK
  refine dF ai bA hm ?_
  clear hm
  intro wx2 gA hm hb
  refine wpList_nil ?_
  refine hK _ _ hm.tail ?_
  clear hK K
  refine aO 5 (by kernel_rfl) rfl rfl ?_
  intro K hK
  refine cq labPage rfl ai aL rfl rfl hm ?_
  clear hm
  intro wx3 hm hs
  have HA:Hid (SlOld wx3 (.slice (some ⟨gA,0,none⟩) 4 4) labPage):=hs
  clear hs
  refine wpList_nil ?_
  refine hK _ _ hm ?_
  clear hK K
  refine aO 8 (by kernel_rfl) rfl rfl ?_
  intro K hK
  go_wp2_with (go_at_call 46;refine (d6 ks ns labPage SB _ _ HKL.out HNSL.out HKB.out HNSB.out aI HSB.out (by decide) (by rw [HSL.out];omega) _ HA.out (SlOld.mem HSS.out hm)).mono ?_;rintro e wo ⟨v',he,ho,hb⟩;rw [HOC.out.1] at he;rw [HOC.out.2] at ho;obtain ⟨px,cx,hvx,hcx,hsx⟩:=OwnB.old ho;rw [HTL.out] at hvx;subst hvx;subst he;have HXO:Hid (SlOld wo (.slice px 482 cx) TX):=⟨px,cx,by rw [HTL.out],hcx,hsx⟩;replace hm:=hm.call hb;clear hb ho hcx hsx)
  refine hK _ _ hm ?_
  clear hK K
  refine aT 9 (v:=.tuple #[.slice px 482 cx,.int .i64 0]) rfl (by kernel_rfl) rfl (fun W _=>by go_simp) hm ?_
  go_simp
  refine aT 10 (v:=.slice px 482 cx) rfl (by kernel_rfl) rfl (fun W _=>by go_simp) hm ?_
  go_simp
  refine aT 11 (v:=.int .i64 0) rfl (by kernel_rfl) rfl (fun W _=>by go_simp) hm ?_
  go_simp
  refine aT 12 (v:=.slice px 482 cx) rfl (by kernel_rfl) rfl (fun W _=>by go_simp) hm ?_
  go_simp
  refine aT 13 (v:=.int .i64 0) rfl (by kernel_rfl) rfl (fun W _=>by go_simp) hm ?_
  go_simp
  refine wpAnyH_done (by kernel_rfl) ?_ _
  simp only [endsIn]
  rcases hcase with ⟨hcs,hcs2,hmm⟩|⟨hcs,hcs2,hmm⟩
  ·have HMM:Hid ((mm:Int)=SZ):=hmm
   clear hmm
   go_wp2_with (first
    | (go_at_call 44;refine (i5 TX px cx HTL.out HTB.out _ HXO.out).mono ?_;rintro e wg ⟨py,cy,he,hcy,hvy,hb⟩;rw [HSZ.out ()] at he;subst he;have HVY:Hid (SlOld wg (.slice py 480 cy) (TX.drop 2)):=hvy;replace hm:=hm.call hb;clear hb hvy)
    | ((with_reducible refine aa (some 58) (.slice 22 (.tmp 52) none (some (.tmp 57)) none) ?_);go_must (refine ag (.slice (cutHi py cy) mm cy) rfl (bC ai av mm (by omega) rfl rfl (by have:=HMM.out;omega)) ?_))
    | ((with_reducible refine aa (some 59) (.convert 22 9 (.tmp 58)) ?_);go_must (refine ag (.string (strOf RS)) rfl (by rw [←HRES.out ()];exact aA ai aL aR _ rfl (dw HVY.out mm (by omega))) ?_)))
   go_ret2
   exact ⟨rfl,HB5.out.trans (hm.below.mono HB5.out.size)⟩
  ·have HMM:Hid ((mm:Int)=480):=hmm
   clear hmm
   go_wp2_with (first
    | (go_at_call 44;refine (i5 TX px cx HTL.out HTB.out _ HXO.out).mono ?_;rintro e wg ⟨py,cy,he,hcy,hvy,hb⟩;rw [HSZ.out ()] at he;subst he;have HVY:Hid (SlOld wg (.slice py 480 cy) (TX.drop 2)):=hvy;replace hm:=hm.call hb;clear hb hvy)
    | ((with_reducible refine aa (some 58) (.slice 22 (.tmp 52) none (some (.tmp 57)) none) ?_);go_must (refine ag (.slice (cutHi py cy) mm cy) rfl (bC ai av mm (by omega) rfl rfl (by have:=HMM.out;omega)) ?_))
    | ((with_reducible refine aa (some 59) (.convert 22 9 (.tmp 58)) ?_);go_must (refine ag (.string (strOf RS)) rfl (by rw [←HRES.out ()];exact aA ai aL aR _ rfl (dw HVY.out mm (by omega))) ?_)))
   go_ret2
   exact ⟨rfl,HB5.out.trans (hm.below.mono HB5.out.size)⟩
 ·refine aM 4 rfl rfl ?_
  intro K hK
  refine dF ai bA hm ?_
  clear hm
  intro wx1 gA hm hb
  refine wpList_nil ?_
  refine hK _ _ hm.tail ?_
  clear hK K
  refine wpAnyH_all (rs:=[3,5]) (by kernel_rfl) (by simp) ?_
  intro i hi
  simp only [List.mem_cons,List.not_mem_nil,or_false] at hi
  rcases hi with rfl|rfl
  ·refine aM 3 rfl rfl ?_
   intro K hK
   go_wp2_with (go_at_call 47;go_loud (refine (dP (x:Int) X (by omega) _).mono ?_;rintro e wx2 ⟨he,hb⟩;rw [HNS.out ()] at he;subst he;replace hm:=hm.call hb;clear hb))
   refine hK _ _ hm.tail ?_
   clear hK K
   refine aO 5 (by kernel_rfl) rfl rfl ?_
   intro K hK
   refine cq labPage rfl ai aL rfl rfl hm ?_
   clear hm
   intro wx3 hm hs
   have HA:Hid (SlOld wx3 (.slice (some ⟨gA,0,none⟩) 4 4) labPage):=hs
   clear hs
   refine wpList_nil ?_
   refine hK _ _ hm ?_
   clear hK K
   refine aO 8 (by kernel_rfl) rfl rfl ?_
   intro K hK
   go_wp2_with (go_at_call 46;refine (d6 ks ns labPage SB _ _ HKL.out HNSL.out HKB.out HNSB.out aI HSB.out (by decide) (by rw [HSL.out];omega) _ HA.out (SlOld.mem HSS.out hm)).mono ?_;rintro e wo ⟨v',he,ho,hb⟩;rw [HOC.out.1] at he;rw [HOC.out.2] at ho;obtain ⟨px,cx,hvx,hcx,hsx⟩:=OwnB.old ho;rw [HTL.out] at hvx;subst hvx;subst he;have HXO:Hid (SlOld wo (.slice px 482 cx) TX):=⟨px,cx,by rw [HTL.out],hcx,hsx⟩;replace hm:=hm.call hb;clear hb ho hcx hsx)
   refine hK _ _ hm ?_
   clear hK K
   refine aT 9 (v:=.tuple #[.slice px 482 cx,.int .i64 0]) rfl (by kernel_rfl) rfl (fun W _=>by go_simp) hm ?_
   go_simp
   refine aT 10 (v:=.slice px 482 cx) rfl (by kernel_rfl) rfl (fun W _=>by go_simp) hm ?_
   go_simp
   refine aT 11 (v:=.int .i64 0) rfl (by kernel_rfl) rfl (fun W _=>by go_simp) hm ?_
   go_simp
   refine aT 12 (v:=.slice px 482 cx) rfl (by kernel_rfl) rfl (fun W _=>by go_simp) hm ?_
   go_simp
   refine aT 13 (v:=.int .i64 0) rfl (by kernel_rfl) rfl (fun W _=>by go_simp) hm ?_
   go_simp
   refine wpAnyH_done (by kernel_rfl) ?_ _
   simp only [endsIn]
   rcases hcase with ⟨hcs,hcs2,hmm⟩|⟨hcs,hcs2,hmm⟩
   ·have HMM:Hid ((mm:Int)=SZ):=hmm
    clear hmm
    go_wp2_with (first
     | (go_at_call 44;refine (i5 TX px cx HTL.out HTB.out _ HXO.out).mono ?_;rintro e wg ⟨py,cy,he,hcy,hvy,hb⟩;rw [HSZ.out ()] at he;subst he;have HVY:Hid (SlOld wg (.slice py 480 cy) (TX.drop 2)):=hvy;replace hm:=hm.call hb;clear hb hvy)
     | ((with_reducible refine aa (some 58) (.slice 22 (.tmp 52) none (some (.tmp 57)) none) ?_);go_must (refine ag (.slice (cutHi py cy) mm cy) rfl (bC ai av mm (by omega) rfl rfl (by have:=HMM.out;omega)) ?_))
     | ((with_reducible refine aa (some 59) (.convert 22 9 (.tmp 58)) ?_);go_must (refine ag (.string (strOf RS)) rfl (by rw [←HRES.out ()];exact aA ai aL aR _ rfl (dw HVY.out mm (by omega))) ?_)))
    go_ret2
    exact ⟨rfl,HB5.out.trans (hm.below.mono HB5.out.size)⟩
   ·have HMM:Hid ((mm:Int)=480):=hmm
    clear hmm
    go_wp2_with (first
     | (go_at_call 44;refine (i5 TX px cx HTL.out HTB.out _ HXO.out).mono ?_;rintro e wg ⟨py,cy,he,hcy,hvy,hb⟩;rw [HSZ.out ()] at he;subst he;have HVY:Hid (SlOld wg (.slice py 480 cy) (TX.drop 2)):=hvy;replace hm:=hm.call hb;clear hb hvy)
     | ((with_reducible refine aa (some 58) (.slice 22 (.tmp 52) none (some (.tmp 57)) none) ?_);go_must (refine ag (.slice (cutHi py cy) mm cy) rfl (bC ai av mm (by omega) rfl rfl (by have:=HMM.out;omega)) ?_))
     | ((with_reducible refine aa (some 59) (.convert 22 9 (.tmp 58)) ?_);go_must (refine ag (.string (strOf RS)) rfl (by rw [←HRES.out ()];exact aA ai aL aR _ rfl (dw HVY.out mm (by omega))) ?_)))
    go_ret2
    exact ⟨rfl,HB5.out.trans (hm.below.mono HB5.out.size)⟩
  ·refine aM 5 rfl rfl ?_
   intro K hK
   refine cq labPage rfl ai aL rfl rfl hm ?_
   clear hm
   intro wx2 hm hs
   have HA:Hid (SlOld wx2 (.slice (some ⟨gA,0,none⟩) 4 4) labPage):=hs
   clear hs
   refine wpList_nil ?_
   refine hK _ _ hm ?_
   clear hK K
   refine aO 3 (by kernel_rfl) rfl rfl ?_
   intro K hK
   go_wp2_with (go_at_call 47;go_loud (refine (dP (x:Int) X (by omega) _).mono ?_;rintro e wx3 ⟨he,hb⟩;rw [HNS.out ()] at he;subst he;have HA:Hid (SlOld wx3 (.slice (some ⟨gA,0,none⟩) 4 4) labPage):=SlOld.bel HA.out hb;replace hm:=hm.call hb;clear hb))
   refine hK _ _ hm ?_
   clear hK K
   refine aO 8 (by kernel_rfl) rfl rfl ?_
   intro K hK
   go_wp2_with (go_at_call 46;refine (d6 ks ns labPage SB _ _ HKL.out HNSL.out HKB.out HNSB.out aI HSB.out (by decide) (by rw [HSL.out];omega) _ HA.out (SlOld.mem HSS.out hm)).mono ?_;rintro e wo ⟨v',he,ho,hb⟩;rw [HOC.out.1] at he;rw [HOC.out.2] at ho;obtain ⟨px,cx,hvx,hcx,hsx⟩:=OwnB.old ho;rw [HTL.out] at hvx;subst hvx;subst he;have HXO:Hid (SlOld wo (.slice px 482 cx) TX):=⟨px,cx,by rw [HTL.out],hcx,hsx⟩;replace hm:=hm.call hb;clear hb ho hcx hsx)
   refine hK _ _ hm ?_
   clear hK K
   refine aT 9 (v:=.tuple #[.slice px 482 cx,.int .i64 0]) rfl (by kernel_rfl) rfl (fun W _=>by go_simp) hm ?_
   go_simp
   refine aT 10 (v:=.slice px 482 cx) rfl (by kernel_rfl) rfl (fun W _=>by go_simp) hm ?_
   go_simp
   refine aT 11 (v:=.int .i64 0) rfl (by kernel_rfl) rfl (fun W _=>by go_simp) hm ?_
   go_simp
   refine aT 12 (v:=.slice px 482 cx) rfl (by kernel_rfl) rfl (fun W _=>by go_simp) hm ?_
   go_simp
   refine aT 13 (v:=.int .i64 0) rfl (by kernel_rfl) rfl (fun W _=>by go_simp) hm ?_
   go_simp
   refine wpAnyH_done (by kernel_rfl) ?_ _
   simp only [endsIn]
   rcases hcase with ⟨hcs,hcs2,hmm⟩|⟨hcs,hcs2,hmm⟩
   ·have HMM:Hid ((mm:Int)=SZ):=hmm
    clear hmm
    go_wp2_with (first
     | (go_at_call 44;refine (i5 TX px cx HTL.out HTB.out _ HXO.out).mono ?_;rintro e wg ⟨py,cy,he,hcy,hvy,hb⟩;rw [HSZ.out ()] at he;subst he;have HVY:Hid (SlOld wg (.slice py 480 cy) (TX.drop 2)):=hvy;replace hm:=hm.call hb;clear hb hvy)
     | ((with_reducible refine aa (some 58) (.slice 22 (.tmp 52) none (some (.tmp 57)) none) ?_);go_must (refine ag (.slice (cutHi py cy) mm cy) rfl (bC ai av mm (by omega) rfl rfl (by have:=HMM.out;omega)) ?_))
     | ((with_reducible refine aa (some 59) (.convert 22 9 (.tmp 58)) ?_);go_must (refine ag (.string (strOf RS)) rfl (by rw [←HRES.out ()];exact aA ai aL aR _ rfl (dw HVY.out mm (by omega))) ?_)))
    go_ret2
    exact ⟨rfl,HB5.out.trans (hm.below.mono HB5.out.size)⟩
   ·have HMM:Hid ((mm:Int)=480):=hmm
    clear hmm
    go_wp2_with (first
     | (go_at_call 44;refine (i5 TX px cx HTL.out HTB.out _ HXO.out).mono ?_;rintro e wg ⟨py,cy,he,hcy,hvy,hb⟩;rw [HSZ.out ()] at he;subst he;have HVY:Hid (SlOld wg (.slice py 480 cy) (TX.drop 2)):=hvy;replace hm:=hm.call hb;clear hb hvy)
     | ((with_reducible refine aa (some 58) (.slice 22 (.tmp 52) none (some (.tmp 57)) none) ?_);go_must (refine ag (.slice (cutHi py cy) mm cy) rfl (bC ai av mm (by omega) rfl rfl (by have:=HMM.out;omega)) ?_))
     | ((with_reducible refine aa (some 59) (.convert 22 9 (.tmp 58)) ?_);go_must (refine ag (.string (strOf RS)) rfl (by rw [←HRES.out ()];exact aA ai aL aR _ rfl (dw HVY.out mm (by omega))) ?_)))
    go_ret2
    exact ⟨rfl,HB5.out.trans (hm.below.mono HB5.out.size)⟩
theorem ku (ks:List Int) (x:Nat) (was now:List Int) (vw vn:Value) (hx:x<4294967296) (hwl:was.length=512) (hnl:now.length=512) (hwb:Bytes was) (hnb:Bytes now) (hks:deriveOf kNine (strB {data:=#[112,97,103,101]}) 0=ks) (w:World) (hvw:SlOld w vw was) (hvn:SlOld w vn now) :
  Calls Tryz.prog 15 #[.int .u32 (x:Int),vw,vn] w fun e w'=>e=.returned (.tuple #[.string (strOf (outP ks x (numL (was.take 8)) now)),.bool (okP ks x (numL (was.take 8)) now)])∧Below w.heap.size w w':=by
 unfold outP okP
 by_cases h1:now.take 8=was.take 8
 ·rw [←h1,decide_eq_true rfl,Bool.true_and]
  cases h2:fits ks (nonceOf x (numL (now.take 8))) labPage ((now.drop 8).take 498) with
  | true =>
   rw [if_pos rfl]
   exact opens_good ks x was now vw vn hx hwl hnl hnb hks h1 h2 w hvw hvn
  | false =>
   rw [if_neg (by simp)]
   exact opens_bad ks x was now vw vn hx hwl hnl hnb hks h1 h2 w hvw hvn
 ·have h4:¬numL (was.take 8)=numL (now.take 8):=fun e=>h1 (numL_inj8 (Bytes.take hnb 8) (Bytes.take hwb 8) (by rw [List.length_take,List.length_take,hwl,hnl]) e.symm)
  rw [decide_eq_false h4,Bool.false_and,if_neg (by simp)]
  exact opens_gen x was now vw vn hwl hnl hwb hnb h1 w hvw hvn
open Go Go.RowKit Go.Maps
def lQ (bs:List Int) (j:Nat):Option (List Int):=if j=0 then some bs else none
theorem uQ_is (bs:List Int) (j:Nat):(upf (upf (fun _=>none) 0 (some none)) 0 (some (some bs))) j=(lQ bs j).map some:=by
 unfold upf lQ
 split<;>rfl
theorem slnQ {w w1 W:World} {v:Value} {bs:List Int} (h:SlOld w v bs) (hb:Below w.heap.size w W) (hle:w.heap.size≤w1.heap.size):SlN w1 W v bs:=by
 obtain ⟨p,cap,rfl,hc,h2⟩:=h
 refine ⟨p,cap,rfl,hc,fun h0=>?_⟩
 obtain ⟨b,off,rfl,hs⟩:=h2 h0
 have hlt:=hs.lt h0
 refine ⟨b,off,rfl,fun j hj=>?_,Or.inl (Nat.lt_of_lt_of_le hlt hle)⟩
 rw [World.cell?_of_block (w:=w) (a:=⟨b,off+j,none⟩) (hb.block b hlt)]
 exact hs j hj
theorem mtQ_bytes:Bytes (strB {data:=#[]}):=by
 intro x hx
 cases hx
theorem page_tail (kP:List Int) (s:Int) (bs:List Int) (k:Nat) (h1:506≤k):(pageOf kP 0 s bs).getD k 0=0:=by
 rw [ky,←List.append_assoc,List.getD_eq_getElem?_getD,List.getElem?_append_right (by rw [List.length_append,b5,dm,aw];omega),List.getElem?_replicate]
 split<;>rfl
theorem page_open (kP:List Int) (hkP:deriveOf kNine (strB {data:=#[112,97,103,101]}) 0=kP) (s:Nat) (hs:s<18446744073709551616) (bs:List Int) (hb:Bytes bs) (hl:bs.length≤480) (v:Value) (w:World) (hv:SlOld w v (pageOf kP 0 s bs)) :
  Calls Tryz.prog 15 #[.int .u32 0,v,v] w fun e w'=>e=.returned (.tuple #[.string (strOf bs),.bool true])∧Below w.heap.size w w':=by
 have h:=ku kP 0 (pageOf kP 0 s bs) (pageOf kP 0 s bs) v v (by omega) (bZ _ _ _ _) (bZ _ _ _ _) (eg _ _ _ hb) (eg _ _ _ hb) hkP w hv hv
 have h2:=j8 kP 0 s bs (by omega) hb hl
 rw [gC,ip (by omega)] at h
 rw [show ((0:Nat):Int)=0 from rfl,h2.1,h2.2] at h
 exact h
theorem pstands_long (p:Option Addr) (n cap pages:Nat) (hl:480<n) (w:World) (ht:Tab w) (hq:QTab w) (hw2:2≤w.heap.size) :
  Calls Tryz.prog 4 #[.slice p n cap,.int .u8 (pages:Int)] w fun e w'=>e=.returned (.bool true)∧Below w.heap.size w w':=by
 have HT:Hid (Tab w):=ht
 have HQ:Hid (QTab w):=hq
 clear ht hq
 have e480:(480:Int)<(n:Int):=by omega
 go_enter Tryz.func4,Tryz.ntmps4
 go_wp2_with (first
  | (go_at_call 6;refine (ff _ HT.out HQ.out hw2).mono ?_;rintro e w1 ⟨rfl,hb⟩;have HB1:Hid (Below w.heap.size w w1):=hb;clear hb))
 go_ret
 exact ⟨rfl,HB1.out⟩
theorem nn (p:Option Addr) (cap pages:Nat) (bs:List Int) (hpb:pages<256) (hbl:bs.length≤480) (hbb:Bytes bs) (w:World) (hvb:SlOld w (.slice p bs.length cap) bs) (ht:Tab w) (hq:QTab w) (hw2:2≤w.heap.size) :
  Calls Tryz.prog 4 #[.slice p bs.length cap,.int .u8 (pages:Int)] w fun e w'=>e=.returned (.bool true)∧Below w.heap.size w w':=by
 have HT:Hid (Tab w):=ht
 have HQ:Hid (QTab w):=hq
 clear ht hq
 have e480:¬(480:Int)<(bs.length:Int):=by omega
 obtain ⟨n,hn0⟩:∃n:Nat,n=pages % 6+4:=⟨_,rfl⟩
 have HN:Hid ((pages:Int) % 6+4=(n:Int)):=by show _=_;omega
 have hn4:4≤n:=by omega
 have hn13:n≤13:=by omega
 obtain ⟨kP,hkP⟩:∃x,x=deriveOf kNine labPage 0:=⟨_,rfl⟩
 have HKP:Hid (∀_:Unit,deriveOf kNine labPage 0=kP):=fun _=>hkP.symm
 have HBB:Hid (Bytes bs):=hbb
 have HV0:Hid (SlOld w (.slice p bs.length cap) bs):=hvb
 clear hn0 hkP hbb hvb
 go_enter Tryz.func4,Tryz.ntmps4
 go_wp2_with (first
  | (go_at_call 6;refine (ff _ HT.out HQ.out hw2).mono ?_;rintro e w1 ⟨rfl,hb⟩;have HB1:Hid (Below w.heap.size w w1):=hb;clear hb))
 rw [HN.out]
 have HW1:Hid (2≤w1.heap.size):=Nat.le_trans hw2 HB1.out.size
 have HVB:Hid (∀W,Below w1.heap.size w1 W→SlN w1 W (.slice p bs.length cap) bs∧SlOld W (.slice p bs.length cap) bs):=fun W hW=>by
  have hb:=HB1.out.trans (hW.mono HB1.out.size)
  exact ⟨slnQ HV0.out hb HB1.out.size,SlOld.below HV0.out hb⟩
 refine (begun_s n hn4 (by omega) w1 (HT.out.bel HB1.out) (HQ.out.bel HB1.out) HW1.out).mono ?_
 rintro e w2 ⟨gp,g,mb,kv,gm,q1,q2,rfl,hs,_,_⟩
 rw [HKP.out ()] at hs
 have HS:Hid (PgS w1 w2 gp g mb kv kP n (132) (fun _=>none) (fun _=>none) 0 {data:=#[]}):=hs
 clear hs HV0
 go_wp2_with (first
  | (go_at_call 8;refine (jX (by omega) 0 (by omega) rfl (fun j hj=>by omega) _ HS.out).mono ?_;rintro e w3 ⟨rfl,hs,_⟩;replace HS:Hid (PgS w1 w3 gp g mb kv kP n (132) (upf (fun _=>none) 0 (some none)) (fun _=>none) 0 {data:=#[]}):=hs;clear hs)
  | (go_at_call 9;refine (write_s 0 bs _ (by omega) (by omega) rfl hbl HBB.out (by omega) _ (HVB.out _ (PgS.bl HS.out)).1 HS.out).mono ?_;rintro e w4 ⟨rfl,hs,_⟩;replace HS:Hid (PgS w1 w4 gp g mb kv kP n (132+74) (upf (upf (fun _=>none) 0 (some none)) 0 (some (some bs))) (fun _=>none) 0 {data:=#[]}):=hs;clear hs)
  | (go_at_call 10;refine (mp (pages:Int) {data:=#[]} (lQ bs) (uQ_is bs) (by omega) ⟨by omega,by omega⟩ (by decide) mtQ_bytes (by omega) _ HS.out).mono ?_;rintro e w5 ⟨rfl,hs,_⟩;replace HS:Hid (PgS w1 w5 gp g mb kv kP n (132+74+66) (upf (upf (fun _=>none) 0 (some none)) 0 (some (some bs))) (lQ bs) (pages:Int) {data:=#[]}):=hs;clear hs;obtain ⟨ml,mu,P,d,hsd⟩:=HS.out;have HDK:Hid (DkAt w5 g mb kv d∧d.off=false∧d.n=32+8 * n):=⟨hsd.at_.dk,hsd.on.off,hsd.n⟩;obtain ⟨sg,hsg⟩:∃s:Nat,Stands kP d n 0 s bs:=(by have h9:=hsd.u 0;cases hu9:P.used 0 with|none=>rw [hu9] at h9;exact h9.elim|some s9=>rw [hu9] at h9;exact ⟨s9,h9⟩);obtain ⟨PB,hPB⟩:∃PB,PB=pageOf kP 0 sg bs:=⟨_,rfl⟩;have HPB:Hid (∀_:Unit,pageOf kP 0 sg bs=PB):=fun _=>hPB.symm;have HPG:Hid (∀_:Unit,secs d.now (32+8 * 0) 8=PB):=fun _=>hsg.page.trans hPB.symm;have HSG:Hid (sg<18446744073709551616):=(by have h9:=hsg.s1;show _<_;omega);have HPL:Hid (PB.length=512):=(by show _=_;rw [hPB];exact bZ _ _ _ _);have HTL:Hid (∀k,506≤k→PB.getD k 0=0):=(by intro k hk;rw [hPB];exact page_tail kP sg bs k hk);have HB5:Hid (Below w1.heap.size w1 w5):=PgS.bl HS.out;clear hsd hsg hPB HS)
  | (go_at_call 11;refine (jx g mb kv d 0 HDK.out.2.1 (by rw [HDK.out.2.2];omega) (by omega) _ HDK.out.1).mono ?_;rintro e w6 ⟨v6,rfl,ho,hb⟩;rw [HPG.out ()] at ho;obtain ⟨p6,c6,hv6,hc6,hs6⟩:=OwnB.old ho;obtain ⟨b6,o6,hp6,hsg6⟩:=hs6 (by rw [HPL.out];omega);rw [HPL.out] at hv6 hc6;subst hp6;subst hv6;have HV6:Hid (SlOld w6 (.slice (some ⟨b6,o6,none⟩) 512 c6) PB):=⟨_,c6,by rw [HPL.out],by rw [HPL.out];exact hc6,fun _=>⟨b6,o6,rfl,hsg6⟩⟩;have HB6:Hid (Below w1.heap.size w1 w6):=HB5.out.trans (hb.mono HB5.out.size);clear ho hs6 hsg6 hb HDK)
  | (go_at_call 15;refine (page_open kP (HKP.out ()) sg HSG.out bs HBB.out hbl _ _ (by rw [HPB.out ()];exact HV6.out)).mono ?_;rintro e w7 ⟨rfl,hb⟩;have HSG7:Hid (Seg w7 b6 o6 PB):=(by obtain ⟨_,_,hs9⟩:=(SlOld.below HV6.out hb).src0;obtain ⟨b9,o9,e9,hsg9⟩:=hs9 (by omega);cases e9;exact hsg9);have HB7:Hid (Below w1.heap.size w1 w7):=HB6.out.trans (hb.mono HB6.out.size);clear hb))
 go_loopw [15] (fun vi wr=>∃k:Nat,506≤k∧k≤512∧vi=.int .i64 (k:Int)∧wr=w7) (fun vi _=>512 - (RowKit.intOf vi).toNat)
 case atStart=>exact ⟨506,by omega,by omega,rfl,rfl⟩
 case round =>
  obtain ⟨k,hk1,hk2,rfl,rfl⟩:=hrel
  by_cases hlt:k<512
  ·have hki:(k:Int)<512:=by omega
   have hc:=HSG7.out k (by rw [HPL.out];exact hlt)
   rw [HTL.out k hk1] at hc
   go_wp2_with fail
   refine ⟨⟨k+1,by omega,by omega,by go_num,trivial⟩,by simp [RowKit.intOf];omega⟩
  ·have hki:¬(k:Int)<512:=by omega
   go_wp2_with (first
    | ((with_reducible refine cK (some 84) (.convert 22 9 (.tmp 83)) (some (1,true)) ?_);go_must (refine ag (.string (strOf bs)) rfl (aA ai aL aR _ rfl (HVB.out _ HB7.out).2) ?_)))
   go_ret
   exact ⟨rfl,HB1.out.trans (HB7.out.mono HB1.out.size)⟩
theorem pstands_any (p:Option Addr) (cap pages:Nat) (bs:List Int) (hpb:pages<256) (hbb:Bytes bs) (w:World) (hvb:SlOld w (.slice p bs.length cap) bs) (ht:Tab w) (hq:QTab w) (hw2:2≤w.heap.size) :
  Calls Tryz.prog 4 #[.slice p bs.length cap,.int .u8 (pages:Int)] w fun e w'=>e=.returned (.bool true)∧Below w.heap.size w w':=by
 by_cases h:bs.length≤480
 ·exact nn p cap pages bs hpb h hbb w hvb ht hq hw2
 ·exact pstands_long p bs.length cap pages (by omega) w ht hq hw2
end Go.Proofs.YtdkkdkgdaambiaaGreatDoor
