import Derived.Test.YtmlbjfklaehjnaaGreatDoorQc15
import Derived.Test.YtmlbjfklaehjnaaGreatDoorQc04
set_option maxRecDepth 100000
set_option maxHeartbeats 4000000
namespace Go.Proofs.YtmlbjfklaehjnaaGreatDoor
open Go Go.RowKit Go.Maps
theorem getT_one (l:List Int) (k:Nat):getT l k 1=bitL l k:=by
 show 0+bitL l (k+0) * 2 ^ 0=_
 simp
theorem statesN_zero (limit:Int) (marks table:List Int):statesN 0 limit marks table=fun _=>none:=by
 funext i
 unfold statesN
 rw [if_neg (by omega)]
theorem statesN_yes {limit:Int} {marks table:List Int} {k:Nat} (h:bitL marks k=1):upf (statesN k limit marks table) k (some (genB limit (getT table (29 * k) 29)).toNat)=statesN (k+1) limit marks table:=by
 funext i
 unfold upf statesN
 by_cases hi:i=k
 ·subst hi
  rw [if_pos rfl,if_pos ⟨by omega,h⟩]
 ·rw [if_neg hi]
  by_cases hc:i<k∧bitL marks i=1
  ·rw [if_pos hc,if_pos ⟨by omega,hc.2⟩]
  ·rw [if_neg hc,if_neg (fun h9=>hc ⟨by omega,h9.2⟩)]
theorem statesN_no {limit:Int} {marks table:List Int} {k:Nat} (h:¬bitL marks k=1):statesN k limit marks table=statesN (k+1) limit marks table:=by
 funext i
 unfold statesN
 by_cases hi:i=k
 ·subst hi
  rw [if_neg (by omega),if_neg (fun h9=>h h9.2)]
 ·by_cases hc:i<k∧bitL marks i=1
  ·rw [if_pos hc,if_pos ⟨by omega,hc.2⟩]
  ·rw [if_neg hc,if_neg (fun h9=>hc ⟨by omega,h9.2⟩)]
theorem genB_nat (limit low:Int):(((genB limit low).toNat:Nat):Int)=genB limit low:=by
 unfold genB
 omega
theorem built_stI (x:Int):Tryz.prog.built 162 [(0,.int .u64 x)]=some [Value.int .u64 x].toArray:=by rfl
theorem statesOf_any (pages:Nat) (limit:Int) (marks table:List Int) (vm vt:Value) (hp:pages≤400) (hml:marks.length=50) (htl:table.length=1749) (hmb:Bytes marks) (htb:Bytes table) (w:World) (hm_:SlOld w vm marks) (ht_:SlOld w vt table) :
  Calls Tryz.prog 194 #[.int .i64 (pages:Int),.int .u64 limit,vm,vt] w fun e w'=>∃m,e=.returned (.map (some m))∧w.heap.size≤m∧StM w' m (statesN pages limit marks table)∧Below w.heap.size w w':=by
 obtain ⟨q1,c1,rfl,hc1⟩:=hm_.len
 obtain ⟨q2,c2,rfl,hc2⟩:=ht_.len
 have HM:Hid (SlOld w (.slice q1 50 c1) marks):=by rw [←hml];exact hm_
 have HTB:Hid (SlOld w (.slice q2 1749 c2) table):=by rw [←htl];exact ht_
 have HML:Hid (marks.length=50):=hml
 have HTL:Hid (table.length=1749):=htl
 have HMB:Hid (Bytes marks):=hmb
 have HTBB:Hid (Bytes table):=htb
 rw [hml,htl]
 clear hm_ ht_ hmb htb hml htl hc1 hc2
 go_enter Tryz.func194,Tryz.ntmps194
 go_wp2_with (first
  | ((with_reducible refine aa (some 11) (.makeMap 104 none) ?_);go_must (refine fG (Mem.start w) ?_);intro w1 mN hm1 hmap1 hge1;have HS:Hid (StM w1 mN (fun _=>none)):=StM.new hmap1;have HB:Hid (Below w.heap.size w w1):=hm1.below;have HMG:Hid (w.heap.size≤mN):=hge1;clear hm1 hmap1 hge1))
 go_loopw [13] (fun vi wr=>∃k:Nat,k≤pages∧vi=.int .i64 (k:Int)∧StM wr mN (statesN k limit marks table)∧Below w.heap.size w wr) (fun vi _=>pages - (RowKit.intOf vi).toNat)
 case atStart=>exact ⟨0,by omega,rfl,by rw [statesN_zero];exact HS.out,HB.out⟩
 case round =>
  clear HS HB
  obtain ⟨k,hk,rfl,hs,hb⟩:=hrel
  have HS:Hid (StM wr mN (statesN k limit marks table)):=hs
  have HB:Hid (Below w.heap.size w wr):=hb
  clear hs hb
  by_cases hlt:k<pages
  ·have hki:(k:Int)<(pages:Int):=by omega
   obtain ⟨at_,hat_⟩:∃z:Nat,z=29 * k:=⟨_,rfl⟩
   have HAT:Hid (∀_:Unit,29 * k=at_):=fun _=>hat_.symm
   have hatb:at_+29≤11600:=by omega
   have HWA:IntKind.i64.wrap ((k:Int) * 29)=(at_:Int):=by rw [show (k:Int) * 29=(at_:Int) by omega];exact b7 at_ (by omega)
   have HWB:wrap64 ((k:Int) * 29)=(at_:Int):=by rw [show (k:Int) * 29=(at_:Int) by omega];exact eD _ (by omega)
   have HMI:(k:Int) * 29=(at_:Int):=by omega
   have HWT:IntKind.i64.wrap (at_:Int)=(at_:Int):=b7 at_ (by omega)
   clear hat_
   by_cases hbit:bitL marks k=1
   ·have HST:Hid (∀_:Unit,upf (statesN k limit marks table) k (some (genB limit (getT table at_ 29)).toNat)=statesN (k+1) limit marks table):=fun _=>by rw [←HAT.out ()];exact statesN_yes hbit
    have HBT:Hid (getT marks k 1=1):=by show _=_;rw [getT_one];exact hbit
    obtain ⟨X,hX⟩:∃X,X=getT table at_ 29:=⟨_,rfl⟩
    have HX:Hid (∀_:Unit,getT table at_ 29=X):=fun _=>hX.symm
    obtain ⟨G,hG⟩:∃G:Nat,G=(genB limit X).toNat:=⟨_,rfl⟩
    have HG:Hid (∀_:Unit,genB limit X=(G:Int)):=fun _=>by rw [hG,genB_nat]
    have HST2:Hid (∀_:Unit,upf (statesN k limit marks table) k (some G)=statesN (k+1) limit marks table):=fun _=>by rw [hG,hX];exact HST.out ()
    clear hbit hX hG HST
    go_wp2_with fail
    refine (io marks _ 50 k 1 HML.out HMB.out (by omega) (by omega) (by omega) _ (SlOld.bel HM.out HB.out)).mono ?_
    rintro e w3 ⟨he,hw⟩
    rw [HBT.out] at he
    subst he
    replace hw:=hw.symm
    subst hw
    go_wp2_with (first
     | (go_at_call 132;refine (cg (k:Int) _).mono ?_;rintro e w4 ⟨rfl,hb⟩;replace HS:Hid (StM w4 mN (statesN k limit marks table)):=HS.out.below hb;replace HB:Hid (Below w.heap.size w w4):=HB.out.trans (hb.mono HB.out.size);clear hb)
     | (go_at_call 206;refine (io table _ 1749 at_ 29 HTL.out HTBB.out (by omega) (by omega) (by omega) _ (SlOld.bel HTB.out HB.out)).mono ?_;rintro e w5 ⟨he,hw⟩;rw [HX.out ()] at he;subst he;replace hw:=hw.symm;subst hw)
     | (go_at_call 207;refine (genBelow_any limit X _).mono ?_;rintro e w6 ⟨he,hw⟩;rw [HG.out ()] at he;subst he;replace hw:=hw.symm;subst hw)
     | ((with_reducible refine aa (some 30) (.build 162 #[(0,.tmp 29)]) ?_);go_must (refine aB (stC G) _ rfl (built_stI _) ?_))
     | ((with_reducible refine aa none (.mapUpdate 104 (.tmp 20) (.tmp 23) (.tmp 30)) ?_);go_must (refine iG HS.out k (by omega) G rfl rfl rfl ?_);intro w7 hs7 hu7;rw [HST2.out ()] at hs7;have HS7:Hid (StM w7 mN (statesN (k+1) limit marks table)):=hs7;have HB7:Hid (Below w.heap.size w w7):=dw HB.out (UpdS.of_upd (L:=[mN]) hu7 (by simp)) (fun q hq=>by simp at hq;rw [hq];exact HMG.out);clear hs7 hu7))
    go_roundw
    case rel=>exact ⟨k+1,by omega,by go_num,HS7.out,HB7.out⟩
    case measure=>simp [RowKit.intOf];omega
   ·have HST:Hid (∀_:Unit,statesN k limit marks table=statesN (k+1) limit marks table):=fun _=>statesN_no hbit
    obtain ⟨X,hX⟩:∃X,X=getT marks k 1:=⟨_,rfl⟩
    have HX:Hid (∀_:Unit,getT marks k 1=X):=fun _=>hX.symm
    have hXn:¬X=1:=by rw [hX,getT_one];exact hbit
    clear hX hbit
    go_wp2_with fail
    refine (io marks _ 50 k 1 HML.out HMB.out (by omega) (by omega) (by omega) _ (SlOld.bel HM.out HB.out)).mono ?_
    rintro e w3 ⟨he,hw⟩
    rw [HX.out ()] at he
    subst he
    replace hw:=hw.symm
    subst hw
    go_wp2_with fail
    go_roundw
    case rel=>exact ⟨k+1,by omega,by go_num,by rw [←HST.out ()];exact HS.out,HB.out⟩
    case measure=>simp [RowKit.intOf];omega
  ·obtain rfl:k=pages:=by omega
   have hni:¬(k:Int)<(k:Int):=by omega
   go_wp2_with fail
   go_ret
   exact ⟨mN,rfl,HMG.out,HS.out,HB.out⟩
open Go Go.RowKit Go.Maps
theorem exec_lo2 {P:Program} {a:Act} {w:World} {dst:Option Tmp} {typ:TypeId} {pos:String} {aft:Array Edge} {gd:Option (Nat×Bool)} {ty:TypeId} {x lo:Operand} {elem:TypeId} (hu:P.underlying ty=some (.slice elem)) (hs:(P.info? elem).map (·.size)=some 1) {g o len cap:Nat} (l o' m:Nat) {il:Int} (ho:o+l=o') (hl:l≤len) (hlc:l<cap) (hlm:len - l=m) (hx:a.eval x=.slice (some ⟨g,o,none⟩) len cap) (hlo:a.eval lo=.int .i64 il) (hil:il=(l:Int)) :
  (execOp a.eval {dst:=dst,op:=.slice ty x (some lo) none none,type:=typ,pos:=pos,after:=aft,guard:=gd}).run P w=.ok (.value (.slice (some ⟨g,o',none⟩) m (cap - l))) w:=by
 subst ho
 exact dI hu hs l m hl hlc hlm hx hlo hil
theorem getText_seg (cs:List Int) (b off N cap n:Nat) (hN:cs.length=N) (hN2:2+n<N) (hNl:N≤30000) (hc:N≤cap) (hn:n≤200) (hnum:numL (cs.take 2)=(n:Int)) (hcb:Bytes cs) (w:World) (hs:Seg w b off cs) :
  Calls Tryz.prog 139 #[.slice (some ⟨b,off,none⟩) N cap,.int .i64 200] w fun e w'=>∃v,e=.returned (.tuple #[.string (strOf ((cs.drop 2).take n)),v,.int .i64 0])∧Below w.heap.size w w':=by
 have HS:Hid (Seg w b off cs):=hs
 have HT2:Hid ((cs.take 2).length=2):=by show _=_;rw [List.length_take,hN];omega
 have HTB:Hid (Bytes (cs.take 2)):=hcb.take 2
 have h1:¬((N:Int)<2):=by omega
 have HNU:Hid (∀_:Unit,numL (cs.take 2)=(n:Int)):=fun _=>hnum
 have h2:¬((n:Int) > 200):=by omega
 have h3:¬((N:Int)<2+(n:Int)):=by omega
 obtain ⟨M,hM⟩:∃M:Nat,M=N - (2+n):=⟨_,rfl⟩
 have HML:Hid ((cs.drop (2+n)).length=M):=by show _=_;rw [List.length_drop,hN,hM]
 have HMM:Hid (N - (2+n)=M):=hM.symm
 have HDL:Hid (((cs.drop 2).take n).length=n):=by show _=_;rw [List.length_take,List.length_drop,hN];omega
 have hm:=Mem.start w
 clear hs hnum hM
 go_enter Tryz.func139,Tryz.ntmps139
 go_wp2_with (first
  | ((with_reducible refine aa (some 15) (.slice 54 (.tmp 14) none (some (.const (.int .i64 2))) none) ?_);go_must (refine ae (.slice (some ⟨b,off,none⟩) 2 cap) rfl (cy aq av 2 (by omega) rfl rfl rfl) ?_))
  | (go_at_call 179;refine (cN (cs.take 2) _ 2 HT2.out (by omega) HTB.out _ ⟨_,cap,by rw [HT2.out],by rw [HT2.out];omega,fun _=>⟨b,off,rfl,HS.out.take 2⟩⟩).mono ?_;rintro e w2 ⟨he,hw⟩;subst hw;rw [HNU.out ()] at he;subst he))
 refine au ?_
 refine ap (T:=fun W=>Mem w2 [] W []) (by kernel_rfl) hm ?_
 clear hm
 intro w3 hm
 refine aT 0 (v:=.slice (some ⟨b,off,none⟩) N cap) rfl (by kernel_rfl) rfl (fun W _=>by go_simp) hm ?_
 go_simp
 refine aT 1 (v:=.int .i64 (2+(n:Int))) rfl (by kernel_rfl) rfl (fun W _=>by go_simp) hm ?_
 go_simp
 refine aT 2 (v:=.slice (some ⟨b,off+2,none⟩) n (cap - 2)) rfl (by kernel_rfl) rfl (fun W _=>exec_slh2 aq av 2 (off+2) n rfl (by omega) (by omega) rfl rfl rfl rfl (by omega)) hm ?_
 go_simp
 refine aT 3 (v:=.string (strOf ((cs.drop 2).take n))) rfl (by kernel_rfl) rfl (fun W hW=>dW aq cf er ((cs.drop 2).take n) rfl ⟨_,cap - 2,by rw [HDL.out],by rw [HDL.out];omega,fun _=>⟨b,off+2,rfl,((Seg.mem HS.out hW (by simp)).drop 2).take n⟩⟩) hm ?_
 go_simp
 refine aT 4 (v:=.slice (some ⟨b,off,none⟩) N cap) rfl (by kernel_rfl) rfl (fun W _=>by go_simp) hm ?_
 go_simp
 refine aT 5 (v:=.int .i64 (2+(n:Int))) rfl (by kernel_rfl) rfl (fun W _=>by go_simp) hm ?_
 go_simp
 refine aT 6 (v:=.slice (some ⟨b,off+(2+n),none⟩) M (cap - (2+n))) rfl (by kernel_rfl) rfl (fun W _=>exec_lo2 aq av (2+n) (off+(2+n)) M rfl (by omega) (by omega) HMM.out rfl rfl (by omega)) hm ?_
 go_simp
 refine aO 7 (by kernel_rfl) rfl rfl ?_
 intro K hK
 go_wp2_with (go_at_call 90;refine (bm (cs.drop (2+n)) _ 0 (by rw [HML.out,←HMM.out];omega) (by omega) _ ⟨_,cap - (2+n),by rw [HML.out],by rw [HML.out,←HMM.out];omega,fun _=>⟨b,off+(2+n),rfl,(Seg.mem HS.out hm (by simp)).drop (2+n)⟩⟩).mono ?_;rintro e w4 ⟨g,he,hge,hrg,hb⟩;rw [HML.out,Nat.add_zero] at he;subst he;replace hm:=hm.call hb;clear hb hrg hge)
 refine hK _ _ hm ?_
 clear hK K
 refine aT 8 (v:=.string (strOf ((cs.drop 2).take n))) rfl (by kernel_rfl) rfl (fun W _=>by go_simp) hm ?_
 go_simp
 refine aT 9 (v:=.slice (some ⟨g,0,none⟩) M M) rfl (by kernel_rfl) rfl (fun W _=>by go_simp) hm ?_
 go_simp
 refine aT 10 (v:=.int .i64 0) rfl (by kernel_rfl) rfl (fun W _=>by go_simp) hm ?_
 go_simp
 refine wpAnyH_done (by kernel_rfl) ?_ _
 simp only [endsIn]
 go_wp2_with fail
 refine bodyPost_ret (results_tmp3 rfl _ _ _) rfl ?_
 exact ⟨_,rfl,hm.below⟩
theorem getText_long (cs:List Int) (b off N cap n:Nat) (hN:cs.length=N) (hN2:2≤N) (hNl:N≤30000) (hc:N≤cap) (hn:200<n) (hn2:n≤65535) (hnum:numL (cs.take 2)=(n:Int)) (hcb:Bytes cs) (w:World) (hs:Seg w b off cs) :
  Calls Tryz.prog 139 #[.slice (some ⟨b,off,none⟩) N cap,.int .i64 200] w fun e w'=>∃v,e=.returned (.tuple #[.string {data:=#[]},v,.int .i64 11])∧Below w.heap.size w w':=by
 have HS:Hid (Seg w b off cs):=hs
 have HT2:Hid ((cs.take 2).length=2):=by show _=_;rw [List.length_take,hN];omega
 have HTB:Hid (Bytes (cs.take 2)):=hcb.take 2
 have h1:¬((N:Int)<2):=by omega
 have HNU:Hid (∀_:Unit,numL (cs.take 2)=(n:Int)):=fun _=>hnum
 have HNN:Hid (cs.length=N):=hN
 have h2:(n:Int) > 200:=by omega
 have hm:=Mem.start w
 clear hs hnum
 go_enter Tryz.func139,Tryz.ntmps139
 go_wp2_with (first
  | ((with_reducible refine aa (some 15) (.slice 54 (.tmp 14) none (some (.const (.int .i64 2))) none) ?_);go_must (refine ae (.slice (some ⟨b,off,none⟩) 2 cap) rfl (cy aq av 2 (by omega) rfl rfl rfl) ?_))
  | (go_at_call 179;refine (cN (cs.take 2) _ 2 HT2.out (by omega) HTB.out _ ⟨_,cap,by rw [HT2.out],by rw [HT2.out];omega,fun _=>⟨b,off,rfl,HS.out.take 2⟩⟩).mono ?_;rintro e w2 ⟨he,hw⟩;subst hw;rw [HNU.out ()] at he;subst he)
  | (go_at_call 90;refine (bm cs _ 0 (by omega) (by omega) _ ⟨_,cap,by rw [HNN.out],by rw [HNN.out];exact hc,fun _=>⟨b,off,rfl,Seg.mem HS.out hm (by simp)⟩⟩).mono ?_;rintro e w4 ⟨g,he,hge,hrg,hb⟩;rw [HNN.out,Nat.add_zero] at he;subst he;replace hm:=hm.call hb;clear hb hrg hge))
 refine bodyPost_ret (results_tmp3 rfl _ _ _) rfl ?_
 exact ⟨_,rfl,hm.below⟩
theorem getText_any (cs:List Int) (b off N cap:Nat) (hN:cs.length=N) (hN2:203≤N) (hNl:N≤30000) (hc:N≤cap) (hcb:Bytes cs) (w:World) (hs:Seg w b off cs) :
  Calls Tryz.prog 139 #[.slice (some ⟨b,off,none⟩) N cap,.int .i64 200] w fun e w'=>∃v c,e=.returned (.tuple #[.string (strOf (metaL cs)),v,.int .i64 c])∧Below w.heap.size w w':=by
 have h0:=bL (hcb.take 2)
 have h1:=eX (hcb.take 2)
 rw [List.length_take,hN,show min 2 N=2 by omega,show (256:Int) ^ 2=65536 by decide] at h1
 obtain ⟨n,hn⟩:∃n:Nat,numL (cs.take 2)=(n:Int):=⟨(numL (cs.take 2)).toNat,by omega⟩
 unfold metaL
 rw [hn]
 by_cases h:n≤200
 ·rw [if_pos (by omega),Int.toNat_natCast]
  refine (getText_seg cs b off N cap n hN (by omega) hNl hc h hn hcb w hs).mono ?_
  rintro e w' ⟨v,he,hb⟩
  exact ⟨v,0,he,hb⟩
 ·rw [if_neg (by omega)]
  refine (getText_long cs b off N cap n hN (by omega) hNl hc (by omega) (by omega) hn hcb w hs).mono ?_
  rintro e w' ⟨v,he,hb⟩
  exact ⟨v,11,he,hb⟩
open Go Go.RowKit Go.Maps
theorem info_sup:(Tryz.prog.info? 106).map (fun i=>(i.zero,i.size))=some (some (.agg (supC 0 {data:=#[]} (.map none)).toArray),3):=by kernel_rfl
theorem ir:∀w,(zeroValue 106).run Tryz.prog w=.ok (.agg (supC 0 {data:=#[]} (.map none)).toArray) w:=(zero_of_info info_sup).1
theorem superOf_any (pages gb:Nat) (limit:Int) (cs table:List Int) (vt:Value) (hp:pages≤400) (hl:cs.length=263) (hcb:Bytes cs) (htl:table.length=1749) (htb:Bytes table) (w:World) (hr:Row w gb (u8s cs) 5) (ht_:SlOld w vt table) :
  Calls Tryz.prog 165 #[.int .i64 (pages:Int),.int .u64 limit,.slice (some ⟨gb,0,none⟩) 263 263,vt] w fun e w'=>∃m,e=.returned (.agg (supC (numL (cs.take 4)) (strOf (metaL (cs.drop 54))) (.map (some m))).toArray)∧w.heap.size≤m∧StM w' m (statesN pages limit ((cs.drop 4).take 50) table)∧Below w.heap.size w w':=by
 have HR:Hid (Row w gb (u8s cs) 5):=hr
 have HCL:Hid (cs.length=263):=hl
 have HCB:Hid (Bytes cs):=hcb
 have HVT:Hid (SlOld w vt table):=ht_
 have HTL:Hid (table.length=1749):=htl
 have HTB:Hid (Bytes table):=htb
 obtain ⟨R,hR⟩:∃R,R=numL (cs.take 4):=⟨_,rfl⟩
 have HRE:Hid (∀_:Unit,numL (cs.take 4)=R):=fun _=>hR.symm
 have hR0:0≤R:=by rw [hR];exact bL (hcb.take 4)
 have hR1:R<4294967296:=by
  have h:=eX (hcb.take 4)
  rw [List.length_take,hl,show min 4 263=4 from rfl,←hR] at h
  have h2:(256:Int) ^ 4=4294967296:=by decide
  omega
 obtain ⟨ds,hds⟩:∃ds,ds=cs.drop 4:=⟨_,rfl⟩
 have HDE:Hid (∀_:Unit,cs.drop 4=ds):=fun _=>hds.symm
 have HDL:Hid (ds.length=259):=by show _=_;rw [hds,List.length_drop,hl]
 have HDB:Hid (Bytes ds):=by rw [hds];exact Bytes.drop hcb 4
 obtain ⟨es,hes⟩:∃es,es=ds.drop 50:=⟨_,rfl⟩
 have HEE:Hid (∀_:Unit,ds.drop 50=es):=fun _=>hes.symm
 have HEC:Hid (∀_:Unit,cs.drop 54=es):=fun _=>by rw [hes,hds,List.drop_drop]
 have HEL:Hid (es.length=209):=by show _=_;rw [hes,List.length_drop,HDL.out]
 have HEB:Hid (Bytes es):=by rw [hes];exact Bytes.drop HDB.out _
 obtain ⟨S,hS⟩:∃S,S=strOf (metaL es):=⟨_,rfl⟩
 have HSE:Hid (∀_:Unit,strOf (metaL es)=S):=fun _=>hS.symm
 obtain ⟨mk,hmk⟩:∃mk,mk=ds.take 50:=⟨_,rfl⟩
 have HMK:Hid (∀_:Unit,ds.take 50=mk):=fun _=>hmk.symm
 have HMKL:Hid (mk.length=50):=by show _=_;rw [hmk,List.length_take,HDL.out];rfl
 have HMKB:Hid (Bytes mk):=by rw [hmk];exact Bytes.take HDB.out _
 rw [←hR,HEC.out (),←hS,←hds,←hmk]
 have hm:=Mem.start w
 clear hr hl hcb ht_ htl htb hR hds hS hes hmk
 go_enter Tryz.func165,Tryz.ntmps165
 go_wp2_with (first
  | ((with_reducible refine aa (some 8) (.alloc 106) ?_);refine af _ ir hm ?_;clear hm;intro w1 gr hm;have HGR:Hid (gr<w1.heap.size):=(hm.get 0 rfl).lt;have HW1:Hid (w.heap.size≤w1.heap.size):=hm.size)
  | (go_at_call 163;refine (get_four cs _ 263 HCL.out (by omega) (by omega) HCB.out _ (aE (Row.below' HR.out hm.below) HCL.out (Nat.le_refl _))).mono ?_;rintro e w2 ⟨gd,he,hge,hrd,hb⟩;rw [HRE.out ()] at he;rw [HDE.out ()] at hrd;subst he;have HRD:Hid (Row w2 gd (u8s ds) 5):=hrd;have HB12:Hid (w1.heap.size≤w2.heap.size):=hb.size;replace hm:=hm.call hb;clear hb hrd hge)
  | ((with_reducible refine aa (some 23) (.slice 54 (.tmp 22) (some (.const (.int .i64 50))) none none) ?_);go_must (refine ae (.slice (some ⟨gd,50,none⟩) 209 209) rfl (dI (g:=gd) (o:=0) (len:=259) (cap:=259) aq av 50 209 (by omega) (by omega) rfl rfl rfl rfl) ?_))
  | (go_at_call 139;refine (getText_any es gd 50 209 209 HEL.out (by omega) (by omega) (by omega) HEB.out _ (by have h9:=(Seg.row HRD.out).drop 50;rw [HEE.out ()] at h9;exact h9)).mono ?_;rintro e w3 ⟨v3,c3,he,hb⟩;rw [HSE.out ()] at he;subst he;replace HRD:Hid (Row w3 gd (u8s ds) 5):=Row.below' HRD.out hb;have HB13:Hid (w1.heap.size≤w3.heap.size):=Nat.le_trans HB12.out hb.size;replace hm:=hm.call hb;clear hb)
  | ((with_reducible refine aa (some 34) (.slice 54 (.tmp 33) none (some (.const (.int .i64 50))) none) ?_);go_must (refine ae (.slice (some ⟨gd,0,none⟩) 50 259) rfl (cy aq av 50 (by omega) rfl rfl rfl) ?_))
  | (go_at_call 194;refine (statesOf_any pages limit mk table _ _ hp HMKL.out HTL.out HMKB.out HTB.out _ ⟨_,259,by rw [HMKL.out],by rw [HMKL.out];omega,fun _=>⟨gd,0,rfl,by have h9:=(Seg.row HRD.out).take 50;rw [HMK.out ()] at h9;exact h9⟩⟩ (SlOld.mem HVT.out hm)).mono ?_;rintro e w4 ⟨m,he,hge,hsm,hb⟩;subst he;have HSM:Hid (StM w4 m (statesN pages limit mk table)):=hsm;have HMG:Hid (w1.heap.size≤m):=Nat.le_trans HB13.out hge;replace hm:=hm.call hb;clear hb hsm hge)
  | ((with_reducible refine aa (some 37) (.build 106 #[(0,.tmp 29),(1,.tmp 30),(2,.tmp 36)]) ?_);go_must (refine aB (supC R S (.map (some m))) _ rfl (built_sup _ _ _) ?_))
  | ((with_reducible refine aa none (.store 106 (.tmp 8) (.tmp 37)) ?_);go_must (refine ag 0 (supC R S (.map (some m))) (Mem.enter (hm.get 0 rfl)) rfl rfl rfl 3 b8 rfl rfl (ed _ _ _) ?_);intro w5 hq;have HU:Hid (Upd gr w4 w5):=hq.toUpd;replace hm:=hm.upd 0 rfl hq.toUpd (hq.get 0 rfl);clear hq))
 obtain ⟨fs,hfs⟩:=ep
 exact ay 0 hm rfl Tryz.results165 rfl _ hfs rfl 3 b8 rfl rfl ⟨m,rfl,Nat.le_trans HW1.out HMG.out,HSM.out.upd HU.out (by have h1:=HMG.out;have h2:=HGR.out;omega),hm.below⟩
end Go.Proofs.YtmlbjfklaehjnaaGreatDoor
