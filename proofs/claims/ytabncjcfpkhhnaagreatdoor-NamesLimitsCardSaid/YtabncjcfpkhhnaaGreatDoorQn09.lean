import Derived.Test.YtabncjcfpkhhnaaGreatDoorQn07
import Derived.Test.YtabncjcfpkhhnaaGreatDoorQn08
set_option maxRecDepth 100000
set_option maxHeartbeats 4000000
namespace Go.Proofs.YtabncjcfpkhhnaaGreatDoor
open Go Go.RowKit Go.Maps
def remL (p:Nms) (s:ByteArray) (e0:Int):List ByteArray:=if e0=0 then (undN p (segsB s)).map (fun x=>tx x.1) else []
theorem np_ne_str (g:Nat) (l:List Value):∀r∈[((g,l,63):Nat×List Value×TypeId)],r.2.2≠9:=by
 intro r hr
 rw [List.mem_singleton.1 hr]
 show (63:Nat)≠9
 decide
theorem rem_n {w:World} {nb m c:Nat} {p:Nms} (h:NmAt w nb m c p) (hcc:c≤80000) (hpl:p.length≤80000) (s:ByteArray) (hs:s.size≤1000) (hM:MaxL w) (e0:Int) (he0:e0=remE p s) :
  Calls Tryz.prog 12 #[.pointer (some ⟨nb,0,none⟩),.string s] w fun e_ w'=>∃v,e_=.returned (.tuple #[v,.int .i64 e0])∧StN w.heap.size w' v (remL p s e0)∧NmAt w' nb m c (if e0=0 then delN p (segsB s) else p)∧Upd m w w':=by
 have hm:=Mem.start w
 have HM:Hid (MaxL w):=hM
 have HR:Hid (NmAt w nb m c p):=h
 have HOK:Hid (NmOk p):=h.ok
 obtain ⟨ks,hks⟩:∃ks,ks=segsB s:=⟨_,rfl⟩
 have hk:PlOk ks:=by rw [hks];exact a8 s
 have HKS:Hid (∀_:Unit,PlOk ks):=fun _=>hk
 obtain ⟨b0,hb0⟩:∃x,x=isP (bs s):=⟨_,rfl⟩
 obtain ⟨b1,hb1⟩:∃x,x=hasN p ks:=⟨_,rfl⟩
 obtain ⟨U,hU⟩:∃U,U=undN p ks:=⟨_,rfl⟩
 obtain ⟨N,hN⟩:∃n,n=U.length:=⟨_,rfl⟩
 have hN9:N≤90000:=by
  rw [hN,hU]
  exact Nat.le_trans (List.length_filter_le _ _) (by omega)
 have HNU:Hid (∀_:Unit,N=U.length):=fun _=>hN
 have HUU:Hid (∀_:Unit,U=undN p ks):=fun _=>hU
 have HPL:Hid (∀W,MaxL W→Calls Tryz.prog 26 #[.string s] W fun e w'=>e=.returned (.tuple #[.agg (pvv ks).toArray,.bool b0])∧Below W.heap.size W w'):=fun W hW=>by rw [hks,hb0];exact bV s W hs hW
 have HH1:Hid (∀W,Below w.heap.size w W→Calls Tryz.prog 28 #[.pointer (some ⟨nb,0,none⟩),.agg (pvv ks).toArray] W fun e w'=>e=.returned (.bool b1)∧Below W.heap.size W w'):=fun W hW=>has_n hk b1 hb1 W (HR.out.below hW)
 have HU:Hid (∀W,Below w.heap.size w W→Calls Tryz.prog 32 #[.pointer (some ⟨nb,0,none⟩),.agg (pvv ks).toArray] W fun e w'=>∃p0 cap,e=.returned (.slice p0 N cap)∧(0<N→∃b,p0=some ⟨b,0,none⟩∧b<w'.heap.size∧∀i x,U[i]?=some x→∀j u,(pvv x.1)[j]?=some u→w'.cell? ⟨b,i * 2+j,none⟩=some u)∧Below W.heap.size W w'):=fun W hW=>by
  refine (under_n (HR.out.below hW) (by omega) (HM.out.below hW) hk).mono ?_
  rintro e w' ⟨v,rfl,⟨p0,cap,hv,hc⟩,hb⟩
  rw [←hU,List.length_map,←hN] at hv hc
  refine ⟨p0,cap,by rw [hv],fun h0=>?_,hb⟩
  obtain ⟨b,h1,_,h3,h4⟩:=hc h0
  exact ⟨b,h1,h3,fun i x hx j u hu=>h4 i x.1 (by rw [List.getElem?_map,hx];rfl) j u hu⟩
 have HE0:Hid (∀_:Unit,e0=if b0=false then 110 else if ks=[] then 110 else if b1=false then 100 else 0):=fun _=>by
  rw [he0,hb0,hb1,hks];rfl
 have HRL:Hid (∀_:Unit,remL p s 0=U.map (fun x=>tx x.1)):=fun _=>by rw [hU,hks];rfl
 have HRN:Hid (∀z:Int,z≠0→remL p s z=[]):=fun z hz=>by unfold remL;rw [if_neg hz]
 rw [←hks]
 clear h hs hM hks hk hb0 hb1 hU hN he0 hpl
 cases b0 with
 | false =>
  have e1:e0=110:=by rw [HE0.out ()];rfl
  subst e1
  rw [if_neg (by omega),HRN.out 110 (by omega)]
  clear HE0
  go_enter Tryz.func12,Tryz.ntmps12
  go_wp2_with (first
   | (go_at_call 26;refine (HPL.out _ (HM.out.below hm.below)).mono ?_;rintro e w' ⟨he,hb⟩;subst he;replace hm:=hm.call hb;clear hb)
   | ((with_reducible refine aa (some 6) (.alloc 63) ?_);refine ad _ av hm ?_;clear hm;intro w1 g6 hm)
   | ((with_reducible refine aa none (.store 63 (.tmp 6) (.tmp 14)) ?_);refine ae 0 (pvv ks) hm rfl rfl rfl 2 ai rfl rfl (ar _) ?_;clear hm;intro w2 hm))
  refine ak ?_
  refine ag (T:=fun W=>Mem w [] W [(g6,pvv ks,63)]) (by kernel_rfl) hm ?_
  intro wc hbw hmw
  clear hm
  have hm:=hmw
  clear hbw hmw
  refine aT 0 (v:=.bool false) rfl (by kernel_rfl) rfl (fun W _=>by go_simp) hm ?_
  go_simp
  refine aT 1 (v:=.bool true) rfl (by kernel_rfl) rfl (fun W _=>by go_simp) hm ?_
  go_simp
  refine aT 2 (v:=.bool true) rfl (by kernel_rfl) rfl (fun W _=>by go_simp) hm ?_
  go_simp
  refine aS 3 rfl (by kernel_rfl) (by kernel_rfl) (by kernel_rfl) rfl hm ?_
  go_simp
  refine aS 4 rfl (by kernel_rfl) (by kernel_rfl) (by kernel_rfl) rfl hm ?_
  go_simp
  refine aS 5 rfl (by kernel_rfl) (by kernel_rfl) (by kernel_rfl) rfl hm ?_
  go_simp
  refine aT 6 (v:=.bool true) rfl (by kernel_rfl) rfl (fun W _=>by go_simp) hm ?_
  go_simp
  refine aT 7 (v:=.bool true) rfl (by kernel_rfl) rfl (fun W _=>by go_simp) hm ?_
  go_simp
  refine wpAnyH_done (by kernel_rfl) ?_ _
  simp only [endsIn]
  go_wp2_with fail
  go_ret2
  exact ⟨_,rfl,⟨none,0,rfl,fun h=>absurd h (by simp)⟩,HR.out.below hm.below,Upd.of_below hm.below⟩
 | true =>
  by_cases hr:ks=[]
  ·have HRT:Hid (∀_:Unit,true=decide (ks=[])):=fun _=>by rw [decide_eq_true hr]
   have e1:e0=110:=by rw [HE0.out (),if_neg (by simp),if_pos hr]
   subst e1
   rw [if_neg (by omega),HRN.out 110 (by omega)]
   clear HE0 hr
   go_enter Tryz.func12,Tryz.ntmps12
   go_wp2_with (first
    | (go_at_call 26;refine (HPL.out _ (HM.out.below hm.below)).mono ?_;rintro e w' ⟨he,hb⟩;subst he;replace hm:=hm.call hb;clear hb)
    | ((with_reducible refine aa (some 6) (.alloc 63) ?_);refine ad _ av hm ?_;clear hm;intro w1 g6 hm)
    | ((with_reducible refine aa none (.store 63 (.tmp 6) (.tmp 14)) ?_);refine ae 0 (pvv ks) hm rfl rfl rfl 2 ai rfl rfl (ar _) ?_;clear hm;intro w2 hm))
   refine ak ?_
   refine ag (T:=fun W=>Mem w [] W [(g6,pvv ks,63)]) (by kernel_rfl) hm ?_
   intro wc hbw hmw
   clear hm
   have hm:=hmw
   clear hbw hmw
   refine aT 0 (v:=.bool true) rfl (by kernel_rfl) rfl (fun W _=>by go_simp) hm ?_
   go_simp
   refine aT 1 (v:=.bool false) rfl (by kernel_rfl) rfl (fun W _=>by go_simp) hm ?_
   go_simp
   refine aT 2 (v:=.bool false) rfl (by kernel_rfl) rfl (fun W _=>by go_simp) hm ?_
   go_simp
   refine aG 3 (v:=.agg (pvv ks).toArray) rfl (by kernel_rfl) rfl (fun W hW=>ah 0 (pvv ks) (Mem.get hW 0 rfl) rfl _ am rfl 2 ai (Nat.le_refl 2) rfl) hm ?_
   go_simp
   refine aO 4 (by kernel_rfl) rfl rfl ?_
   intro K hK
   go_wp2_with (go_at_call 25;refine (aY _).mono ?_;rintro e w' ⟨he,hb⟩;subst he;replace hm:=hm.call hb;clear hb)
   refine hK _ _ hm ?_
   clear hK K
   go_simp
   refine aG 5 (v:=.bool true) rfl (by kernel_rfl) rfl (fun W _=>a7 (HKS.out ()) PlOk.nil true (HRT.out ()) rfl rfl) hm ?_
   go_simp
   refine aT 6 (v:=.bool true) rfl (by kernel_rfl) rfl (fun W _=>by go_simp) hm ?_
   go_simp
   refine aT 7 (v:=.bool true) rfl (by kernel_rfl) rfl (fun W _=>by go_simp) hm ?_
   go_simp
   refine wpAnyH_done (by kernel_rfl) ?_ _
   simp only [endsIn]
   go_wp2_with fail
   go_ret2
   exact ⟨_,rfl,⟨none,0,rfl,fun h=>absurd h (by simp)⟩,HR.out.below hm.below,Upd.of_below hm.below⟩
  ·have HRT:Hid (∀_:Unit,false=decide (ks=[])):=fun _=>by rw [decide_eq_false hr]
   have HE1:Hid (∀_:Unit,e0=if b1=false then 100 else 0):=fun _=>by rw [HE0.out (),if_neg (by simp),if_neg hr]
   clear HE0 hr
   cases b1 with
   | false =>
    have e1:e0=100:=by rw [HE1.out ()];rfl
    subst e1
    rw [if_neg (by omega),HRN.out 100 (by omega)]
    clear HE1
    go_enter Tryz.func12,Tryz.ntmps12
    go_wp2_with (first
     | (go_at_call 26;refine (HPL.out _ (HM.out.below hm.below)).mono ?_;rintro e w' ⟨he,hb⟩;subst he;replace hm:=hm.call hb;clear hb)
     | ((with_reducible refine aa (some 6) (.alloc 63) ?_);refine ad _ av hm ?_;clear hm;intro w1 g6 hm)
     | ((with_reducible refine aa none (.store 63 (.tmp 6) (.tmp 14)) ?_);refine ae 0 (pvv ks) hm rfl rfl rfl 2 ai rfl rfl (ar _) ?_;clear hm;intro w2 hm))
    refine ak ?_
    refine ag (T:=fun W=>Mem w [] W [(g6,pvv ks,63)]) (by kernel_rfl) hm ?_
    intro wc hbw hmw
    clear hm
    have hm:=hmw
    clear hbw hmw
    refine aT 0 (v:=.bool true) rfl (by kernel_rfl) rfl (fun W _=>by go_simp) hm ?_
    go_simp
    refine aT 1 (v:=.bool false) rfl (by kernel_rfl) rfl (fun W _=>by go_simp) hm ?_
    go_simp
    refine aT 2 (v:=.bool false) rfl (by kernel_rfl) rfl (fun W _=>by go_simp) hm ?_
    go_simp
    refine aG 3 (v:=.agg (pvv ks).toArray) rfl (by kernel_rfl) rfl (fun W hW=>ah 0 (pvv ks) (Mem.get hW 0 rfl) rfl _ am rfl 2 ai (Nat.le_refl 2) rfl) hm ?_
    go_simp
    refine aO 4 (by kernel_rfl) rfl rfl ?_
    intro K hK
    go_wp2_with (go_at_call 25;refine (aY _).mono ?_;rintro e w' ⟨he,hb⟩;subst he;replace hm:=hm.call hb;clear hb)
    refine hK _ _ hm ?_
    clear hK K
    go_simp
    refine aG 5 (v:=.bool false) rfl (by kernel_rfl) rfl (fun W _=>a7 (HKS.out ()) PlOk.nil false (HRT.out ()) rfl rfl) hm ?_
    go_simp
    refine aT 6 (v:=.bool false) rfl (by kernel_rfl) rfl (fun W _=>by go_simp) hm ?_
    go_simp
    refine aT 7 (v:=.bool false) rfl (by kernel_rfl) rfl (fun W _=>by go_simp) hm ?_
    go_simp
    refine wpAnyH_done (by kernel_rfl) ?_ _
    simp only [endsIn]
    go_wp2_with (first
     | ((with_reducible refine aa (some 26) (.load 63 (.tmp 6)) ?_);refine al 0 hm rfl rfl _ am rfl 2 ai (by rfl) ?_)
     | (go_at_call 28;refine (HH1.out _ hm.below).mono ?_;rintro e_ w' ⟨he_,hb_⟩;subst he_;replace hm:=hm.call hb_;clear hb_))
    go_ret2
    exact ⟨_,rfl,⟨none,0,rfl,fun h=>absurd h (by simp)⟩,HR.out.below hm.below,Upd.of_below hm.below⟩
   | true =>
    have e1:e0=0:=by rw [HE1.out ()];rfl
    subst e1
    rw [if_pos rfl,HRL.out ()]
    obtain ⟨T,hT⟩:∃T,T=U.map (fun x:Sp=>tx x.1):=⟨_,rfl⟩
    have HT:Hid (∀_:Unit,T=U.map (fun x:Sp=>tx x.1)):=fun _=>hT
    rw [←hT]
    clear hT
    have tk1:Nat:=0
    clear HE1
    go_enter Tryz.func12,Tryz.ntmps12
    go_wp2_with (first
     | (go_at_call 26;refine (HPL.out _ (HM.out.below hm.below)).mono ?_;rintro e w' ⟨he,hb⟩;subst he;replace hm:=hm.call hb;clear hb)
     | ((with_reducible refine aa (some 6) (.alloc 63) ?_);refine ad _ av hm ?_;clear hm;intro w1 g6 hm)
     | ((with_reducible refine aa none (.store 63 (.tmp 6) (.tmp 14)) ?_);refine ae 0 (pvv ks) hm rfl rfl rfl 2 ai rfl rfl (ar _) ?_;clear hm;intro w2 hm))
    refine ak ?_
    refine ag (T:=fun W=>Mem w [] W [(g6,pvv ks,63)]) (by kernel_rfl) hm ?_
    intro wc hbw hmw
    clear hm
    have hm:=hmw
    clear hbw hmw
    refine aT 0 (v:=.bool true) rfl (by kernel_rfl) rfl (fun W _=>by go_simp) hm ?_
    go_simp
    refine aT 1 (v:=.bool false) rfl (by kernel_rfl) rfl (fun W _=>by go_simp) hm ?_
    go_simp
    refine aT 2 (v:=.bool false) rfl (by kernel_rfl) rfl (fun W _=>by go_simp) hm ?_
    go_simp
    refine aG 3 (v:=.agg (pvv ks).toArray) rfl (by kernel_rfl) rfl (fun W hW=>ah 0 (pvv ks) (Mem.get hW 0 rfl) rfl _ am rfl 2 ai (Nat.le_refl 2) rfl) hm ?_
    go_simp
    refine aO 4 (by kernel_rfl) rfl rfl ?_
    intro K hK
    go_wp2_with (go_at_call 25;refine (aY _).mono ?_;rintro e w' ⟨he,hb⟩;subst he;replace hm:=hm.call hb;clear hb)
    refine hK _ _ hm ?_
    clear hK K
    go_simp
    refine aG 5 (v:=.bool false) rfl (by kernel_rfl) rfl (fun W _=>a7 (HKS.out ()) PlOk.nil false (HRT.out ()) rfl rfl) hm ?_
    go_simp
    refine aT 6 (v:=.bool false) rfl (by kernel_rfl) rfl (fun W _=>by go_simp) hm ?_
    go_simp
    refine aT 7 (v:=.bool false) rfl (by kernel_rfl) rfl (fun W _=>by go_simp) hm ?_
    go_simp
    refine wpAnyH_done (by kernel_rfl) ?_ _
    simp only [endsIn]
    go_wp2_with (first
     | (clear tk1;go_at_call 28;refine (HH1.out _ hm.below).mono ?_;rintro e_ w' ⟨he_,hb_⟩;subst he_;replace hm:=hm.call hb_;clear hb_)
     | ((with_reducible refine aa (some 26) (.load 63 (.tmp 6)) ?_);refine al 0 hm rfl rfl _ am rfl 2 ai (by rfl) ?_)
     | ((with_reducible refine aa (some 30) (.load 63 (.tmp 6)) ?_);refine al 0 hm rfl rfl _ am rfl 2 ai (by rfl) ?_)
     | (go_at_call 32;refine (HU.out _ hm.below).mono ?_;rintro e w2 ⟨p0,cap,he,hcc2,hb⟩;subst he;have HC2:Hid (0<N→∃b,p0=some ⟨b,0,none⟩∧b<w2.heap.size∧∀i x,U[i]?=some x→∀j u,(pvv x.1)[j]?=some u→w2.cell? ⟨b,i * 2+j,none⟩=some u):=hcc2;clear hcc2;replace hm:=hm.call hb;clear hb))
    have HB2:Hid (Below w.heap.size w w2):=hm.below
    have hz2:=hm.size
    have HR2:Hid (NmAt w2 nb m c p):=HR.out.below HB2.out
    have hml:m<w2.heap.size:=HR2.out.lt
    obtain ⟨q,hq,hkm⟩:=HR2.out.map
    have HM2:Hid (MaxL w2):=HM.out.below HB2.out
    obtain ⟨es,cl,hes⟩:=hkm.isMap
    have hnm:nb≠m:=aN HR2.out.row hes
    have hm0:m≠0:=by
     rintro rfl
     obtain ⟨z,hz⟩:=HM2.out
     rw [cV hes] at hz;cases hz
    have HBM:Hid (∀b n v,w2.cell? ⟨b,n,none⟩=some v→b≠m):=by
     rintro b n v hv rfl
     rw [cV hes] at hv;cases hv
    have HM0:Hid (Mem w2 [m] w2 []):=(Mem.start w2).weak
    have HO0:Hid (w2.ownsRow w2.heap.size 9 1 (.slice none 0 0) 0 (strs (T.take 0))):=⟨rfl,Or.inl ⟨rfl,rfl⟩⟩
    have HK0:Hid (KM Tryz.prog 63 w2 m q (NmK (lessN p U 0))):=by rw [less_zero];exact hkm
    clear hm HU hkm hes
    go_loopw [33,8] (fun vi va wr=>∃k:Nat,k≤N∧vi=.int .i64 (k:Int)∧∃vb,vb=va∧Hid (Mem w2 [m] wr [])∧Hid (wr.ownsRow w2.heap.size 9 1 vb k (strs (T.take k)))∧Hid (KM Tryz.prog 63 wr m q (NmK (lessN p U k)))) (fun vi _ _=>match vi with | .int _ k=>N - k.toNat|_=>0)
    case atStart=>exact ⟨0,by omega,rfl,_,rfl,HM0,HO0,HK0⟩
    case round =>
     obtain ⟨k,hk,rfl,va,rfl,HMM,HOW,HKW⟩:=hrel
     by_cases hlt:k<N
     ·have hki:(k:Int)<(N:Int):=by omega
      have hw:IntKind.i64.wrap ((k:Int)+1)=(k:Int)+1:=wrapi _ (by omega) (by omega)
      have hk9:k≤100000:=by omega
      have hkp:k<U.length:=by rw [←HNU.out ()];exact hlt
      obtain ⟨x,hx⟩:∃x,x=U[k]:=⟨_,rfl⟩
      have HPK:Hid (∀_:Unit,U[k]?=some x):=fun _=>by rw [hx];simp [hkp]
      obtain ⟨k1,hk1⟩:∃ks,ks=x.1:=⟨_,rfl⟩
      have hxp:x∈p:=by
       have h1:x∈U:=by rw [hx];exact List.getElem_mem hkp
       rw [HUU.out ()] at h1
       exact (List.mem_filter.1 h1).1
      have HXP:Hid (∀_:Unit,x∈p∧k1=x.1):=fun _=>⟨hxp,hk1⟩
      have HK1:Hid (∀_:Unit,PlOk k1):=fun _=>by rw [hk1];exact HOK.out.ok x hxp
      obtain ⟨y1,hy1⟩:∃y,y=tx k1:=⟨_,rfl⟩
      have HY1:Hid (∀_:Unit,Value.string (tx k1)=.string y1):=fun _=>by rw [hy1]
      have HTK:Hid (∀_:Unit,T.take (k+1)=T.take k++[y1]):=fun _=>by
       rw [List.take_add_one,HT.out (),List.getElem?_map,HPK.out (),hy1,hk1];rfl
      obtain ⟨b,hb0,hb1,hb2⟩:=HC2.out (by omega)
      subst hb0
      have hbm:b≠m:=HBM.out b (k * 2+0) _ (hb2 k x (HPK.out ()) 0 _ rfl)
      have HC:Hid (∀j u,(pvv k1)[j]?=some u→wr.cell? ⟨b,k * 2+j,none⟩=some u):=fun j u hu=>by
       rw [HMM.out.old (p:=⟨b,k * 2+j,none⟩) hb1 (by simpa using hbm)]
       rw [hk1] at hu
       exact hb2 k x (HPK.out ()) j u hu
      have HMR:Hid (MaxL wr):=HM2.out.at0 (HMM.out.block 0 HM2.out.lt0 (by simpa using fun e:0=m=>hm0 e.symm))
      have HRN2:Hid (Row wr nb [.map (some m)] 69):=HMM.out.toUpd.row HR2.out.row hnm
      have hm:=Mem.start wr
      clear hx hk1 hxp hb1 hb2 hbm hy1
      go_wp2_with (first
       | ((with_reducible refine aa (some 35) (.indexAddr 74 (.tmp 31) (.tmp 33)) ?_);go_must (refine ab (.pointer (some ⟨b,k * 2,none⟩)) rfl (exec_ixK 2 k un_nps ai rfl rfl rfl hlt) ?_))
       | ((with_reducible refine aa (some 36) (.load 63 (.tmp 35)) ?_);go_must (refine ab (.agg (pvv k1).toArray) rfl (b9 (k * 2) 2 (pvv k1) _ rfl HC.out am rfl ai rfl) ?_))
       | ((with_reducible refine aa (some 10) (.alloc 63) ?_);refine ad _ av hm ?_;clear hm;intro w3 g10 hm)
       | ((with_reducible refine aa none (.store 63 (.tmp 10) (.tmp 36)) ?_);refine ae 0 (pvv k1) hm rfl rfl rfl 2 ai rfl rfl (ar _) ?_;clear hm;intro w4 hm)
       | ((with_reducible refine aa (some 38) (.load 63 (.tmp 10)) ?_);refine al 0 hm rfl rfl _ am rfl 2 ai (by rfl) ?_)
       | (go_at_call 27;refine (bj (HK1.out ()) _ (HMR.out.below hm.below)).mono ?_;rintro e w' ⟨he,hb⟩;subst he;replace hm:=hm.call hb;clear hb)
       | ((with_reducible refine aa (some 40) (.buildSlice 33 1 #[(0,.tmp 39)]) ?_);go_must (refine aV rfl (.string noStr) (.string y1) bf b8 rfl (HY1.out ()) rfl hm ?_);clear hm;intro w6 g8 hb6 hm;clear hb6)
       | ((with_reducible refine aa (some 41) (.call {callee:=.builtin .append,args:=#[.tmp 37,.tmp 40],argTypes:=#[33,33]}) ?_);go_must (refine bv (.string noStr) 1 16 rfl bf bQ rfl (by omega) (by omega) (aH HOW.out hm.below) (Nat.le_trans HMM.out.size hm.size) rfl rfl (hm.get 0 rfl) rfl (cP y1) hk9 ?_);intro v9 w9 ho9 hg9 hl9;have H9:Hid (w9.ownsRow w2.heap.size 9 1 v9 (k+1) (strs (T.take k)++[.string y1])):=ho9;have HG9:Hid (World.grownBy _ w9 (Value.ownBlock va)):=hg9;have HB9:Hid (Below wr.heap.size wr _):=hm.below;replace hm:=(Mem.link HMM.out hm.tail).grownT hg9 (aH HOW.out HB9.out) (np_ne_str _ _) (Nat.le_refl _);clear ho9 hg9 hl9))
      have HK9:Hid (KM Tryz.prog 63 w9 m q (NmK (lessN p U k))):=(HKW.out.below HB9.out).keep (HG9.out.block m (by have:=HMM.out.size;have:=HB9.out.size;omega) (fun e=>by have:=(World.ownsRow.lt (aH HOW.out HB9.out) m e.symm).1;omega))
      have HRN9:Hid (Row w9 nb [.map (some m)] 69):=hm.toUpd.row HR2.out.row hnm
      refine ak ?_
      refine ag (T:=fun W=>Row W nb [.map (some m)] 69∧Row W g10 (pvv k1) 63) (by kernel_rfl) hm ?_
      intro wc hbw hmw
      clear hm
      have hm:=hmw
      have HTT:Hid (Row wc nb [.map (some m)] 69∧Row wc g10 (pvv k1) 63):=⟨Row.bel HRN9.out hbw,hm.get 0 rfl⟩
      replace HK9:Hid (KM Tryz.prog 63 wc m q (NmK (lessN p U k))):=HK9.out.below hbw
      replace H9:Hid (wc.ownsRow w2.heap.size 9 1 v9 (k+1) (strs (T.take k)++[.string y1])):=aH H9.out hbw
      obtain ⟨es9,c9,hmap9⟩:=HK9.out.isMap
      have hne1:nb≠m:=aN HTT.out.1 hmap9
      have hne2:g10≠m:=aN HTT.out.2 hmap9
      have HMP9:Hid (wc.heap[m]?=some (.map es9 c9)):=hmap9
      obtain ⟨kl9,hkl9⟩:=cu (HK1.out ())
      have HKL9:Hid (keyOf Tryz.prog 63 (.agg (pvv k1).toArray)=some kl9):=hkl9
      clear hmw hbw hmap9 hkl9
      refine aT 0 (v:=.pointer (some ⟨nb,0,none⟩)) rfl (by kernel_rfl) rfl (fun W _=>by go_simp) HTT.out ?_
      go_simp
      refine aT 1 (v:=.pointer (some ⟨nb,0,none⟩)) rfl (by kernel_rfl) rfl (fun W _=>by go_simp) HTT.out ?_
      go_simp
      refine aT 2 (v:=.pointer (some ⟨nb,0,none⟩)) rfl (by kernel_rfl) rfl (fun W _=>by go_simp) HTT.out ?_
      go_simp
      refine aT 3 (v:=.map (some m)) rfl (by kernel_rfl) rfl (fun W hW=>af 0 (.map (some m)) hW.1 rfl ag_nm rfl) HTT.out ?_
      go_simp
      refine aT 4 (v:=.agg (pvv k1).toArray) rfl (by kernel_rfl) rfl (fun W hW=>ah 0 (pvv k1) hW.2 rfl _ am rfl 2 ai (Nat.le_refl 2) rfl) HTT.out ?_
      go_simp
      refine aO 5 (by kernel_rfl) rfl rfl ?_
      intro K hK
      refine wpl_kmDel HK9.out aU bY HKL9.out rfl rfl ?_
      intro w10 km8 hu9
      have HKM8:Hid (KM Tryz.prog 63 w10 m q (delK (NmK (lessN p U k)) (.agg (pvv k1).toArray))):=km8
      have HU9:Hid (Upd m wc w10):=hu9
      have HT9:Hid (Row w10 nb [.map (some m)] 69∧Row w10 g10 (pvv k1) 63):=⟨hu9.row HTT.out.1 hne1,hu9.row HTT.out.2 hne2⟩
      clear km8 hu9
      refine wpList_nil ?_
      refine hK _ _ HT9.out ?_
      clear hK K
      go_simp
      refine wpAnyH_done (by kernel_rfl) ?_ _
      simp only [endsIn]
      go_wp2_with fail
      go_roundw
      case rel =>
       refine ⟨k+1,by omega,by go_num,v9,rfl,(hm.tail.updO HMP9.out (Or.inl (by simp)) HU9.out),?_,?_⟩
       ·have h9:=own_upd H9.out HU9.out hml
        show World.ownsRow _ _ _ _ _ _ _
        rw [HTK.out ()]
        unfold strs at h9 ⊢
        rw [List.map_append]
        exact h9
       ·have h9:=HKM8.out
        rw [(HXP.out ()).2] at h9
        exact h9.same (nmK_less HOK.out (HPK.out ()) (HXP.out ()).1)
      case measure=>show N - ((k:Int)+1).toNat<N - (k:Int).toNat;omega
     ·have hin:k=N:=by omega
      have hki:¬(k:Int)<(N:Int):=by omega
      have HTE:Hid (∀_:Unit,T.take k=T):=fun _=>List.take_of_length_le (by rw [HT.out (),List.length_map,hin,HNU.out ()];exact Nat.le_refl _)
      have HTL:Hid (∀_:Unit,k=T.length):=fun _=>by rw [HT.out (),List.length_map,hin,HNU.out ()]
      have HKE:Hid (∀_:Unit,lessN p U k=delN p ks):=fun _=>by
       rw [HUU.out ()]
       exact less_all ks (by rw [←HUU.out (),←HNU.out (),hin];exact Nat.le_refl _)
      go_wp2_with fail
      go_ret2
      refine ⟨va,rfl,?_,⟨HMM.out.toUpd.row HR2.out.row hnm,⟨q,hq,by rw [←HKE.out ()];exact HKW.out⟩,HOK.out.del ks⟩,(Upd.of_below (HB2.out.mono (Nat.le_refl _))).trans HMM.out.toUpd⟩
      have h9:=HOW.out
      rw [HTE.out ()] at h9
      exact (stn_of_own h9 (HTL.out ())).lower hz2
open Go Go.RowKit Go.Maps
theorem aJ {w:World} {nb m c:Nat} {p:Nms} (h:NmAt w nb m c p) (hcc:c≤80000) (s:ByteArray) (hs:s.size≤1000) (hM:MaxL w) (b e e0:Int) (p':Nms) (he:addE p s b e=e0) (hp:(if e0=0 then addN p (segsB s,b,e,0,0,0,0) else p)=p') :
  Calls Tryz.prog 10 #[.pointer (some ⟨nb,0,none⟩),.string s,.int .i64 b,.int .i64 e] w fun e_ w'=>e_=.returned (.int .i64 e0)∧NmAt w' nb m (c+1) p'∧Upd m w w':=by
 rw [←hp]
 exact add_n h hcc s hs hM b e e0 he.symm
theorem rem_k {w:World} {nb m c:Nat} {p:Nms} (h:NmAt w nb m c p) (hcc:c≤80000) (hpl:p.length≤80000) (s:ByteArray) (hs:s.size≤1000) (hM:MaxL w) (e0:Int) (p':Nms) (L:List ByteArray) (he:remE p s=e0) (hp:(if e0=0 then delN p (segsB s) else p)=p') (hL:remL p s e0=L) :
  Calls Tryz.prog 12 #[.pointer (some ⟨nb,0,none⟩),.string s] w fun e_ w'=>∃v,e_=.returned (.tuple #[v,.int .i64 e0])∧StN w.heap.size w' v L∧NmAt w' nb m c p'∧Upd m w w':=by
 rw [←hp,←hL]
 exact rem_n h hcc hpl s hs hM e0 he.symm
theorem bL {w:World} {nb m c:Nat} {p:Nms} (h:NmAt w nb m c p) (s:ByteArray) (hs:s.size≤1000) (hM:MaxL w) (V:List Value) (b:Bool) (hV:getV p s=V) (hb:getB p s=b) :
  Calls Tryz.prog 15 #[.pointer (some ⟨nb,0,none⟩),.string s] w fun e w'=>e=.returned (.tuple #[.agg V.toArray,.bool b])∧Below w.heap.size w w':=by
 rw [←hV,←hb]
 exact get_n h s hs hM
theorem bt {w:World} {nb m c:Nat} {p:Nms} (h:NmAt w nb m c p) (hcc:c≤90000) (s:ByteArray) (L:List ByteArray) (hL:kidsN p s=L) :
  Calls Tryz.prog 19 #[.pointer (some ⟨nb,0,none⟩),.string s] w fun e w'=>∃v,e=.returned v∧StN w.heap.size w' v L∧Below w.heap.size w w':=by
 rw [←hL]
 exact kids_n h hcc s
theorem StN.two {B:Nat} {w:World} {v:Value} {x:ByteArray} {L:List ByteArray} {n:Nat} (h:StN B w v L) (hn:L.length=n) (i:Nat) (hx:L[i]?=some x):∃b cap,v=.slice (some ⟨b,0,none⟩) n cap∧B≤b∧b<w.heap.size∧w.cell? ⟨b,i,none⟩=some (.string x):=by
 obtain ⟨p,cap,hv,hc⟩:=h
 have hi:i<L.length:=(List.getElem?_eq_some_iff.1 hx).1
 obtain ⟨b,h1,h2,h3,h4⟩:=hc (by omega)
 exact ⟨b,cap,by rw [hv,h1,hn],h2,h3,h4 i x hx⟩
theorem MaxL.upd0 {w w':World} {m:Nat} (h:MaxL w) (hm:0<m) (hu:Upd m w w'):MaxL w':=h.at0 (hu.block 0 h.lt0 (by omega))
def pA0:Nms:=newN 100 (-1)
def pA1:Nms:=addN pA0 (segsB ⟨#[97]⟩,5,6,0,0,0,0)
def pA2:Nms:=addN pA1 (segsB ⟨#[97,47,98]⟩,1,1,0,0,0,0)
theorem kA0:addE pA0 ⟨#[97]⟩ (5) (6)=0:=by decide +kernel
theorem kP0:(if (0:Int)=0 then addN pA0 (segsB ⟨#[97]⟩,(5),(6),0,0,0,0) else pA0)=pA1:=by rfl
theorem kA1:addE pA1 ⟨#[97,47,98]⟩ (1) (1)=0:=by decide +kernel
theorem kP1:(if (0:Int)=0 then addN pA1 (segsB ⟨#[97,47,98]⟩,(1),(1),0,0,0,0) else pA1)=pA2:=by rfl
theorem kA2:addE pA2 ⟨#[120,47,121]⟩ (1) (1)=100:=by decide +kernel
theorem kP2:(if (100:Int)=0 then addN pA2 (segsB ⟨#[120,47,121]⟩,(1),(1),0,0,0,0) else pA2)=pA2:=by rw [if_neg (by omega)]
theorem kA3:addE pA2 ⟨#[97]⟩ (1) (1)=101:=by decide +kernel
theorem kP3:(if (101:Int)=0 then addN pA2 (segsB ⟨#[97]⟩,(1),(1),0,0,0,0) else pA2)=pA2:=by rw [if_neg (by omega)]
theorem kA4:addE pA2 ⟨#[]⟩ (1) (1)=110:=by decide +kernel
theorem kP4:(if (110:Int)=0 then addN pA2 (segsB ⟨#[]⟩,(1),(1),0,0,0,0) else pA2)=pA2:=by rw [if_neg (by omega)]
theorem kA5:addE pA2 ⟨#[98]⟩ (-1) (0)=12:=by decide +kernel
theorem kP5:(if (12:Int)=0 then addN pA2 (segsB ⟨#[98]⟩,(-1),(0),0,0,0,0) else pA2)=pA2:=by rw [if_neg (by omega)]
theorem kG1:getV pA2 ⟨#[97]⟩=spc [⟨#[97]⟩] 5 6:=by kernel_rfl
theorem kGB1:getB pA2 ⟨#[97]⟩=true:=by decide +kernel
theorem kG2:getV pA2 ⟨#[]⟩=spc [] 100 0:=by kernel_rfl
theorem kGB2:getB pA2 ⟨#[]⟩=true:=by decide +kernel
theorem kKids:kidsN pA2 ⟨#[97]⟩=[⟨#[98]⟩]:=by decide +kernel
theorem kR:remE pA2 ⟨#[97]⟩=0:=by decide +kernel
theorem kRP:(if (0:Int)=0 then delN pA2 (segsB ⟨#[97]⟩) else pA2)=pA0:=by kernel_rfl
theorem kRL:remL pA2 ⟨#[97]⟩ 0=[⟨#[97]⟩,⟨#[97,47,98]⟩]:=by decide +kernel
theorem kLen2:pA2.length=3:=by decide +kernel
theorem kLen0:pA0.length=1:=by decide +kernel
theorem tx_a:tx [⟨#[97]⟩]=⟨#[97]⟩:=by decide +kernel
theorem aI (w:World) (hM:MaxL w):Calls Tryz.prog 7 #[] w fun e w'=>e=.returned (.bool true)∧Below w.heap.size w w':=by
 have HM:Hid (MaxL w):=hM
 clear hM
 have tk0:Nat:=0
 have tk1:Nat:=0
 have tk2:Nat:=0
 have tk3:Nat:=0
 have tk4:Nat:=0
 have tk9:Nat:=0
 go_enter Tryz.func7,Tryz.ntmps7
 go_wp2_with (first
  | (go_at_call 8;refine (ce 100 (-1) _).mono ?_;rintro e w1 ⟨nb,m,he,hwn,hwm,hn,hb⟩;subst he;have hm0:0<m:=Nat.lt_of_lt_of_le HM.out.lt0 hwm;have HN:Hid (NmAt w1 nb m 1 pA0):=hn;have HB:Hid (Below w.heap.size w w1):=hb;clear hn hb)
  | (clear tk0;go_at_call 10;refine (aJ HN.out (by omega) ⟨#[97]⟩ (by decide) (HM.out.below HB.out) (5) (6) 0 pA1 kA0 kP0).mono ?_;rintro e wa0 ⟨he,hn,hu⟩;subst he;replace HN:Hid (NmAt wa0 nb m 2 pA1):=hn;replace HB:Hid (Below w.heap.size w wa0):=aA HB.out hu hwm HB.out.size;clear hn hu)
  | (clear tk1;go_at_call 10;refine (aJ HN.out (by omega) ⟨#[97,47,98]⟩ (by decide) (HM.out.below HB.out) (1) (1) 0 pA2 kA1 kP1).mono ?_;rintro e wa1 ⟨he,hn,hu⟩;subst he;replace HN:Hid (NmAt wa1 nb m 3 pA2):=hn;replace HB:Hid (Below w.heap.size w wa1):=aA HB.out hu hwm HB.out.size;clear hn hu)
  | (clear tk2;go_at_call 10;refine (aJ HN.out (by omega) ⟨#[120,47,121]⟩ (by decide) (HM.out.below HB.out) (1) (1) 100 pA2 kA2 kP2).mono ?_;rintro e wa2 ⟨he,hn,hu⟩;subst he;replace HN:Hid (NmAt wa2 nb m 4 pA2):=hn;replace HB:Hid (Below w.heap.size w wa2):=aA HB.out hu hwm HB.out.size;clear hn hu)
  | (clear tk3;go_at_call 10;refine (aJ HN.out (by omega) ⟨#[97]⟩ (by decide) (HM.out.below HB.out) (1) (1) 101 pA2 kA3 kP3).mono ?_;rintro e wa3 ⟨he,hn,hu⟩;subst he;replace HN:Hid (NmAt wa3 nb m 5 pA2):=hn;replace HB:Hid (Below w.heap.size w wa3):=aA HB.out hu hwm HB.out.size;clear hn hu)
  | (clear tk4;go_at_call 10;refine (aJ HN.out (by omega) ⟨#[]⟩ (by decide) (HM.out.below HB.out) (1) (1) 110 pA2 kA4 kP4).mono ?_;rintro e wa4 ⟨he,hn,hu⟩;subst he;replace HN:Hid (NmAt wa4 nb m 6 pA2):=hn;replace HB:Hid (Below w.heap.size w wa4):=aA HB.out hu hwm HB.out.size;clear hn hu)
  | (go_at_call 10;refine (aJ HN.out (by omega) ⟨#[98]⟩ (by decide) (HM.out.below HB.out) (-1) (0) 12 pA2 kA5 kP5).mono ?_;rintro e wa5 ⟨he,hn,hu⟩;subst he;replace HN:Hid (NmAt wa5 nb m 7 pA2):=hn;replace HB:Hid (Below w.heap.size w wa5):=aA HB.out hu hwm HB.out.size;clear hn hu)
  | (clear tk9;go_at_call 15;have hm:=Mem.start wa5;refine (bL HN.out ⟨#[97]⟩ (by decide) (HM.out.below HB.out) _ _ kG1 kGB1).mono ?_;rintro e w' ⟨he,hb⟩;subst he;replace hm:=hm.call hb;clear hb)
  | ((with_reducible refine aa (some 2) (.alloc 40) ?_);refine ad _ ay hm ?_;clear hm;intro w2 g2 hm)
  | ((with_reducible refine aa none (.store 40 (.tmp 2) (.tmp 45)) ?_);refine ae 0 (spc [⟨#[97]⟩] 5 6) hm rfl rfl rfl 5 ax rfl rfl (az _ _ _) ?_;clear hm;intro w3 hm)
  | (go_at_call 15;refine (bL (HN.out.below hm.below) ⟨#[]⟩ (by decide) ((HM.out.below HB.out).below hm.below) _ _ kG2 kGB2).mono ?_;rintro e w' ⟨he,hb⟩;subst he;replace hm:=hm.call hb;clear hb)
  | ((with_reducible refine aa (some 4) (.alloc 40) ?_);refine ad _ ay hm ?_;clear hm;intro w4 g4 hm)
  | ((with_reducible refine aa none (.store 40 (.tmp 4) (.tmp 50)) ?_);refine ae 0 (spc [] 100 0) hm rfl rfl rfl 5 ax rfl rfl (az _ _ _) ?_;clear hm;intro w5 hm)
  | (go_at_call 19;refine (bt (HN.out.below hm.below) (by omega) ⟨#[97]⟩ _ kKids).mono ?_;rintro e w6 ⟨v,he,hs,hb⟩;obtain ⟨bk,ck,hv,hk1,hk2,hk3⟩:=hs.two rfl 0 rfl;subst hv;subst he;have HK:Hid (bk<w6.heap.size∧w6.cell? ⟨bk,0,none⟩=some (.string ⟨#[98]⟩)):=⟨hk2,hk3⟩;replace hm:=hm.call hb;have hz6:=hm.size;clear hb hs hk1 hk2 hk3)
  | (go_at_call 12;refine (rem_k (HN.out.below hm.below) (by omega) (by rw [kLen2];omega) ⟨#[97]⟩ (by decide) ((HM.out.below HB.out).below hm.below) 0 pA0 _ kR kRP kRL).mono ?_;rintro e w7 ⟨v,he,hs,hn,hu⟩;obtain ⟨br,cr,hv,hk1,hk2,hk3⟩:=hs.two rfl 1 rfl;subst hv;subst he;have HR:Hid (br<w7.heap.size∧w7.cell? ⟨br,1,none⟩=some (.string ⟨#[97,47,98]⟩)):=⟨hk2,hk3⟩;obtain ⟨es,cc,hes⟩:=(HN.out.below hm.below).isMap;have hbm:bk≠m:=(fun h=>by have h9:=HK.out.2;rw [h,cV hes] at h9;cases h9);replace HK:Hid (bk<w7.heap.size∧w7.cell? ⟨bk,0,none⟩=some (.string ⟨#[98]⟩)):=⟨Nat.lt_of_lt_of_le HK.out.1 hu.size,(hu.cell (p:=⟨bk,0,none⟩) HK.out.1 hbm).trans HK.out.2⟩;replace hm:=(hm.weak (S:=[m])).updO hes (Or.inl (by simp)) hu;replace HN:Hid (NmAt w7 nb m 7 pA0):=hn;clear hn hu hs hk1 hk2 hk3 hes hbm es cc)
  | ((with_reducible refine aj (some 62) (.load 3 (.tmp 61)) (some (1,true)) ?_);go_must (refine ab (.int .i64 5) rfl (af 1 (.int .i64 5) (hm.get 1 rfl) rfl au (by first|rfl|exact (congrArg (fun z=>some (Value.string z)) tx_a))) ?_))
  | ((with_reducible refine aj (some 67) (.load 9 (.tmp 66)) (some (6,true)) ?_);go_must (refine ab (.string ⟨#[97]⟩) rfl (af 0 (.string ⟨#[97]⟩) (hm.get 1 rfl) rfl aq (by first|rfl|exact (congrArg (fun z=>some (Value.string z)) tx_a))) ?_))
  | ((with_reducible refine aj (some 68) (.binOp .eql 9 (.tmp 67) (.const (.string {data:=#[97]})) 9) (some (6,true)) ?_);go_must (refine ab (.bool true) rfl (aR ⟨#[97]⟩ ⟨#[97]⟩ true rfl rfl (bD _)) ?_))
  | ((with_reducible refine aj (some 75) (.load 3 (.tmp 74)) (some (14,true)) ?_);go_must (refine ab (.int .i64 0) rfl (af 2 (.int .i64 0) (hm.get 0 rfl) rfl au (by first|rfl|exact (congrArg (fun z=>some (Value.string z)) tx_a))) ?_))
  | ((with_reducible refine aj (some 85) (.indexAddr 33 (.tmp 84) (.const (.int .i64 0))) (some (24,true)) ?_);go_must (refine ab (.pointer (some ⟨bk,0,none⟩)) rfl (cy 0 rfl rfl rfl (by omega)) ?_))
  | ((with_reducible refine aj (some 86) (.load 9 (.tmp 85)) (some (24,true)) ?_);go_must (refine ab (.string ⟨#[98]⟩) rfl (bw (.string ⟨#[98]⟩) HK.out.2 rfl aq) ?_))
  | ((with_reducible refine aj (some 87) (.binOp .eql 9 (.tmp 86) (.const (.string {data:=#[98]})) 9) (some (24,true)) ?_);go_must (refine ab (.bool true) rfl (aR ⟨#[98]⟩ ⟨#[98]⟩ true rfl rfl (bD _)) ?_))
  | ((with_reducible refine aj (some 100) (.indexAddr 33 (.tmp 99) (.const (.int .i64 1))) (some (39,true)) ?_);go_must (refine ab (.pointer (some ⟨br,1,none⟩)) rfl (cy 1 rfl rfl rfl (by omega)) ?_))
  | ((with_reducible refine aj (some 101) (.load 9 (.tmp 100)) (some (39,true)) ?_);go_must (refine ab (.string ⟨#[97,47,98]⟩) rfl (bw (.string ⟨#[97,47,98]⟩) HR.out.2 rfl aq) ?_))
  | ((with_reducible refine aj (some 102) (.binOp .eql 9 (.tmp 101) (.const (.string {data:=#[97,47,98]})) 9) (some (39,true)) ?_);go_must (refine ab (.bool true) rfl (aR ⟨#[97,47,98]⟩ ⟨#[97,47,98]⟩ true rfl rfl (bD _)) ?_))
  | (go_at_call 18;refine (all_n HN.out (by omega) (by rw [kLen0];omega) (MaxL.upd0 (HM.out.below HB.out) hm0 hm.toUpd)).mono ?_;rintro e w8 ⟨v,he,⟨pz,cz,hv,hz⟩,hb⟩;subst hv;subst he;rw [kLen0];replace hm:=hm.call hb;clear hb hz))
 go_ret
 exact ⟨rfl,aA HB.out hm.toUpd hwm HB.out.size⟩
open Go Go.RowKit Go.Maps
theorem c4 {p:Nms} (hp:NmOk p) {x:Sp} (hx:x∈p) {s:ByteArray} (hP:isP (bs s)=true) (hs:segsB s=x.1):getV p s=spv x∧getB p s=true:=by
 have h1:getB p s=true:=by unfold getB;rw [hP,Bool.true_and,hs];exact aM.2 ⟨x,hx,rfl⟩
 refine ⟨?_,h1⟩
 unfold getV
 unfold getB at h1
 rw [if_pos h1,hs,lookV_some (hp.get hx)]
theorem get_of_not {p:Nms} {s:ByteArray} (h:hasN p (segsB s)=false):getV p s=spZ∧getB p s=false:=by
 have h1:getB p s=false:=by unfold getB;rw [h,Bool.and_false]
 refine ⟨?_,h1⟩
 unfold getV
 unfold getB at h1
 rw [if_neg (by rw [h1];simp)]
theorem segs_nil:segsB ⟨#[]⟩=[]:=by decide +kernel
theorem isP_nil:isP (bs ⟨#[]⟩)=true:=by decide +kernel
theorem segs_x:segsB ⟨#[120]⟩=[⟨#[120]⟩]:=by decide +kernel
theorem isP_x:isP (bs ⟨#[120]⟩)=true:=by decide +kernel
theorem ok_x:PlOk [⟨#[120]⟩]:=by rw [←segs_x];exact a8 _
theorem tx_x:tx [⟨#[120]⟩]=⟨#[120]⟩:=by decide +kernel
theorem cO (a b:Int) (ks:List ByteArray):hasN (newN a b) ks=decide (([]:List ByteArray)=ks):=by simp [hasN,newN]
theorem kids_new (a b:Int) (s:ByteArray):kidsN (newN a b) s=[]:=by simp [kidsN,newN]
theorem addE_x (a b c d:Int):addE (newN a b) ⟨#[120]⟩ c d=if limOk c d=false then 12 else 0:=by
 unfold addE
 rw [isP_x,segs_x,cO,cO,kids_new]
 simp
theorem be (a b:Int):getV (newN a b) ⟨#[]⟩=spc [] (heldI a) (heldI b)∧getB (newN a b) ⟨#[]⟩=true :=
 c4 (NmOk.new a b) (List.mem_singleton.2 rfl) isP_nil segs_nil
theorem get_x (a b c d:Int):getV (addN (newN a b) (segsB ⟨#[120]⟩,c,d,0,0,0,0)) ⟨#[120]⟩=spc [⟨#[120]⟩] c d∧getB (addN (newN a b) (segsB ⟨#[120]⟩,c,d,0,0,0,0)) ⟨#[120]⟩=true:=by
 rw [segs_x]
 have hok:NmOk (addN (newN a b) ([⟨#[120]⟩],c,d,0,0,0,0)):=NmOk.add (NmOk.new a b) (x:=([⟨#[120]⟩],c,d,0,0,0,0)) ok_x (by rw [cO];simp)
 exact c4 hok (b6.2 (Or.inl rfl)) isP_x segs_x
theorem bP (a b:Int):getV (newN a b) ⟨#[120]⟩=spZ∧getB (newN a b) ⟨#[120]⟩=false :=
 get_of_not (by rw [segs_x,cO];simp)
theorem info_i2:(Tryz.prog.info? 59).map (fun i=>(i.zero,i.size))=some (some (.agg [Value.int .i64 0,.int .i64 0].toArray),2):=by kernel_rfl
theorem cj:∀w,(zeroValue 59).run Tryz.prog w=.ok (.agg [Value.int .i64 0,.int .i64 0].toArray) w:=(zero_of_info info_i2).1
theorem sz_i2:(Tryz.prog.info? 59).map (·.size)=some 2:=(zero_of_info info_i2).2
theorem bO (x y:Int):Tryz.prog.built 59 [(0,.int .i64 x),(1,.int .i64 y)]=some [Value.int .i64 x,.int .i64 y].toArray:=by kernel_rfl
theorem cf (x y:Int):∀v∈[Value.int .i64 x,.int .i64 y],v.oneCell'=true:=by intro v hv;simp at hv;rcases hv with rfl|rfl<;>rfl
end Go.Proofs.YtabncjcfpkhhnaaGreatDoor
