import Derived.Test.YtdmohffogfbnbaaGreatDoorQp08
import Derived.Test.YtdmohffogfbnbaaGreatDoorQp09
set_option maxRecDepth 100000
set_option maxHeartbeats 4000000
namespace Go.Proofs.YtdmohffogfbnbaaGreatDoor
open Go Go.RowKit Go.Maps
def remL (p:Nms) (s:ByteArray) (e0:Int):List ByteArray:=if e0=0 then (undN p (segsB s)).map (fun x=>tx x.1) else []
theorem np_ne_str (g:Nat) (l:List Value):∀r∈[((g,l,63):Nat×List Value×TypeId)],r.2.2≠9:=by
 intro r hr
 rw [List.mem_singleton.1 hr]
 show (63:Nat)≠9
 decide
theorem rem_n {w:World} {nb m c:Nat} {p:Nms} (h:NmAt w nb m c p) (hcc:c≤80000) (hpl:p.length≤80000) (s:ByteArray) (hs:s.size≤1000) (hM:MaxL w) (e0:Int) (he0:e0=remE p s) :
  Calls Tryz.prog 43 #[.pointer (some ⟨nb,0,none⟩),.string s] w fun e_ w'=>∃v,e_=.returned (.tuple #[v,.int .i64 e0])∧StN w.heap.size w' v (remL p s e0)∧NmAt w' nb m c (if e0=0 then delN p (segsB s) else p)∧Upd m w w':=by
 have hm:=Mem.start w
 have HM:Hid (MaxL w):=hM
 have HR:Hid (NmAt w nb m c p):=h
 have HOK:Hid (NmOk p):=h.ok
 obtain ⟨ks,hks⟩:∃ks,ks=segsB s:=⟨_,rfl⟩
 have hk:PlOk ks:=by rw [hks];exact aR s
 have HKS:Hid (∀_:Unit,PlOk ks):=fun _=>hk
 obtain ⟨b0,hb0⟩:∃x,x=isP (bs s):=⟨_,rfl⟩
 obtain ⟨b1,hb1⟩:∃x,x=hasN p ks:=⟨_,rfl⟩
 obtain ⟨U,hU⟩:∃U,U=undN p ks:=⟨_,rfl⟩
 obtain ⟨N,hN⟩:∃n,n=U.length:=⟨_,rfl⟩
 have hN9:N≤90000:=by
  rw [hN,hU]
  exact Nat.le_trans (List.length_filter_le _ _) (by omega)
 have HNU:Hid (∀_:Unit,N=U.length):=fun _=>hN
 have HUU:Hid (∀_:Unit,U=undN p ks):=fun _=>hU
 have HPL:Hid (∀W,MaxL W→Calls Tryz.prog 34 #[.string s] W fun e w'=>e=.returned (.tuple #[.agg (pvv ks).toArray,.bool b0])∧Below W.heap.size W w'):=fun W hW=>by rw [hks,hb0];exact du s W hs hW
 have HH1:Hid (∀W,Below w.heap.size w W→Calls Tryz.prog 36 #[.pointer (some ⟨nb,0,none⟩),.agg (pvv ks).toArray] W fun e w'=>e=.returned (.bool b1)∧Below W.heap.size W w'):=fun W hW=>has_n hk b1 hb1 W (HR.out.below hW)
 have HU:Hid (∀W,Below w.heap.size w W→Calls Tryz.prog 46 #[.pointer (some ⟨nb,0,none⟩),.agg (pvv ks).toArray] W fun e w'=>∃p0 cap,e=.returned (.slice p0 N cap)∧(0<N→∃b,p0=some ⟨b,0,none⟩∧b<w'.heap.size∧∀i x,U[i]?=some x→∀j u,(pvv x.1)[j]?=some u→w'.cell? ⟨b,i * 2+j,none⟩=some u)∧Below W.heap.size W w'):=fun W hW=>by
  refine (under_n (HR.out.below hW) (by omega) (HM.out.below hW) hk).mono ?_
  rintro e w' ⟨v,rfl,⟨p0,cap,hv,hc⟩,hb⟩
  rw [←hU,List.length_map,←hN] at hv hc
  refine ⟨p0,cap,by rw [hv],fun h0=>?_,hb⟩
  obtain ⟨b,h1,_,h3,h4⟩:=hc h0
  exact ⟨b,h1,h3,fun i x hx j u hu=>h4 i x.1 (by rw [List.getElem?_map,hx];rfl) j u hu⟩
 have HE0:Hid (∀_:Unit,e0=if b0=false then 110 else if ks=[] then 110 else if b1=false then 100 else 0):=fun _=>by
  rw [he0,hb0,hb1,hks];rfl
 have HRL:Hid (∀_:Unit,remL p s 0=U.map (fun x=>tx x.1)):=fun _=>by rw [hU,hks];rfl
 have HRN:Hid (∀z:Int,z≠0→remL p s z=[]):=fun z hz=>by unfold remL;rw [if_neg hz]
 rw [←hks]
 clear h hs hM hks hk hb0 hb1 hU hN he0 hpl
 cases b0 with
 | false =>
  have e1:e0=110:=by rw [HE0.out ()];rfl
  subst e1
  rw [if_neg (by omega),HRN.out 110 (by omega)]
  clear HE0
  go_enter Tryz.func43,Tryz.ntmps43
  go_wp2_with (first
   | (go_at_call 34;refine (HPL.out _ (HM.out.below hm.below)).mono ?_;rintro e w' ⟨he,hb⟩;subst he;replace hm:=hm.call hb;clear hb)
   | ((with_reducible refine ab (some 6) (.alloc 63) ?_);refine ae _ aL hm ?_;clear hm;intro w1 g6 hm)
   | ((with_reducible refine ab none (.store 63 (.tmp 6) (.tmp 14)) ?_);refine af 0 (pvv ks) hm rfl rfl rfl 2 au rfl rfl (aI _) ?_;clear hm;intro w2 hm))
  refine am ?_
  refine ag (T:=fun W=>Mem w [] W [(g6,pvv ks,63)]) (by kernel_rfl) hm ?_
  intro wc hbw hmw
  clear hm
  have hm:=hmw
  clear hbw hmw
  refine aT 0 (v:=.bool false) rfl (by kernel_rfl) rfl (fun W _=>by go_simp) hm ?_
  go_simp
  refine aT 1 (v:=.bool true) rfl (by kernel_rfl) rfl (fun W _=>by go_simp) hm ?_
  go_simp
  refine aT 2 (v:=.bool true) rfl (by kernel_rfl) rfl (fun W _=>by go_simp) hm ?_
  go_simp
  refine aJ 3 rfl (by kernel_rfl) (by kernel_rfl) (by kernel_rfl) rfl hm ?_
  go_simp
  refine aJ 4 rfl (by kernel_rfl) (by kernel_rfl) (by kernel_rfl) rfl hm ?_
  go_simp
  refine aJ 5 rfl (by kernel_rfl) (by kernel_rfl) (by kernel_rfl) rfl hm ?_
  go_simp
  refine aT 6 (v:=.bool true) rfl (by kernel_rfl) rfl (fun W _=>by go_simp) hm ?_
  go_simp
  refine aT 7 (v:=.bool true) rfl (by kernel_rfl) rfl (fun W _=>by go_simp) hm ?_
  go_simp
  refine wpAnyH_done (by kernel_rfl) ?_ _
  simp only [endsIn]
  go_wp2_with fail
  go_ret2
  exact ⟨_,rfl,⟨none,0,rfl,fun h=>absurd h (by simp)⟩,HR.out.below hm.below,Upd.of_below hm.below⟩
 | true =>
  by_cases hr:ks=[]
  ·have HRT:Hid (∀_:Unit,true=decide (ks=[])):=fun _=>by rw [decide_eq_true hr]
   have e1:e0=110:=by rw [HE0.out (),if_neg (by simp),if_pos hr]
   subst e1
   rw [if_neg (by omega),HRN.out 110 (by omega)]
   clear HE0 hr
   go_enter Tryz.func43,Tryz.ntmps43
   go_wp2_with (first
    | (go_at_call 34;refine (HPL.out _ (HM.out.below hm.below)).mono ?_;rintro e w' ⟨he,hb⟩;subst he;replace hm:=hm.call hb;clear hb)
    | ((with_reducible refine ab (some 6) (.alloc 63) ?_);refine ae _ aL hm ?_;clear hm;intro w1 g6 hm)
    | ((with_reducible refine ab none (.store 63 (.tmp 6) (.tmp 14)) ?_);refine af 0 (pvv ks) hm rfl rfl rfl 2 au rfl rfl (aI _) ?_;clear hm;intro w2 hm))
   refine am ?_
   refine ag (T:=fun W=>Mem w [] W [(g6,pvv ks,63)]) (by kernel_rfl) hm ?_
   intro wc hbw hmw
   clear hm
   have hm:=hmw
   clear hbw hmw
   refine aT 0 (v:=.bool true) rfl (by kernel_rfl) rfl (fun W _=>by go_simp) hm ?_
   go_simp
   refine aT 1 (v:=.bool false) rfl (by kernel_rfl) rfl (fun W _=>by go_simp) hm ?_
   go_simp
   refine aT 2 (v:=.bool false) rfl (by kernel_rfl) rfl (fun W _=>by go_simp) hm ?_
   go_simp
   refine aG 3 (v:=.agg (pvv ks).toArray) rfl (by kernel_rfl) rfl (fun W hW=>al 0 (pvv ks) (Mem.get hW 0 rfl) rfl _ aH rfl 2 au (Nat.le_refl 2) rfl) hm ?_
   go_simp
   refine aO 4 (by kernel_rfl) rfl rfl ?_
   intro K hK
   go_wp2_with (go_at_call 28;refine (bG _).mono ?_;rintro e w' ⟨he,hb⟩;subst he;replace hm:=hm.call hb;clear hb)
   refine hK _ _ hm ?_
   clear hK K
   go_simp
   refine aG 5 (v:=.bool true) rfl (by kernel_rfl) rfl (fun W _=>bN (HKS.out ()) PlOk.nil true (HRT.out ()) rfl rfl) hm ?_
   go_simp
   refine aT 6 (v:=.bool true) rfl (by kernel_rfl) rfl (fun W _=>by go_simp) hm ?_
   go_simp
   refine aT 7 (v:=.bool true) rfl (by kernel_rfl) rfl (fun W _=>by go_simp) hm ?_
   go_simp
   refine wpAnyH_done (by kernel_rfl) ?_ _
   simp only [endsIn]
   go_wp2_with fail
   go_ret2
   exact ⟨_,rfl,⟨none,0,rfl,fun h=>absurd h (by simp)⟩,HR.out.below hm.below,Upd.of_below hm.below⟩
  ·have HRT:Hid (∀_:Unit,false=decide (ks=[])):=fun _=>by rw [decide_eq_false hr]
   have HE1:Hid (∀_:Unit,e0=if b1=false then 100 else 0):=fun _=>by rw [HE0.out (),if_neg (by simp),if_neg hr]
   clear HE0 hr
   cases b1 with
   | false =>
    have e1:e0=100:=by rw [HE1.out ()];rfl
    subst e1
    rw [if_neg (by omega),HRN.out 100 (by omega)]
    clear HE1
    go_enter Tryz.func43,Tryz.ntmps43
    go_wp2_with (first
     | (go_at_call 34;refine (HPL.out _ (HM.out.below hm.below)).mono ?_;rintro e w' ⟨he,hb⟩;subst he;replace hm:=hm.call hb;clear hb)
     | ((with_reducible refine ab (some 6) (.alloc 63) ?_);refine ae _ aL hm ?_;clear hm;intro w1 g6 hm)
     | ((with_reducible refine ab none (.store 63 (.tmp 6) (.tmp 14)) ?_);refine af 0 (pvv ks) hm rfl rfl rfl 2 au rfl rfl (aI _) ?_;clear hm;intro w2 hm))
    refine am ?_
    refine ag (T:=fun W=>Mem w [] W [(g6,pvv ks,63)]) (by kernel_rfl) hm ?_
    intro wc hbw hmw
    clear hm
    have hm:=hmw
    clear hbw hmw
    refine aT 0 (v:=.bool true) rfl (by kernel_rfl) rfl (fun W _=>by go_simp) hm ?_
    go_simp
    refine aT 1 (v:=.bool false) rfl (by kernel_rfl) rfl (fun W _=>by go_simp) hm ?_
    go_simp
    refine aT 2 (v:=.bool false) rfl (by kernel_rfl) rfl (fun W _=>by go_simp) hm ?_
    go_simp
    refine aG 3 (v:=.agg (pvv ks).toArray) rfl (by kernel_rfl) rfl (fun W hW=>al 0 (pvv ks) (Mem.get hW 0 rfl) rfl _ aH rfl 2 au (Nat.le_refl 2) rfl) hm ?_
    go_simp
    refine aO 4 (by kernel_rfl) rfl rfl ?_
    intro K hK
    go_wp2_with (go_at_call 28;refine (bG _).mono ?_;rintro e w' ⟨he,hb⟩;subst he;replace hm:=hm.call hb;clear hb)
    refine hK _ _ hm ?_
    clear hK K
    go_simp
    refine aG 5 (v:=.bool false) rfl (by kernel_rfl) rfl (fun W _=>bN (HKS.out ()) PlOk.nil false (HRT.out ()) rfl rfl) hm ?_
    go_simp
    refine aT 6 (v:=.bool false) rfl (by kernel_rfl) rfl (fun W _=>by go_simp) hm ?_
    go_simp
    refine aT 7 (v:=.bool false) rfl (by kernel_rfl) rfl (fun W _=>by go_simp) hm ?_
    go_simp
    refine wpAnyH_done (by kernel_rfl) ?_ _
    simp only [endsIn]
    go_wp2_with (first
     | ((with_reducible refine ab (some 26) (.load 63 (.tmp 6)) ?_);refine av 0 hm rfl rfl _ aH rfl 2 au (by rfl) ?_)
     | (go_at_call 36;refine (HH1.out _ hm.below).mono ?_;rintro e_ w' ⟨he_,hb_⟩;subst he_;replace hm:=hm.call hb_;clear hb_))
    go_ret2
    exact ⟨_,rfl,⟨none,0,rfl,fun h=>absurd h (by simp)⟩,HR.out.below hm.below,Upd.of_below hm.below⟩
   | true =>
    have e1:e0=0:=by rw [HE1.out ()];rfl
    subst e1
    rw [if_pos rfl,HRL.out ()]
    obtain ⟨T,hT⟩:∃T,T=U.map (fun x:Sp=>tx x.1):=⟨_,rfl⟩
    have HT:Hid (∀_:Unit,T=U.map (fun x:Sp=>tx x.1)):=fun _=>hT
    rw [←hT]
    clear hT
    have tk1:Nat:=0
    clear HE1
    go_enter Tryz.func43,Tryz.ntmps43
    go_wp2_with (first
     | (go_at_call 34;refine (HPL.out _ (HM.out.below hm.below)).mono ?_;rintro e w' ⟨he,hb⟩;subst he;replace hm:=hm.call hb;clear hb)
     | ((with_reducible refine ab (some 6) (.alloc 63) ?_);refine ae _ aL hm ?_;clear hm;intro w1 g6 hm)
     | ((with_reducible refine ab none (.store 63 (.tmp 6) (.tmp 14)) ?_);refine af 0 (pvv ks) hm rfl rfl rfl 2 au rfl rfl (aI _) ?_;clear hm;intro w2 hm))
    refine am ?_
    refine ag (T:=fun W=>Mem w [] W [(g6,pvv ks,63)]) (by kernel_rfl) hm ?_
    intro wc hbw hmw
    clear hm
    have hm:=hmw
    clear hbw hmw
    refine aT 0 (v:=.bool true) rfl (by kernel_rfl) rfl (fun W _=>by go_simp) hm ?_
    go_simp
    refine aT 1 (v:=.bool false) rfl (by kernel_rfl) rfl (fun W _=>by go_simp) hm ?_
    go_simp
    refine aT 2 (v:=.bool false) rfl (by kernel_rfl) rfl (fun W _=>by go_simp) hm ?_
    go_simp
    refine aG 3 (v:=.agg (pvv ks).toArray) rfl (by kernel_rfl) rfl (fun W hW=>al 0 (pvv ks) (Mem.get hW 0 rfl) rfl _ aH rfl 2 au (Nat.le_refl 2) rfl) hm ?_
    go_simp
    refine aO 4 (by kernel_rfl) rfl rfl ?_
    intro K hK
    go_wp2_with (go_at_call 28;refine (bG _).mono ?_;rintro e w' ⟨he,hb⟩;subst he;replace hm:=hm.call hb;clear hb)
    refine hK _ _ hm ?_
    clear hK K
    go_simp
    refine aG 5 (v:=.bool false) rfl (by kernel_rfl) rfl (fun W _=>bN (HKS.out ()) PlOk.nil false (HRT.out ()) rfl rfl) hm ?_
    go_simp
    refine aT 6 (v:=.bool false) rfl (by kernel_rfl) rfl (fun W _=>by go_simp) hm ?_
    go_simp
    refine aT 7 (v:=.bool false) rfl (by kernel_rfl) rfl (fun W _=>by go_simp) hm ?_
    go_simp
    refine wpAnyH_done (by kernel_rfl) ?_ _
    simp only [endsIn]
    go_wp2_with (first
     | (clear tk1;go_at_call 36;refine (HH1.out _ hm.below).mono ?_;rintro e_ w' ⟨he_,hb_⟩;subst he_;replace hm:=hm.call hb_;clear hb_)
     | ((with_reducible refine ab (some 26) (.load 63 (.tmp 6)) ?_);refine av 0 hm rfl rfl _ aH rfl 2 au (by rfl) ?_)
     | ((with_reducible refine ab (some 30) (.load 63 (.tmp 6)) ?_);refine av 0 hm rfl rfl _ aH rfl 2 au (by rfl) ?_)
     | (go_at_call 46;refine (HU.out _ hm.below).mono ?_;rintro e w2 ⟨p0,cap,he,hcc2,hb⟩;subst he;have HC2:Hid (0<N→∃b,p0=some ⟨b,0,none⟩∧b<w2.heap.size∧∀i x,U[i]?=some x→∀j u,(pvv x.1)[j]?=some u→w2.cell? ⟨b,i * 2+j,none⟩=some u):=hcc2;clear hcc2;replace hm:=hm.call hb;clear hb))
    have HB2:Hid (Below w.heap.size w w2):=hm.below
    have hz2:=hm.size
    have HR2:Hid (NmAt w2 nb m c p):=HR.out.below HB2.out
    have hml:m<w2.heap.size:=HR2.out.lt
    obtain ⟨q,hq,hkm⟩:=HR2.out.map
    have HM2:Hid (MaxL w2):=HM.out.below HB2.out
    obtain ⟨es,cl,hes⟩:=hkm.isMap
    have hnm:nb≠m:=aB HR2.out.row hes
    have hm0:m≠0:=by
     rintro rfl
     obtain ⟨z,hz⟩:=HM2.out
     rw [fl hes] at hz;cases hz
    have HBM:Hid (∀b n v,w2.cell? ⟨b,n,none⟩=some v→b≠m):=by
     rintro b n v hv rfl
     rw [fl hes] at hv;cases hv
    have HM0:Hid (Mem w2 [m] w2 []):=(Mem.start w2).weak
    have HO0:Hid (w2.ownsRow w2.heap.size 9 1 (.slice none 0 0) 0 (strs (T.take 0))):=⟨rfl,Or.inl ⟨rfl,rfl⟩⟩
    have HK0:Hid (KM Tryz.prog 63 w2 m q (NmK (lessN p U 0))):=by rw [less_zero];exact hkm
    clear hm HU hkm hes
    go_loopw [33,8] (fun vi va wr=>∃k:Nat,k≤N∧vi=.int .i64 (k:Int)∧∃vb,vb=va∧Hid (Mem w2 [m] wr [])∧Hid (wr.ownsRow w2.heap.size 9 1 vb k (strs (T.take k)))∧Hid (KM Tryz.prog 63 wr m q (NmK (lessN p U k)))) (fun vi _ _=>match vi with | .int _ k=>N - k.toNat|_=>0)
    case atStart=>exact ⟨0,by omega,rfl,_,rfl,HM0,HO0,HK0⟩
    case round =>
     obtain ⟨k,hk,rfl,va,rfl,HMM,HOW,HKW⟩:=hrel
     by_cases hlt:k<N
     ·have hki:(k:Int)<(N:Int):=by omega
      have hw:IntKind.i64.wrap ((k:Int)+1)=(k:Int)+1:=bO _ (by omega) (by omega)
      have hk9:k≤100000:=by omega
      have hkp:k<U.length:=by rw [←HNU.out ()];exact hlt
      obtain ⟨x,hx⟩:∃x,x=U[k]:=⟨_,rfl⟩
      have HPK:Hid (∀_:Unit,U[k]?=some x):=fun _=>by rw [hx];simp [hkp]
      obtain ⟨k1,hk1⟩:∃ks,ks=x.1:=⟨_,rfl⟩
      have hxp:x∈p:=by
       have h1:x∈U:=by rw [hx];exact List.getElem_mem hkp
       rw [HUU.out ()] at h1
       exact (List.mem_filter.1 h1).1
      have HXP:Hid (∀_:Unit,x∈p∧k1=x.1):=fun _=>⟨hxp,hk1⟩
      have HK1:Hid (∀_:Unit,PlOk k1):=fun _=>by rw [hk1];exact HOK.out.ok x hxp
      obtain ⟨y1,hy1⟩:∃y,y=tx k1:=⟨_,rfl⟩
      have HY1:Hid (∀_:Unit,Value.string (tx k1)=.string y1):=fun _=>by rw [hy1]
      have HTK:Hid (∀_:Unit,T.take (k+1)=T.take k++[y1]):=fun _=>by
       rw [List.take_add_one,HT.out (),List.getElem?_map,HPK.out (),hy1,hk1];rfl
      obtain ⟨b,hb0,hb1,hb2⟩:=HC2.out (by omega)
      subst hb0
      have hbm:b≠m:=HBM.out b (k * 2+0) _ (hb2 k x (HPK.out ()) 0 _ rfl)
      have HC:Hid (∀j u,(pvv k1)[j]?=some u→wr.cell? ⟨b,k * 2+j,none⟩=some u):=fun j u hu=>by
       rw [HMM.out.old (p:=⟨b,k * 2+j,none⟩) hb1 (by simpa using hbm)]
       rw [hk1] at hu
       exact hb2 k x (HPK.out ()) j u hu
      have HMR:Hid (MaxL wr):=HM2.out.at0 (HMM.out.block 0 HM2.out.lt0 (by simpa using fun e:0=m=>hm0 e.symm))
      have HRN2:Hid (Row wr nb [.map (some m)] 69):=HMM.out.toUpd.row HR2.out.row hnm
      have hm:=Mem.start wr
      clear hx hk1 hxp hb1 hb2 hbm hy1
      go_wp2_with (first
       | ((with_reducible refine ab (some 35) (.indexAddr 87 (.tmp 31) (.tmp 33)) ?_);go_must (refine aa (.pointer (some ⟨b,k * 2,none⟩)) rfl (ap 2 k un_nps au rfl rfl rfl hlt) ?_))
       | ((with_reducible refine ab (some 36) (.load 63 (.tmp 35)) ?_);go_must (refine aa (.agg (pvv k1).toArray) rfl (aA (k * 2) 2 (pvv k1) _ rfl HC.out aH rfl au rfl) ?_))
       | ((with_reducible refine ab (some 10) (.alloc 63) ?_);refine ae _ aL hm ?_;clear hm;intro w3 g10 hm)
       | ((with_reducible refine ab none (.store 63 (.tmp 10) (.tmp 36)) ?_);refine af 0 (pvv k1) hm rfl rfl rfl 2 au rfl rfl (aI _) ?_;clear hm;intro w4 hm)
       | ((with_reducible refine ab (some 38) (.load 63 (.tmp 10)) ?_);refine av 0 hm rfl rfl _ aH rfl 2 au (by rfl) ?_)
       | (go_at_call 35;refine (bY (HK1.out ()) _ (HMR.out.below hm.below)).mono ?_;rintro e w' ⟨he,hb⟩;subst he;replace hm:=hm.call hb;clear hb)
       | ((with_reducible refine ab (some 40) (.buildSlice 37 1 #[(0,.tmp 39)]) ?_);go_must (refine bK rfl (.string noStr) (.string y1) aW bL rfl (HY1.out ()) rfl hm ?_);clear hm;intro w6 g8 hb6 hm;clear hb6)
       | ((with_reducible refine ab (some 41) (.call {callee:=.builtin .append,args:=#[.tmp 37,.tmp 40],argTypes:=#[37,37]}) ?_);go_must (refine bg (.string noStr) 1 16 rfl aW bD rfl (by omega) (by omega) (aq HOW.out hm.below) (Nat.le_trans HMM.out.size hm.size) rfl rfl (hm.get 0 rfl) rfl (cP y1) hk9 ?_);intro v9 w9 ho9 hg9 hl9;have H9:Hid (w9.ownsRow w2.heap.size 9 1 v9 (k+1) (strs (T.take k)++[.string y1])):=ho9;have HG9:Hid (World.grownBy _ w9 (Value.ownBlock va)):=hg9;have HB9:Hid (Below wr.heap.size wr _):=hm.below;replace hm:=(Mem.link HMM.out hm.tail).grownT hg9 (aq HOW.out HB9.out) (np_ne_str _ _) (Nat.le_refl _);clear ho9 hg9 hl9))
      have HK9:Hid (KM Tryz.prog 63 w9 m q (NmK (lessN p U k))):=(HKW.out.below HB9.out).keep (HG9.out.block m (by have:=HMM.out.size;have:=HB9.out.size;omega) (fun e=>by have:=(World.ownsRow.lt (aq HOW.out HB9.out) m e.symm).1;omega))
      have HRN9:Hid (Row w9 nb [.map (some m)] 69):=hm.toUpd.row HR2.out.row hnm
      refine am ?_
      refine ag (T:=fun W=>Row W nb [.map (some m)] 69∧Row W g10 (pvv k1) 63) (by kernel_rfl) hm ?_
      intro wc hbw hmw
      clear hm
      have hm:=hmw
      have HTT:Hid (Row wc nb [.map (some m)] 69∧Row wc g10 (pvv k1) 63):=⟨Row.bel HRN9.out hbw,hm.get 0 rfl⟩
      replace HK9:Hid (KM Tryz.prog 63 wc m q (NmK (lessN p U k))):=HK9.out.below hbw
      replace H9:Hid (wc.ownsRow w2.heap.size 9 1 v9 (k+1) (strs (T.take k)++[.string y1])):=aq H9.out hbw
      obtain ⟨es9,c9,hmap9⟩:=HK9.out.isMap
      have hne1:nb≠m:=aB HTT.out.1 hmap9
      have hne2:g10≠m:=aB HTT.out.2 hmap9
      have HMP9:Hid (wc.heap[m]?=some (.map es9 c9)):=hmap9
      obtain ⟨kl9,hkl9⟩:=dF (HK1.out ())
      have HKL9:Hid (keyOf Tryz.prog 63 (.agg (pvv k1).toArray)=some kl9):=hkl9
      clear hmw hbw hmap9 hkl9
      refine aT 0 (v:=.pointer (some ⟨nb,0,none⟩)) rfl (by kernel_rfl) rfl (fun W _=>by go_simp) HTT.out ?_
      go_simp
      refine aT 1 (v:=.pointer (some ⟨nb,0,none⟩)) rfl (by kernel_rfl) rfl (fun W _=>by go_simp) HTT.out ?_
      go_simp
      refine aT 2 (v:=.pointer (some ⟨nb,0,none⟩)) rfl (by kernel_rfl) rfl (fun W _=>by go_simp) HTT.out ?_
      go_simp
      refine aT 3 (v:=.map (some m)) rfl (by kernel_rfl) rfl (fun W hW=>ad 0 (.map (some m)) hW.1 rfl cE rfl) HTT.out ?_
      go_simp
      refine aT 4 (v:=.agg (pvv k1).toArray) rfl (by kernel_rfl) rfl (fun W hW=>al 0 (pvv k1) hW.2 rfl _ aH rfl 2 au (Nat.le_refl 2) rfl) HTT.out ?_
      go_simp
      refine aO 5 (by kernel_rfl) rfl rfl ?_
      intro K hK
      refine wpl_kmDel HK9.out aQ bW HKL9.out rfl rfl ?_
      intro w10 km8 hu9
      have HKM8:Hid (KM Tryz.prog 63 w10 m q (delK (NmK (lessN p U k)) (.agg (pvv k1).toArray))):=km8
      have HU9:Hid (Upd m wc w10):=hu9
      have HT9:Hid (Row w10 nb [.map (some m)] 69∧Row w10 g10 (pvv k1) 63):=⟨hu9.row HTT.out.1 hne1,hu9.row HTT.out.2 hne2⟩
      clear km8 hu9
      refine wpList_nil ?_
      refine hK _ _ HT9.out ?_
      clear hK K
      go_simp
      refine wpAnyH_done (by kernel_rfl) ?_ _
      simp only [endsIn]
      go_wp2_with fail
      go_roundw
      case rel =>
       refine ⟨k+1,by omega,by go_num,v9,rfl,(hm.tail.updO HMP9.out (Or.inl (by simp)) HU9.out),?_,?_⟩
       ·have h9:=own_upd H9.out HU9.out hml
        show World.ownsRow _ _ _ _ _ _ _
        rw [HTK.out ()]
        unfold strs at h9 ⊢
        rw [List.map_append]
        exact h9
       ·have h9:=HKM8.out
        rw [(HXP.out ()).2] at h9
        exact h9.same (nmK_less HOK.out (HPK.out ()) (HXP.out ()).1)
      case measure=>show N - ((k:Int)+1).toNat<N - (k:Int).toNat;omega
     ·have hin:k=N:=by omega
      have hki:¬(k:Int)<(N:Int):=by omega
      have HTE:Hid (∀_:Unit,T.take k=T):=fun _=>List.take_of_length_le (by rw [HT.out (),List.length_map,hin,HNU.out ()];exact Nat.le_refl _)
      have HTL:Hid (∀_:Unit,k=T.length):=fun _=>by rw [HT.out (),List.length_map,hin,HNU.out ()]
      have HKE:Hid (∀_:Unit,lessN p U k=delN p ks):=fun _=>by
       rw [HUU.out ()]
       exact less_all ks (by rw [←HUU.out (),←HNU.out (),hin];exact Nat.le_refl _)
      go_wp2_with fail
      go_ret2
      refine ⟨va,rfl,?_,⟨HMM.out.toUpd.row HR2.out.row hnm,⟨q,hq,by rw [←HKE.out ()];exact HKW.out⟩,HOK.out.del ks⟩,(Upd.of_below (HB2.out.mono (Nat.le_refl _))).trans HMM.out.toUpd⟩
      have h9:=HOW.out
      rw [HTE.out ()] at h9
      exact (dG h9 (HTL.out ())).lower hz2
open Go Go.RowKit Go.Maps
theorem add_k {w:World} {nb m c:Nat} {p:Nms} (h:NmAt w nb m c p) (hcc:c≤80000) (s:ByteArray) (hs:s.size≤1000) (hM:MaxL w) (b e e0:Int) (p':Nms) (he:addE p s b e=e0) (hp:(if e0=0 then addN p (segsB s,b,e,0,0,0,0) else p)=p') :
  Calls Tryz.prog 15 #[.pointer (some ⟨nb,0,none⟩),.string s,.int .i64 b,.int .i64 e] w fun e_ w'=>e_=.returned (.int .i64 e0)∧NmAt w' nb m (c+1) p'∧Upd m w w':=by
 rw [←hp]
 exact add_n h hcc s hs hM b e e0 he.symm
theorem get_k {w:World} {nb m c:Nat} {p:Nms} (h:NmAt w nb m c p) (s:ByteArray) (hs:s.size≤1000) (hM:MaxL w) (V:List Value) (b:Bool) (hV:getV p s=V) (hb:getB p s=b) :
  Calls Tryz.prog 26 #[.pointer (some ⟨nb,0,none⟩),.string s] w fun e w'=>e=.returned (.tuple #[.agg V.toArray,.bool b])∧Below w.heap.size w w':=by
 rw [←hV,←hb]
 exact get_n h s hs hM
theorem MaxL.upd0 {w w':World} {m:Nat} (h:MaxL w) (hm:0<m) (hu:Upd m w w'):MaxL w':=h.at0 (hu.block 0 h.lt0 (by omega))
theorem fk {p:Nms} (hp:NmOk p) {x:Sp} (hx:x∈p) {s:ByteArray} (hP:isP (bs s)=true) (hs:segsB s=x.1):getV p s=spv x∧getB p s=true:=by
 have h1:getB p s=true:=by unfold getB;rw [hP,Bool.true_and,hs];exact aE.2 ⟨x,hx,rfl⟩
 refine ⟨?_,h1⟩
 unfold getV
 unfold getB at h1
 rw [if_pos h1,hs,lookV_some (hp.get hx)]
theorem kids_new (a b:Int) (s:ByteArray):kidsN (newN a b) s=[]:=by simp [kidsN,newN]
open Go Go.RowKit Go.Maps
structure TrOk (p:Nms):Prop where
 ok:NmOk p
 root:∃x t,p=x::t∧x.1=[]
 par:∀x∈p,x.1≠[]→hasN p x.1.dropLast=true
 kids:∀s,(kidsN p s).length≤2
theorem TrOk.new (b e:Int):TrOk (newN b e) :=
 ⟨NmOk.new b e,⟨_,[],rfl,rfl⟩,fun x hx h0=>absurd (by rw [List.mem_singleton.1 hx]) h0,fun s=>by rw [kids_new];simp⟩
theorem dT (p:Nms) (x:Sp):(addN p x).Perm (x::p):=by
 unfold addN
 refine (List.perm_middle).trans (List.Perm.cons x ?_)
 exact List.filter_append_perm (fun y:Sp=>decide (cd y.1<cd x.1)) p
theorem kids_add (p:Nms) (x:Sp) (s:ByteArray):(kidsN (addN p x) s).length=(kidsN p s).length+if tx x.1.dropLast=s∧x.1≠[] then 1 else 0:=by
 unfold kidsN
 rw [List.length_map,List.length_map,((dT p x).filter _).length_eq,List.filter_cons]
 by_cases h:tx x.1.dropLast=s∧x.1≠[]
 ·rw [if_pos h,if_pos (by rw [decide_eq_true h.1,decide_eq_false h.2];rfl),List.length_cons]
 ·rw [if_neg h,if_neg (fun h2=>h (by
   rw [Bool.and_eq_true,decide_eq_true_eq,Bool.not_eq_true',decide_eq_false_iff_not] at h2
   exact h2))]
  rfl
theorem addE_ok {p:Nms} {s:ByteArray} {b e:Int} (h:addE p s b e=0):isP (bs s)=true∧segsB s≠[]∧limOk b e=true∧hasN p (segsB s)=false∧hasN p (segsB s).dropLast=true∧(kidsN p (tx (segsB s).dropLast)).length<2:=by
 unfold addE at h
 split at h
 ·omega
 ·next h1 =>
  split at h
  ·omega
  ·next h2 =>
   split at h
   ·omega
   ·next h3 =>
    split at h
    ·omega
    ·next h4 =>
     split at h
     ·omega
     ·next h5 =>
      split at h
      ·omega
      ·next h6=>exact ⟨by simpa using h1,h2,by simpa using h3,by simpa using h4,by simpa using h5,by omega⟩
theorem cd_nil:cd []=[]:=rfl
theorem cd_pos {ks:List ByteArray} (h0:ks≠[]):cd []<cd ks:=by
 rw [cd_nil,cd_last h0]
 cases hc:codeOf (ks.dropLast.map bs)++(bs (lastS ks)++[0]) with
 | nil=>exact absurd hc (by simp)
 | cons a l=>exact List.nil_lt_cons a l
theorem TrOk.add {p:Nms} (h:TrOk p) {s:ByteArray} {b e:Int} (he:addE p s b e=0):TrOk (addN p (segsB s,b,e,0,0,0,0)):=by
 obtain ⟨h1,h2,h3,h4,h5,h6⟩:=addE_ok he
 have hmono:∀ks,hasN p ks=true→hasN (addN p (segsB s,b,e,0,0,0,0)) ks=true:=fun ks hk=>by
  obtain ⟨y,hy,e⟩:=aE.1 hk
  exact aE.2 ⟨y,cD.2 (Or.inr hy),e⟩
 refine ⟨h.ok.add (x:=(segsB s,b,e,0,0,0,0)) (aR s) h4,?_,fun x hx h0=>?_,fun q=>?_⟩
 ·obtain ⟨r,t,hp,hr⟩:=h.root
  unfold addN
  rw [hp,List.filter_cons,if_pos (by rw [hr];exact decide_eq_true (cd_pos h2))]
  exact ⟨r,_,rfl,hr⟩
 ·rcases cD.1 hx with rfl|hx
  ·exact hmono _ h5
  ·exact hmono _ (h.par x hx h0)
 ·rw [kids_add]
  have:=h.kids q
  by_cases hq:tx (segsB s).dropLast=q∧segsB s≠[]
  ·rw [if_pos hq]
   rw [hq.1] at h6
   omega
  ·rw [if_neg hq]
   omega
theorem remE_ok {p:Nms} {s:ByteArray} (h:remE p s=0):isP (bs s)=true∧segsB s≠[]∧hasN p (segsB s)=true:=by
 unfold remE at h
 split at h
 ·omega
 ·next h1 =>
  split at h
  ·omega
  ·next h2 =>
   split at h
   ·omega
   ·next h3=>exact ⟨by simpa using h1,h2,by simpa using h3⟩
theorem TrOk.del {p:Nms} (h:TrOk p) {ks:List ByteArray} (h0:ks≠[]):TrOk (delN p ks):=by
 refine ⟨h.ok.del ks,?_,fun x hx hx0=>?_,fun s=>?_⟩
 ·obtain ⟨r,t,hp,hr⟩:=h.root
  unfold delN
  rw [hp,List.filter_cons,if_pos (by
   rw [Bool.not_eq_true',hr]
   cases hu:undB [] ks with
   | false=>rfl
   | true =>
    have:=aY.1 hu
    exact absurd (List.prefix_nil.1 this) h0)]
  exact ⟨r,_,rfl,hr⟩
 ·obtain ⟨x1,x2⟩:=List.mem_filter.1 hx
  obtain ⟨y,hy,e⟩:=aE.1 (h.par x x1 hx0)
  refine aE.2 ⟨y,List.mem_filter.2 ⟨hy,?_⟩,e⟩
  rw [Bool.not_eq_true'] at x2 ⊢
  cases hu:undB y.1 ks with
  | false=>rfl
  | true =>
   rw [e] at hu
   have h1:=aY.1 hu
   have h2:undB x.1 ks=true:=aY.2 (h1.trans (List.dropLast_prefix x.1))
   rw [h2] at x2;cases x2
 ·refine Nat.le_trans ?_ (h.kids s)
  unfold kidsN delN
  rw [List.length_map,List.length_map]
  exact (List.Sublist.filter _ List.filter_sublist).length_le
theorem TrOk.delIf {p:Nms} (h:TrOk p) (s:ByteArray):TrOk (if remE p s=0 then delN p (segsB s) else p):=by
 split
 ·next he=>exact h.del (remE_ok he).2.1
 ·exact h
theorem add_len (p:Nms) (x:Sp):(addN p x).length=p.length+1:=by rw [(dT p x).length_eq,List.length_cons]
theorem addIf_len (p:Nms) (s:ByteArray) (b e:Int):(if addE p s b e=0 then addN p (segsB s,b,e,0,0,0,0) else p).length≤p.length+1:=by
 split
 ·exact Nat.le_of_eq (add_len p _)
 ·omega
theorem TrOk.at {p:Nms} (h:TrOk p) {k:Nat} {x:Sp} (hx:p[k+1]?=some x):x.1≠[]:=by
 obtain ⟨r,t,hp,hr⟩:=h.root
 have hs:=h.ok.srt
 rw [hp] at hs hx
 rw [List.getElem?_cons_succ] at hx
 have:=(List.pairwise_cons.1 hs).1 x (List.mem_of_getElem? hx)
 intro e
 rw [hr,e] at this
 exact List.lt_irrefl _ this
theorem TrOk.next {p:Nms} (h:TrOk p) {k:Nat} {x y:Sp} (hx:p[k]?=some x) (hy:p[k+1]?=some y):cd x.1<cd y.1:=by
 have hk:k+1<p.length:=(List.getElem?_eq_some_iff.1 hy).1
 have h1:=List.pairwise_iff_getElem.1 h.ok.srt k (k+1) (by omega) hk (by omega)
 have e1:p[k]=x:=(List.getElem?_eq_some_iff.1 hx).2
 have e2:p[k+1]=y:=(List.getElem?_eq_some_iff.1 hy).2
 rwa [e1,e2] at h1
theorem TrOk.pos {p:Nms} (h:TrOk p):0<p.length:=by
 obtain ⟨r,t,hp,_⟩:=h.root
 rw [hp];simp
theorem par_tx {ks:List ByteArray} (h:PlOk ks) (h0:ks≠[]):parOk (bs (tx ks))=true∧mkS (parOf (bs (tx ks)))=tx ks.dropLast:=by
 have hs:segsOf (bs (tx ks))=ks.map bs:=by rw [bs_tx,(em h.to).2]
 obtain ⟨h1,h2⟩:=cm (dH h) (by rw [hs];simpa using h0)
 refine ⟨h1,?_⟩
 rw [h2,hs,←List.map_dropLast]
 rfl
open Go Go.RowKit
def sumI (f:Sp→Int):Nms→Int
 | []=>0
 | x::p=>f x+sumI f p
theorem ev (f:Sp→Int) (p q:Nms):sumI f (p++q)=sumI f p+sumI f q:=by
 induction p with
 | nil=>simp [sumI]
 | cons x p ih=>rw [List.cons_append,sumI,sumI,ih];omega
theorem aZ {f g:Sp→Int} {p:Nms} (h:∀x∈p,f x=g x):sumI f p=sumI g p:=by
 induction p with
 | nil=>rfl
 | cons x p ih=>rw [sumI,sumI,h x (List.mem_cons_self ..),ih fun y hy=>h y (List.mem_cons_of_mem _ hy)]
theorem bw {f:Sp→Int} {p:Nms} (h:∀x∈p,f x=0):sumI f p=0:=by
 induction p with
 | nil=>rfl
 | cons x p ih=>rw [sumI,h x (List.mem_cons_self ..),ih fun y hy=>h y (List.mem_cons_of_mem _ hy)];rfl
theorem dN (f g:Sp→Int) (p:Nms):sumI (fun x=>f x+g x) p=sumI f p+sumI g p:=by
 induction p with
 | nil=>rfl
 | cons x p ih=>rw [sumI,sumI,sumI,ih];omega
theorem sumI_comm (g:Sp→Sp→Int) (p q:Nms):sumI (fun y=>sumI (fun z=>g y z) p) q=sumI (fun z=>sumI (fun y=>g y z) q) p:=by
 induction q with
 | nil=>exact (bw fun _ _=>rfl).symm
 | cons x q ih =>
  rw [sumI,ih,←dN]
  rfl
theorem sumI_perm {f:Sp→Int} {p q:Nms} (h:p.Perm q):sumI f p=sumI f q:=by
 induction h with
 | nil=>rfl
 | cons x _ ih=>rw [sumI,sumI,ih]
 | swap x y l=>rw [sumI,sumI,sumI,sumI];omega
 | trans _ _ h1 h2=>exact h1.trans h2
theorem dM {f:Sp→Int} {p:Nms} (hn:p.Pairwise fun x y=>x.1≠y.1) {x:Sp} (hx:x∈p) (h:∀y∈p,y.1≠x.1→f y=0):sumI f p=f x:=by
 induction p with
 | nil=>cases hx
 | cons a p ih =>
  obtain ⟨h1,h2⟩:=List.pairwise_cons.1 hn
  rw [sumI]
  rcases List.mem_cons.1 hx with rfl|hx
  ·rw [bw fun y hy=>h y (List.mem_cons_of_mem _ hy) (fun e=>h1 y hy e.symm)];omega
  ·rw [h a (List.mem_cons_self ..) (h1 x hx),ih h2 hx fun y hy=>h y (List.mem_cons_of_mem _ hy)];omega
theorem et (f:Sp→Int) (t:Sp→Bool) (p:Nms):sumI f p=sumI f (p.filter t)+sumI f (p.filter fun x => !t x):=by
 induction p with
 | nil=>rfl
 | cons x p ih =>
  cases ht:t x with
  | true=>rw [List.filter_cons_of_pos ht,List.filter_cons_of_neg (by simp [ht]),sumI,sumI,ih];omega
  | false=>rw [List.filter_cons_of_neg (by simp [ht]),List.filter_cons_of_pos (by simp [ht]),sumI,sumI,ih];omega
theorem sumI_map (f:Sp→Int) (t:Sp→Sp) (p:Nms):sumI f (p.map t)=sumI (fun x=>f (t x)) p:=by
 induction p with
 | nil=>rfl
 | cons x p ih=>rw [List.map_cons,sumI,sumI,ih]
theorem NmOk.keys {p:Nms} (h:NmOk p):p.Pairwise fun x y=>x.1≠y.1 :=
 h.srt.imp fun {x y} hlt e=>by rw [e] at hlt;exact List.lt_irrefl _ hlt
theorem anc {p:Nms} (hpar:∀x∈p,x.1≠[]→hasN p x.1.dropLast=true):∀(n:Nat) {z:Sp},z.1.length=n→z∈p→∀ {ks:List ByteArray},ks <+: z.1→hasN p ks=true:=by
 intro n
 induction n with
 | zero =>
  intro z hl hz ks hk
  have h0:z.1=[]:=List.length_eq_zero_iff.1 hl
  rw [h0] at hk
  have:ks=[]:=List.prefix_nil.1 hk
  exact aE.2 ⟨z,hz,by rw [h0,this]⟩
 | succ n ih =>
  intro z hl hz ks hk
  by_cases he:ks=z.1
  ·exact aE.2 ⟨z,hz,he.symm⟩
  ·have hne:z.1≠[]:=fun e=>by rw [e] at hl;cases hl
   obtain ⟨y,hy,e⟩:=aE.1 (hpar z hz hne)
   refine ih (by rw [e,List.length_dropLast,hl];rfl) hy ?_
   rw [e]
   have h1:=List.prefix_iff_eq_take.1 hk
   have h2:ks.length≠z.1.length:=fun e2=>he (by rw [h1,e2,List.take_length])
   have h3:=hk.length_le
   rw [h1,List.dropLast_eq_take]
   exact List.take_prefix_take_left (by omega)
def unS (o:List ByteArray→Int) (p:Nms) (ks:List ByteArray):Int:=sumI (fun z=>if undB z.1 ks=true then o z.1 else 0) p
def isKid (y:Sp) (ks:List ByteArray):Bool := !decide (y.1=[])&&decide (y.1.dropLast=ks)
theorem d7 {y:Sp} {ks:List ByteArray}:isKid y ks=true↔y.1≠[]∧y.1.dropLast=ks:=by
 unfold isKid
 simp
theorem unS_inner (o:List ByteArray→Int) {p:Nms} (hn:p.Pairwise fun x y=>x.1≠y.1) (hpar:∀x∈p,x.1≠[]→hasN p x.1.dropLast=true) (ks:List ByteArray) {z:Sp} (hz:z∈p) :
  sumI (fun y=>if isKid y ks=true∧undB z.1 y.1=true then o z.1 else 0) p=if undB z.1 ks=true∧z.1≠ks then o z.1 else 0:=by
 by_cases h:undB z.1 ks=true∧z.1≠ks
 ·rw [if_pos h]
  have hk:=aY.1 h.1
  have e1:=List.prefix_iff_eq_take.1 hk
  have hlt:ks.length<z.1.length:=by
   have:=hk.length_le
   rcases Nat.lt_or_ge ks.length z.1.length with h2|h2
   ·exact h2
   ·exact absurd (hk.eq_of_length (by omega)).symm h.2
  obtain ⟨y0,hy0,e0⟩:=aE.1 (anc hpar _ rfl hz (List.take_prefix (ks.length+1) z.1))
  have hyd:y0.1.dropLast=ks:=by
   rw [e0,List.dropLast_eq_take,List.length_take,List.take_take,show min (min (ks.length+1) z.1.length - 1) (ks.length+1)=ks.length by omega,←e1]
  have hy1:y0.1≠[]:=fun e=>by
   rw [e] at e0
   have:=congrArg List.length e0
   rw [List.length_take] at this
   simp at this
   omega
  rw [dM hn hy0 fun y hy hne=>?_]
  ·rw [if_pos ⟨d7.2 ⟨hy1,hyd⟩,aY.2 (by rw [e0];exact List.take_prefix _ _)⟩]
  ·refine if_neg fun hc=>hne ?_
   obtain ⟨k1,k2⟩:=d7.1 hc.1
   have e2:=List.prefix_iff_eq_take.1 (aY.1 hc.2)
   have hl:y.1.length=ks.length+1:=by
    have h3:=congrArg List.length k2
    rw [List.length_dropLast] at h3
    have:=List.length_pos_iff.2 k1
    omega
   rw [e2,hl,e0]
 ·rw [if_neg h]
  refine bw fun y _=>if_neg fun hc=>h ?_
  obtain ⟨k1,k2⟩:=d7.1 hc.1
  have e2:=aY.1 hc.2
  have e3:ks <+: y.1:=by rw [←k2];exact List.dropLast_prefix _
  refine ⟨aY.2 (e3.trans e2),fun e4=>?_⟩
  have h3:=congrArg List.length k2
  rw [List.length_dropLast] at h3
  have:=List.length_pos_iff.2 k1
  have h5:=e2.length_le
  rw [e4] at h5
  omega
/-- What a namespace and all under it have is what it has of its own and what its kids have. -/
theorem unS_split (o:List ByteArray→Int) {p:Nms} (hn:p.Pairwise fun x y=>x.1≠y.1) (hpar:∀x∈p,x.1≠[]→hasN p x.1.dropLast=true) {x:Sp} (hx:x∈p) :
  unS o p x.1=o x.1+sumI (fun y=>if isKid y x.1=true then unS o p y.1 else 0) p:=by
 have h1:sumI (fun y=>if isKid y x.1=true then unS o p y.1 else 0) p=sumI (fun z=>if undB z.1 x.1=true∧z.1≠x.1 then o z.1 else 0) p:=by
  have e1:sumI (fun y=>if isKid y x.1=true then unS o p y.1 else 0) p=sumI (fun y=>sumI (fun z=>if isKid y x.1=true∧undB z.1 y.1=true then o z.1 else 0) p) p:=by
   refine aZ fun y _=>?_
   by_cases hk:isKid y x.1=true
   ·rw [if_pos hk]
    unfold unS
    exact aZ fun z _=>by simp [hk]
   ·rw [if_neg hk]
    exact (bw fun z _=>by simp [hk]).symm
  rw [e1,sumI_comm]
  exact aZ fun z hz=>unS_inner o hn hpar x.1 hz
 have h2:o x.1=sumI (fun z=>if z.1=x.1 then o z.1 else 0) p:=by
  rw [dM hn hx fun y _ hne=>if_neg hne,if_pos rfl]
 rw [h1,h2,←dN]
 unfold unS
 refine aZ fun z _=>?_
 by_cases hz:z.1=x.1
 ·rw [hz,if_pos (aY.2 (List.prefix_refl _)),if_pos rfl,if_neg (fun h=>h.2 rfl)];omega
 ·rw [if_neg hz]
  by_cases hu:undB z.1 x.1=true
  ·rw [if_pos hu,if_pos ⟨hu,hz⟩];omega
  ·rw [if_neg hu,if_neg (fun h=>hu h.1)];rfl
def upO (o:List ByteArray→Int) (ks:List ByteArray) (b:Int):List ByteArray→Int:=fun k=>if k=ks then o k+b else o k
theorem eQ (o:List ByteArray→Int) {p:Nms} (hn:p.Pairwise fun x y=>x.1≠y.1) {x:Sp} (hx:x∈p) (b:Int) (ks:List ByteArray):unS (upO o x.1 b) p ks=unS o p ks+if undB x.1 ks=true then b else 0:=by
 have h2:(if undB x.1 ks=true then b else 0)=sumI (fun z=>if z.1=x.1 then (if undB x.1 ks=true then b else 0) else 0) p:=by
  rw [dM hn hx fun y _ hne=>if_neg hne,if_pos rfl]
 rw [h2]
 unfold unS
 rw [←dN]
 refine aZ fun z _=>?_
 unfold upO
 by_cases hz:z.1=x.1
 ·rw [hz,if_pos rfl,if_pos rfl]
  by_cases hu:undB x.1 ks=true
  ·rw [if_pos hu,if_pos hu,if_pos hu]
  ·rw [if_neg hu,if_neg hu,if_neg hu];rfl
 ·rw [if_neg hz,if_neg hz];omega
theorem unS_add (o:List ByteArray→Int) (p:Nms) (x:Sp) (h0:o x.1=0) (ks:List ByteArray):unS o (addN p x) ks=unS o p ks:=by
 unfold unS
 rw [sumI_perm (dT p x),sumI,h0]
 split<;>omega
theorem unS_new {p:Nms} (o:List ByteArray→Int) (x:Sp) (h0:o x.1=0) (hno:∀z∈p,¬x.1 <+: z.1):unS o (addN p x) x.1=0:=by
 rw [unS_add o p x h0]
 exact bw fun z hz=>if_neg fun h=>hno z hz (aY.1 h)
theorem dR (o:List ByteArray→Int) (t:Sp→Sp) (ht:∀x,(t x).1=x.1) (p:Nms) (ks:List ByteArray):unS o (p.map t) ks=unS o p ks:=by
 unfold unS
 rw [sumI_map]
 exact aZ fun z _=>by rw [ht]
theorem unS_del (o:List ByteArray→Int) (p:Nms) (ks qs:List ByteArray) (hq:undB qs ks=false):unS o (delN p ks) qs=unS o p qs - if undB ks qs=true then unS o p ks else 0:=by
 have h1:=et (fun z=>if undB z.1 qs=true then o z.1 else 0) (fun z=>undB z.1 ks) p
 have h2:sumI (fun z=>if undB z.1 qs=true then o z.1 else 0) (p.filter fun z=>undB z.1 ks)=if undB ks qs=true then unS o p ks else 0:=by
  by_cases hu:undB ks qs=true
  ·rw [if_pos hu]
   have h3:=et (fun z=>if undB z.1 ks=true then o z.1 else 0) (fun z=>undB z.1 ks) p
   have h4:sumI (fun z=>if undB z.1 ks=true then o z.1 else 0) (p.filter fun z => !undB z.1 ks)=0 :=
    bw fun z hz=>by
     have:=(List.mem_filter.1 hz).2
     rw [if_neg]
     intro h;rw [h] at this;cases this
   unfold unS
   rw [h3,h4,Int.add_zero]
   refine aZ fun z hz=>?_
   have hz2:undB z.1 ks=true:=(List.mem_filter.1 hz).2
   rw [if_pos hz2,if_pos (aY.2 ((aY.1 hu).trans (aY.1 hz2)))]
  ·rw [if_neg hu]
   refine bw fun z hz=>if_neg fun h=>?_
   have hz2:undB z.1 ks=true:=(List.mem_filter.1 hz).2
   rcases List.prefix_or_prefix_of_prefix (aY.1 h) (aY.1 hz2) with h5|h5
   ·exact hu (aY.2 h5)
   ·rw [aY.2 h5] at hq;cases hq
 unfold delN
 unfold unS at h2 ⊢
 rw [h1,h2]
 omega
open Go Go.RowKit
def lmB (x:Sp):Int:=x.2.1
def lmE (x:Sp):Int:=x.2.2.1
def usB (x:Sp):Int:=x.2.2.2.1
def usE (x:Sp):Int:=x.2.2.2.2.1
def owB (x:Sp):Int:=x.2.2.2.2.2.1
def owE (x:Sp):Int:=x.2.2.2.2.2.2
theorem eW (t:Sp→Sp) (ht:∀x,(t x).1=x.1) (p:Nms) (ks:List ByteArray):hasN (p.map t) ks=hasN p ks:=by
 unfold hasN
 rw [List.any_map]
 congr 1
 funext x
 simp [ht]
theorem kidsN_map (t:Sp→Sp) (ht:∀x,(t x).1=x.1) (p:Nms) (s:ByteArray):kidsN (p.map t) s=kidsN p s:=by
 unfold kidsN
 rw [List.filter_map,List.map_map]
 have e1:((fun x:Sp=>decide (tx x.1.dropLast=s) && !decide (x.1=[]))∘t)=fun x=>decide (tx x.1.dropLast=s) && !decide (x.1=[]):=by
  funext x;simp [ht]
 have e2:((fun x:Sp=>lastS x.1)∘t)=fun x=>lastS x.1:=by
  funext x;simp [ht]
 rw [e1,e2]
theorem NmOk.map {p:Nms} (h:NmOk p) (t:Sp→Sp) (ht:∀x,(t x).1=x.1):NmOk (p.map t):=by
 refine ⟨fun x hx=>?_,?_⟩
 ·obtain ⟨y,hy,rfl⟩:=List.mem_map.1 hx
  rw [ht];exact h.ok y hy
 ·rw [List.pairwise_map]
  exact h.srt.imp fun {x y} hl=>by rw [ht,ht];exact hl
theorem TrOk.map {p:Nms} (h:TrOk p) (t:Sp→Sp) (ht:∀x,(t x).1=x.1):TrOk (p.map t):=by
 refine ⟨h.ok.map t ht,?_,fun x hx h0=>?_,fun s=>by rw [kidsN_map t ht];exact h.kids s⟩
 ·obtain ⟨r,l,rfl,hr⟩:=h.root
  exact ⟨t r,l.map t,rfl,by rw [ht];exact hr⟩
 ·obtain ⟨y,hy,rfl⟩:=List.mem_map.1 hx
  rw [ht] at h0 ⊢
  rw [eW t ht]
  exact h.par y hy h0
structure QtOk (p:Nms) (oB oE:List ByteArray→Int):Prop where
 tr:TrOk p
 sums:∀x∈p,usB x=unS oB p x.1∧usE x=unS oE p x.1
 own:∀k,0≤oB k∧0≤oE k
 lim:∀x∈p,usB x≤lmB x∧usE x≤lmE x
 room:∀x∈p,lmB x≤1000000∧lmE x≤1000000
 no:∀k,hasN p k=false→oB k=0∧oE k=0
 ow:∀x∈p,owB x=oB x.1∧owE x=oE x.1
theorem unS_pos {o:List ByteArray→Int} (h:∀k,0≤o k) (p:Nms) (ks:List ByteArray):0≤unS o p ks:=by
 unfold unS
 induction p with
 | nil=>exact Int.le_refl 0
 | cons x p ih =>
  rw [sumI]
  have:=h x.1
  split<;>omega
theorem QtOk.pos {p:Nms} {oB oE:List ByteArray→Int} (h:QtOk p oB oE) {x:Sp} (hx:x∈p):0≤usB x∧0≤usE x:=by
 rw [(h.sums x hx).1,(h.sums x hx).2]
 exact ⟨unS_pos (fun k=>(h.own k).1) _ _,unS_pos (fun k=>(h.own k).2) _ _⟩
theorem QtOk.bounds {p:Nms} {oB oE:List ByteArray→Int} (h:QtOk p oB oE) {x:Sp} (hx:x∈p):0≤usB x∧usB x≤1000000∧0≤usE x∧usE x≤1000000:=by
 have h1:=h.pos hx
 have h2:=h.lim x hx
 have h3:=h.room x hx
 omega
theorem dU (b:Int):0≤heldI b∧heldI b≤1000000:=by unfold heldI;omega
theorem QtOk.new (b e:Int):QtOk (newN b e) (fun _=>0) (fun _=>0):=by
 have hz:∀ks,unS (fun _=>0) (newN b e) ks=0:=fun ks=>bw fun z _=>by simp
 refine ⟨TrOk.new b e,fun x hx=>?_,fun _=>⟨Int.le_refl _,Int.le_refl _⟩,fun x hx=>?_,fun x hx=>?_,fun _ _=>⟨rfl,rfl⟩,fun x hx=>by rw [List.mem_singleton.1 hx];exact ⟨rfl,rfl⟩⟩
 ·rw [hz,List.mem_singleton.1 hx];exact ⟨rfl,rfl⟩
 ·rw [List.mem_singleton.1 hx];exact ⟨(dU b).1,(dU e).1⟩
 ·rw [List.mem_singleton.1 hx];exact ⟨(dU b).2,(dU e).2⟩
/-- What a namespace has of its own, as it is reckoned: what it has, less what its kids have. -/
theorem QtOk.own_is {p:Nms} {oB oE:List ByteArray→Int} (h:QtOk p oB oE) {x:Sp} (hx:x∈p) :
  usB x=oB x.1+sumI (fun y=>if isKid y x.1=true then usB y else 0) p∧usE x=oE x.1+sumI (fun y=>if isKid y x.1=true then usE y else 0) p:=by
 have k1:=unS_split oB h.tr.ok.keys h.tr.par hx
 have k2:=unS_split oE h.tr.ok.keys h.tr.par hx
 rw [(h.sums x hx).1,(h.sums x hx).2]
 constructor
 ·rw [k1]
  congr 1
  exact aZ fun y hy=>by rw [(h.sums y hy).1]
 ·rw [k2]
  congr 1
  exact aZ fun y hy=>by rw [(h.sums y hy).2]
def chg (ks:List ByteArray) (b e:Int) (y:Sp):Sp:=if undB ks y.1=true then (y.1,lmB y,lmE y,usB y+b,usE y+e,(if y.1=ks then owB y+b else owB y),(if y.1=ks then owE y+e else owE y)) else y
theorem dQ (ks:List ByteArray) (b e:Int) (y:Sp):(chg ks b e y).1=y.1:=by unfold chg;split<;>rfl
theorem eI (ks:List ByteArray) (b e:Int) (y:Sp):usB (chg ks b e y)=usB y+if undB ks y.1=true then b else 0:=by
 unfold chg
 by_cases h:undB ks y.1=true
 ·rw [if_pos h,if_pos h];rfl
 ·rw [if_neg h,if_neg h];omega
theorem eE (ks:List ByteArray) (b e:Int) (y:Sp):usE (chg ks b e y)=usE y+if undB ks y.1=true then e else 0:=by
 unfold chg
 by_cases h:undB ks y.1=true
 ·rw [if_pos h,if_pos h];rfl
 ·rw [if_neg h,if_neg h];omega
theorem eM (ks:List ByteArray) (b e:Int) (y:Sp):lmB (chg ks b e y)=lmB y:=by unfold chg;split<;>rfl
theorem eC (ks:List ByteArray) (b e:Int) (y:Sp):lmE (chg ks b e y)=lmE y:=by unfold chg;split<;>rfl
theorem undB_self (ks:List ByteArray):undB ks ks=true:=aY.2 (List.prefix_refl ks)
theorem chg_ow (ks:List ByteArray) (b e:Int) (y:Sp):owB (chg ks b e y)=(if y.1=ks then owB y+b else owB y)∧owE (chg ks b e y)=(if y.1=ks then owE y+e else owE y):=by
 unfold chg
 by_cases h:undB ks y.1=true
 ·rw [if_pos h];exact ⟨rfl,rfl⟩
 ·have hne:y.1≠ks:=fun e=>h (by rw [e];exact undB_self ks)
  rw [if_neg h,if_neg hne,if_neg hne];exact ⟨rfl,rfl⟩
def chgN (p:Nms) (ks:List ByteArray) (b e:Int):Nms:=p.map (chg ks b e)
theorem QtOk.charge {p:Nms} {oB oE:List ByteArray→Int} (h:QtOk p oB oE) {x:Sp} (hx:x∈p) {b e:Int} (hb:0≤oB x.1+b) (he:0≤oE x.1+e)
  (hl:∀y∈p,undB x.1 y.1=true→(0<b→usB y+b≤lmB y)∧(0<e→usE y+e≤lmE y)):QtOk (chgN p x.1 b e) (upO oB x.1 b) (upO oE x.1 e):=by
 have hk:=dQ x.1 b e
 refine ⟨h.tr.map _ hk,fun z hz=>?_,fun k=>?_,fun z hz=>?_,fun z hz=>?_,fun k hno=>?_,fun z hz=>?_⟩
 ·obtain ⟨y,hy,rfl⟩:=List.mem_map.1 hz
  unfold chgN
  rw [eI,eE,hk,dR _ _ hk,dR _ _ hk,eQ oB h.tr.ok.keys hx,eQ oE h.tr.ok.keys hx,(h.sums y hy).1,(h.sums y hy).2]
  exact ⟨rfl,rfl⟩
 ·unfold upO
  by_cases hkx:k=x.1
  ·subst hkx;rw [if_pos rfl,if_pos rfl];exact ⟨hb,he⟩
  ·rw [if_neg hkx,if_neg hkx];exact h.own k
 ·obtain ⟨y,hy,rfl⟩:=List.mem_map.1 hz
  rw [eI,eE,eM,eC]
  have h1:=h.lim y hy
  by_cases hu:undB x.1 y.1=true
  ·rw [if_pos hu,if_pos hu]
   obtain ⟨h2,h3⟩:=hl y hy hu
   constructor
   ·by_cases h0:0<b
    ·exact h2 h0
    ·omega
   ·by_cases h0:0<e
    ·exact h3 h0
    ·omega
  ·rw [if_neg hu,if_neg hu];omega
 ·obtain ⟨y,hy,rfl⟩:=List.mem_map.1 hz
  rw [eM,eC]
  exact h.room y hy
 ·unfold chgN at hno
  rw [eW _ hk] at hno
  have hne:k≠x.1:=fun e=>by
   have:hasN p k=true:=aE.2 ⟨x,hx,e.symm⟩
   rw [this] at hno;cases hno
  unfold upO
  rw [if_neg hne,if_neg hne]
  exact h.no k hno
 ·obtain ⟨y,hy,rfl⟩:=List.mem_map.1 hz
  obtain ⟨e1,e2⟩:=chg_ow x.1 b e y
  obtain ⟨o1,o2⟩:=h.ow y hy
  rw [e1,e2,hk,o1,o2]
  unfold upO
  exact ⟨rfl,rfl⟩
theorem QtOk.add {p:Nms} {oB oE:List ByteArray→Int} (h:QtOk p oB oE) {s:ByteArray} {b e:Int} (he:addE p s b e=0):QtOk (addN p (segsB s,b,e,0,0,0,0)) oB oE:=by
 obtain ⟨x,hxd⟩:∃x:Sp,x=(segsB s,b,e,0,0,0,0):=⟨_,rfl⟩
 have hk:x.1=segsB s:=by rw [hxd]
 have hno:hasN p x.1=false∧limOk b e=true:=by
  unfold addE at he
  rw [hk]
  split at he;· cases he
  split at he;· cases he
  split at he;· cases he
  next hl =>
  split at he;· cases he
  next hn=>exact ⟨by simpa using hn,by simpa using hl⟩
 have hl:(0≤b∧b≤1000000)∧0≤e∧e≤1000000:=by
  have:=hno.2
  unfold limOk at this
  simpa using this
 have h0:=h.no x.1 hno.1
 have hnz:∀z∈p,¬x.1 <+: z.1:=fun z hz hp=>by
  have:=anc h.tr.par _ rfl hz hp
  rw [hno.1] at this;cases this
 have ht:TrOk (addN p x):=by rw [hxd];exact h.tr.add he
 rw [←hxd]
 have m:∀ {z:Sp},z∈addN p x→z=x∨z∈p:=fun hz=>cD.1 hz
 refine ⟨ht,fun z hz=>?_,h.own,fun z hz=>?_,fun z hz=>?_,fun k hkn=>?_,fun z hz=>?_⟩
 ·rcases m hz with rfl|hz
  ·rw [unS_new oB _ h0.1 hnz,unS_new oE _ h0.2 hnz,hxd];exact ⟨rfl,rfl⟩
  ·rw [unS_add oB p x h0.1,unS_add oE p x h0.2];exact h.sums z hz
 ·rcases m hz with rfl|hz
  ·rw [hxd];exact ⟨hl.1.1,hl.2.1⟩
  ·exact h.lim z hz
 ·rcases m hz with rfl|hz
  ·rw [hxd];exact ⟨hl.1.2,hl.2.2⟩
  ·exact h.room z hz
 ·refine h.no k ?_
  cases hc:hasN p k with
  | false=>rfl
  | true =>
   obtain ⟨y,hy,e2⟩:=aE.1 hc
   rw [aE.2 ⟨y,cD.2 (Or.inr hy),e2⟩] at hkn
   cases hkn
 ·rcases m hz with rfl|hz
  ·rw [h0.1,h0.2,hxd];exact ⟨rfl,rfl⟩
  ·exact h.ow z hz
def dropN (p:Nms) (x:Sp):Nms:=chgN (delN p x.1) x.1 (- usB x) (- usE x)
def ofO (o:List ByteArray→Int) (ks:List ByteArray):List ByteArray→Int:=fun k=>if undB k ks=true then 0 else o k
theorem unS_of (o:List ByteArray→Int) (p:Nms) (ks qs:List ByteArray):unS (ofO o ks) (delN p ks) qs=unS o (delN p ks) qs:=by
 unfold unS
 refine aZ fun z hz=>?_
 have h1:undB z.1 ks=false:=by simpa [delN] using (List.mem_filter.1 hz).2
 unfold ofO
 rw [h1]
 rfl
theorem QtOk.drop {p:Nms} {oB oE:List ByteArray→Int} (h:QtOk p oB oE) {x:Sp} (hx:x∈p) (h0:x.1≠[]):QtOk (dropN p x) (ofO oB x.1) (ofO oE x.1):=by
 have hk:=dQ x.1 (- usB x) (- usE x)
 have ht:TrOk (delN p x.1):=h.tr.del h0
 have hpx:=h.pos hx
 refine ⟨ht.map _ hk,fun z hz=>?_,fun k=>?_,fun z hz=>?_,fun z hz=>?_,fun k hno=>?_,fun z hz=>?_⟩
 ·obtain ⟨y,hy,rfl⟩:=List.mem_map.1 hz
  obtain ⟨hy1,hy2⟩:=List.mem_filter.1 hy
  have hyu:undB y.1 x.1=false:=by simpa using hy2
  unfold dropN chgN
  rw [eI,eE,hk,dR _ _ hk,dR _ _ hk,unS_of,unS_of,unS_del oB p x.1 y.1 hyu,unS_del oE p x.1 y.1 hyu,(h.sums y hy1).1,(h.sums y hy1).2,(h.sums x hx).1,(h.sums x hx).2]
  by_cases hu:undB x.1 y.1=true
  ·rw [if_pos hu,if_pos hu,if_pos hu,if_pos hu];omega
  ·rw [if_neg hu,if_neg hu,if_neg hu,if_neg hu];omega
 ·unfold ofO
  have:=h.own k
  split
  ·exact ⟨Int.le_refl _,Int.le_refl _⟩
  ·exact this
 ·obtain ⟨y,hy,rfl⟩:=List.mem_map.1 hz
  obtain ⟨hy1,_⟩:=List.mem_filter.1 hy
  rw [eI,eE,eM,eC]
  have h1:=h.lim y hy1
  split<;>omega
 ·obtain ⟨y,hy,rfl⟩:=List.mem_map.1 hz
  rw [eM,eC]
  exact h.room y (List.mem_filter.1 hy).1
 ·unfold dropN chgN at hno
  rw [eW _ hk] at hno
  unfold ofO
  by_cases hu:undB k x.1=true
  ·rw [if_pos hu,if_pos hu];exact ⟨rfl,rfl⟩
  ·rw [if_neg hu,if_neg hu]
   refine h.no k ?_
   cases hc:hasN p k with
   | false=>rfl
   | true =>
    obtain ⟨y,hy,e2⟩:=aE.1 hc
    have:y∈delN p x.1:=List.mem_filter.2 ⟨hy,by rw [e2];simpa using hu⟩
    rw [aE.2 ⟨y,this,e2⟩] at hno
    cases hno
 ·obtain ⟨y,hy,rfl⟩:=List.mem_map.1 hz
  obtain ⟨hy1,hy2⟩:=List.mem_filter.1 hy
  have hyu:undB y.1 x.1=false:=by simpa using hy2
  have hne:y.1≠x.1:=fun e=>by rw [e,undB_self] at hyu;cases hyu
  obtain ⟨e1,e2⟩:=chg_ow x.1 (- usB x) (- usE x) y
  obtain ⟨o1,o2⟩:=h.ow y hy1
  rw [e1,e2,hk,if_neg hne,if_neg hne,o1,o2]
  unfold ofO
  rw [hyu]
  exact ⟨rfl,rfl⟩
end Go.Proofs.YtdmohffogfbnbaaGreatDoor
