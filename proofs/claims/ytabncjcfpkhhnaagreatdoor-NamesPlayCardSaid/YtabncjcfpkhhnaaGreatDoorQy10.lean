import Derived.Test.YtabncjcfpkhhnaaGreatDoorQy09
import Derived.Maps.AppendAt
set_option maxRecDepth 100000
set_option maxHeartbeats 4000000
namespace Go.Proofs.YtabncjcfpkhhnaaGreatDoor
open Go Go.RowKit Go.Maps
def remL (p:Nms) (s:ByteArray) (e0:Int):List ByteArray:=if e0=0 then (undN p (segsB s)).map (fun x=>tx x.1) else []
theorem np_ne_str (g:Nat) (l:List Value):∀r∈[((g,l,63):Nat×List Value×TypeId)],r.2.2≠9:=by
 intro r hr
 rw [List.mem_singleton.1 hr]
 show (63:Nat)≠9
 decide
theorem rem_n {w:World} {nb m c:Nat} {p:Nms} (h:NmAt w nb m c p) (hcc:c≤80000) (hpl:p.length≤80000) (s:ByteArray) (hs:s.size≤1000) (hM:MaxL w) (e0:Int) (he0:e0=remE p s) :
  Calls Tryz.prog 12 #[.pointer (some ⟨nb,0,none⟩),.string s] w fun e_ w'=>∃v,e_=.returned (.tuple #[v,.int .i64 e0])∧StN w.heap.size w' v (remL p s e0)∧NmAt w' nb m c (if e0=0 then delN p (segsB s) else p)∧Upd m w w':=by
 have hm:=Mem.start w
 have HM:Hid (MaxL w):=hM
 have HR:Hid (NmAt w nb m c p):=h
 have HOK:Hid (NmOk p):=h.ok
 obtain ⟨ks,hks⟩:∃ks,ks=segsB s:=⟨_,rfl⟩
 have hk:PlOk ks:=by rw [hks];exact aS s
 have HKS:Hid (∀_:Unit,PlOk ks):=fun _=>hk
 obtain ⟨b0,hb0⟩:∃x,x=isP (bs s):=⟨_,rfl⟩
 obtain ⟨b1,hb1⟩:∃x,x=hasN p ks:=⟨_,rfl⟩
 obtain ⟨U,hU⟩:∃U,U=undN p ks:=⟨_,rfl⟩
 obtain ⟨N,hN⟩:∃n,n=U.length:=⟨_,rfl⟩
 have hN9:N≤90000:=by
  rw [hN,hU]
  exact Nat.le_trans (List.length_filter_le _ _) (by omega)
 have HNU:Hid (∀_:Unit,N=U.length):=fun _=>hN
 have HUU:Hid (∀_:Unit,U=undN p ks):=fun _=>hU
 have HPL:Hid (∀W,MaxL W→Calls Tryz.prog 26 #[.string s] W fun e w'=>e=.returned (.tuple #[.agg (pvv ks).toArray,.bool b0])∧Below W.heap.size W w'):=fun W hW=>by rw [hks,hb0];exact cD s W hs hW
 have HH1:Hid (∀W,Below w.heap.size w W→Calls Tryz.prog 28 #[.pointer (some ⟨nb,0,none⟩),.agg (pvv ks).toArray] W fun e w'=>e=.returned (.bool b1)∧Below W.heap.size W w'):=fun W hW=>has_n hk b1 hb1 W (HR.out.below hW)
 have HU:Hid (∀W,Below w.heap.size w W→Calls Tryz.prog 32 #[.pointer (some ⟨nb,0,none⟩),.agg (pvv ks).toArray] W fun e w'=>∃p0 cap,e=.returned (.slice p0 N cap)∧(0<N→∃b,p0=some ⟨b,0,none⟩∧b<w'.heap.size∧∀i x,U[i]?=some x→∀j u,(pvv x.1)[j]?=some u→w'.cell? ⟨b,i * 2+j,none⟩=some u)∧Below W.heap.size W w'):=fun W hW=>by
  refine (under_n (HR.out.below hW) (by omega) (HM.out.below hW) hk).mono ?_
  rintro e w' ⟨v,rfl,⟨p0,cap,hv,hc⟩,hb⟩
  rw [←hU,List.length_map,←hN] at hv hc
  refine ⟨p0,cap,by rw [hv],fun h0=>?_,hb⟩
  obtain ⟨b,h1,_,h3,h4⟩:=hc h0
  exact ⟨b,h1,h3,fun i x hx j u hu=>h4 i x.1 (by rw [List.getElem?_map,hx];rfl) j u hu⟩
 have HE0:Hid (∀_:Unit,e0=if b0=false then 110 else if ks=[] then 110 else if b1=false then 100 else 0):=fun _=>by
  rw [he0,hb0,hb1,hks];rfl
 have HRL:Hid (∀_:Unit,remL p s 0=U.map (fun x=>tx x.1)):=fun _=>by rw [hU,hks];rfl
 have HRN:Hid (∀z:Int,z≠0→remL p s z=[]):=fun z hz=>by unfold remL;rw [if_neg hz]
 rw [←hks]
 clear h hs hM hks hk hb0 hb1 hU hN he0 hpl
 cases b0 with
 | false =>
  have e1:e0=110:=by rw [HE0.out ()];rfl
  subst e1
  rw [if_neg (by omega),HRN.out 110 (by omega)]
  clear HE0
  go_enter Tryz.func12,Tryz.ntmps12
  go_wp2_with (first
   | (go_at_call 26;refine (HPL.out _ (HM.out.below hm.below)).mono ?_;rintro e w' ⟨he,hb⟩;subst he;replace hm:=hm.call hb;clear hb)
   | ((with_reducible refine aa (some 6) (.alloc 63) ?_);refine ae _ aB hm ?_;clear hm;intro w1 g6 hm)
   | ((with_reducible refine aa none (.store 63 (.tmp 6) (.tmp 14)) ?_);refine ag 0 (pvv ks) hm rfl rfl rfl 2 al rfl rfl (ax _) ?_;clear hm;intro w2 hm))
  refine aj ?_
  refine af (T:=fun W=>Mem w [] W [(g6,pvv ks,63)]) (by kernel_rfl) hm ?_
  intro wc hbw hmw
  clear hm
  have hm:=hmw
  clear hbw hmw
  refine aT 0 (v:=.bool false) rfl (by kernel_rfl) rfl (fun W _=>by go_simp) hm ?_
  go_simp
  refine aT 1 (v:=.bool true) rfl (by kernel_rfl) rfl (fun W _=>by go_simp) hm ?_
  go_simp
  refine aT 2 (v:=.bool true) rfl (by kernel_rfl) rfl (fun W _=>by go_simp) hm ?_
  go_simp
  refine ah 3 rfl (by kernel_rfl) (by kernel_rfl) (by kernel_rfl) rfl hm ?_
  go_simp
  refine ah 4 rfl (by kernel_rfl) (by kernel_rfl) (by kernel_rfl) rfl hm ?_
  go_simp
  refine ah 5 rfl (by kernel_rfl) (by kernel_rfl) (by kernel_rfl) rfl hm ?_
  go_simp
  refine aT 6 (v:=.bool true) rfl (by kernel_rfl) rfl (fun W _=>by go_simp) hm ?_
  go_simp
  refine aT 7 (v:=.bool true) rfl (by kernel_rfl) rfl (fun W _=>by go_simp) hm ?_
  go_simp
  refine wpAnyH_done (by kernel_rfl) ?_ _
  simp only [endsIn]
  go_wp2_with fail
  go_ret2
  exact ⟨_,rfl,⟨none,0,rfl,fun h=>absurd h (by simp)⟩,HR.out.below hm.below,Upd.of_below hm.below⟩
 | true =>
  by_cases hr:ks=[]
  ·have HRT:Hid (∀_:Unit,true=decide (ks=[])):=fun _=>by rw [decide_eq_true hr]
   have e1:e0=110:=by rw [HE0.out (),if_neg (by simp),if_pos hr]
   subst e1
   rw [if_neg (by omega),HRN.out 110 (by omega)]
   clear HE0 hr
   go_enter Tryz.func12,Tryz.ntmps12
   go_wp2_with (first
    | (go_at_call 26;refine (HPL.out _ (HM.out.below hm.below)).mono ?_;rintro e w' ⟨he,hb⟩;subst he;replace hm:=hm.call hb;clear hb)
    | ((with_reducible refine aa (some 6) (.alloc 63) ?_);refine ae _ aB hm ?_;clear hm;intro w1 g6 hm)
    | ((with_reducible refine aa none (.store 63 (.tmp 6) (.tmp 14)) ?_);refine ag 0 (pvv ks) hm rfl rfl rfl 2 al rfl rfl (ax _) ?_;clear hm;intro w2 hm))
   refine aj ?_
   refine af (T:=fun W=>Mem w [] W [(g6,pvv ks,63)]) (by kernel_rfl) hm ?_
   intro wc hbw hmw
   clear hm
   have hm:=hmw
   clear hbw hmw
   refine aT 0 (v:=.bool true) rfl (by kernel_rfl) rfl (fun W _=>by go_simp) hm ?_
   go_simp
   refine aT 1 (v:=.bool false) rfl (by kernel_rfl) rfl (fun W _=>by go_simp) hm ?_
   go_simp
   refine aT 2 (v:=.bool false) rfl (by kernel_rfl) rfl (fun W _=>by go_simp) hm ?_
   go_simp
   refine aG 3 (v:=.agg (pvv ks).toArray) rfl (by kernel_rfl) rfl (fun W hW=>ai 0 (pvv ks) (Mem.get hW 0 rfl) rfl _ ar rfl 2 al (Nat.le_refl 2) rfl) hm ?_
   go_simp
   refine aO 4 (by kernel_rfl) rfl rfl ?_
   intro K hK
   go_wp2_with (go_at_call 25;refine (bg _).mono ?_;rintro e w' ⟨he,hb⟩;subst he;replace hm:=hm.call hb;clear hb)
   refine hK _ _ hm ?_
   clear hK K
   go_simp
   refine aG 5 (v:=.bool true) rfl (by kernel_rfl) rfl (fun W _=>bo (HKS.out ()) PlOk.nil true (HRT.out ()) rfl rfl) hm ?_
   go_simp
   refine aT 6 (v:=.bool true) rfl (by kernel_rfl) rfl (fun W _=>by go_simp) hm ?_
   go_simp
   refine aT 7 (v:=.bool true) rfl (by kernel_rfl) rfl (fun W _=>by go_simp) hm ?_
   go_simp
   refine wpAnyH_done (by kernel_rfl) ?_ _
   simp only [endsIn]
   go_wp2_with fail
   go_ret2
   exact ⟨_,rfl,⟨none,0,rfl,fun h=>absurd h (by simp)⟩,HR.out.below hm.below,Upd.of_below hm.below⟩
  ·have HRT:Hid (∀_:Unit,false=decide (ks=[])):=fun _=>by rw [decide_eq_false hr]
   have HE1:Hid (∀_:Unit,e0=if b1=false then 100 else 0):=fun _=>by rw [HE0.out (),if_neg (by simp),if_neg hr]
   clear HE0 hr
   cases b1 with
   | false =>
    have e1:e0=100:=by rw [HE1.out ()];rfl
    subst e1
    rw [if_neg (by omega),HRN.out 100 (by omega)]
    clear HE1
    go_enter Tryz.func12,Tryz.ntmps12
    go_wp2_with (first
     | (go_at_call 26;refine (HPL.out _ (HM.out.below hm.below)).mono ?_;rintro e w' ⟨he,hb⟩;subst he;replace hm:=hm.call hb;clear hb)
     | ((with_reducible refine aa (some 6) (.alloc 63) ?_);refine ae _ aB hm ?_;clear hm;intro w1 g6 hm)
     | ((with_reducible refine aa none (.store 63 (.tmp 6) (.tmp 14)) ?_);refine ag 0 (pvv ks) hm rfl rfl rfl 2 al rfl rfl (ax _) ?_;clear hm;intro w2 hm))
    refine aj ?_
    refine af (T:=fun W=>Mem w [] W [(g6,pvv ks,63)]) (by kernel_rfl) hm ?_
    intro wc hbw hmw
    clear hm
    have hm:=hmw
    clear hbw hmw
    refine aT 0 (v:=.bool true) rfl (by kernel_rfl) rfl (fun W _=>by go_simp) hm ?_
    go_simp
    refine aT 1 (v:=.bool false) rfl (by kernel_rfl) rfl (fun W _=>by go_simp) hm ?_
    go_simp
    refine aT 2 (v:=.bool false) rfl (by kernel_rfl) rfl (fun W _=>by go_simp) hm ?_
    go_simp
    refine aG 3 (v:=.agg (pvv ks).toArray) rfl (by kernel_rfl) rfl (fun W hW=>ai 0 (pvv ks) (Mem.get hW 0 rfl) rfl _ ar rfl 2 al (Nat.le_refl 2) rfl) hm ?_
    go_simp
    refine aO 4 (by kernel_rfl) rfl rfl ?_
    intro K hK
    go_wp2_with (go_at_call 25;refine (bg _).mono ?_;rintro e w' ⟨he,hb⟩;subst he;replace hm:=hm.call hb;clear hb)
    refine hK _ _ hm ?_
    clear hK K
    go_simp
    refine aG 5 (v:=.bool false) rfl (by kernel_rfl) rfl (fun W _=>bo (HKS.out ()) PlOk.nil false (HRT.out ()) rfl rfl) hm ?_
    go_simp
    refine aT 6 (v:=.bool false) rfl (by kernel_rfl) rfl (fun W _=>by go_simp) hm ?_
    go_simp
    refine aT 7 (v:=.bool false) rfl (by kernel_rfl) rfl (fun W _=>by go_simp) hm ?_
    go_simp
    refine wpAnyH_done (by kernel_rfl) ?_ _
    simp only [endsIn]
    go_wp2_with (first
     | ((with_reducible refine aa (some 26) (.load 63 (.tmp 6)) ?_);refine ap 0 hm rfl rfl _ ar rfl 2 al (by rfl) ?_)
     | (go_at_call 28;refine (HH1.out _ hm.below).mono ?_;rintro e_ w' ⟨he_,hb_⟩;subst he_;replace hm:=hm.call hb_;clear hb_))
    go_ret2
    exact ⟨_,rfl,⟨none,0,rfl,fun h=>absurd h (by simp)⟩,HR.out.below hm.below,Upd.of_below hm.below⟩
   | true =>
    have e1:e0=0:=by rw [HE1.out ()];rfl
    subst e1
    rw [if_pos rfl,HRL.out ()]
    obtain ⟨T,hT⟩:∃T,T=U.map (fun x:Sp=>tx x.1):=⟨_,rfl⟩
    have HT:Hid (∀_:Unit,T=U.map (fun x:Sp=>tx x.1)):=fun _=>hT
    rw [←hT]
    clear hT
    have tk1:Nat:=0
    clear HE1
    go_enter Tryz.func12,Tryz.ntmps12
    go_wp2_with (first
     | (go_at_call 26;refine (HPL.out _ (HM.out.below hm.below)).mono ?_;rintro e w' ⟨he,hb⟩;subst he;replace hm:=hm.call hb;clear hb)
     | ((with_reducible refine aa (some 6) (.alloc 63) ?_);refine ae _ aB hm ?_;clear hm;intro w1 g6 hm)
     | ((with_reducible refine aa none (.store 63 (.tmp 6) (.tmp 14)) ?_);refine ag 0 (pvv ks) hm rfl rfl rfl 2 al rfl rfl (ax _) ?_;clear hm;intro w2 hm))
    refine aj ?_
    refine af (T:=fun W=>Mem w [] W [(g6,pvv ks,63)]) (by kernel_rfl) hm ?_
    intro wc hbw hmw
    clear hm
    have hm:=hmw
    clear hbw hmw
    refine aT 0 (v:=.bool true) rfl (by kernel_rfl) rfl (fun W _=>by go_simp) hm ?_
    go_simp
    refine aT 1 (v:=.bool false) rfl (by kernel_rfl) rfl (fun W _=>by go_simp) hm ?_
    go_simp
    refine aT 2 (v:=.bool false) rfl (by kernel_rfl) rfl (fun W _=>by go_simp) hm ?_
    go_simp
    refine aG 3 (v:=.agg (pvv ks).toArray) rfl (by kernel_rfl) rfl (fun W hW=>ai 0 (pvv ks) (Mem.get hW 0 rfl) rfl _ ar rfl 2 al (Nat.le_refl 2) rfl) hm ?_
    go_simp
    refine aO 4 (by kernel_rfl) rfl rfl ?_
    intro K hK
    go_wp2_with (go_at_call 25;refine (bg _).mono ?_;rintro e w' ⟨he,hb⟩;subst he;replace hm:=hm.call hb;clear hb)
    refine hK _ _ hm ?_
    clear hK K
    go_simp
    refine aG 5 (v:=.bool false) rfl (by kernel_rfl) rfl (fun W _=>bo (HKS.out ()) PlOk.nil false (HRT.out ()) rfl rfl) hm ?_
    go_simp
    refine aT 6 (v:=.bool false) rfl (by kernel_rfl) rfl (fun W _=>by go_simp) hm ?_
    go_simp
    refine aT 7 (v:=.bool false) rfl (by kernel_rfl) rfl (fun W _=>by go_simp) hm ?_
    go_simp
    refine wpAnyH_done (by kernel_rfl) ?_ _
    simp only [endsIn]
    go_wp2_with (first
     | (clear tk1;go_at_call 28;refine (HH1.out _ hm.below).mono ?_;rintro e_ w' ⟨he_,hb_⟩;subst he_;replace hm:=hm.call hb_;clear hb_)
     | ((with_reducible refine aa (some 26) (.load 63 (.tmp 6)) ?_);refine ap 0 hm rfl rfl _ ar rfl 2 al (by rfl) ?_)
     | ((with_reducible refine aa (some 30) (.load 63 (.tmp 6)) ?_);refine ap 0 hm rfl rfl _ ar rfl 2 al (by rfl) ?_)
     | (go_at_call 32;refine (HU.out _ hm.below).mono ?_;rintro e w2 ⟨p0,cap,he,hcc2,hb⟩;subst he;have HC2:Hid (0<N→∃b,p0=some ⟨b,0,none⟩∧b<w2.heap.size∧∀i x,U[i]?=some x→∀j u,(pvv x.1)[j]?=some u→w2.cell? ⟨b,i * 2+j,none⟩=some u):=hcc2;clear hcc2;replace hm:=hm.call hb;clear hb))
    have HB2:Hid (Below w.heap.size w w2):=hm.below
    have hz2:=hm.size
    have HR2:Hid (NmAt w2 nb m c p):=HR.out.below HB2.out
    have hml:m<w2.heap.size:=HR2.out.lt
    obtain ⟨q,hq,hkm⟩:=HR2.out.map
    have HM2:Hid (MaxL w2):=HM.out.below HB2.out
    obtain ⟨es,cl,hes⟩:=hkm.isMap
    have hnm:nb≠m:=aJ HR2.out.row hes
    have hm0:m≠0:=by
     rintro rfl
     obtain ⟨z,hz⟩:=HM2.out
     rw [dK hes] at hz;cases hz
    have HBM:Hid (∀b n v,w2.cell? ⟨b,n,none⟩=some v→b≠m):=by
     rintro b n v hv rfl
     rw [dK hes] at hv;cases hv
    have HM0:Hid (Mem w2 [m] w2 []):=(Mem.start w2).weak
    have HO0:Hid (w2.ownsRow w2.heap.size 9 1 (.slice none 0 0) 0 (strs (T.take 0))):=⟨rfl,Or.inl ⟨rfl,rfl⟩⟩
    have HK0:Hid (KM Tryz.prog 63 w2 m q (NmK (lessN p U 0))):=by rw [less_zero];exact hkm
    clear hm HU hkm hes
    go_loopw [33,8] (fun vi va wr=>∃k:Nat,k≤N∧vi=.int .i64 (k:Int)∧∃vb,vb=va∧Hid (Mem w2 [m] wr [])∧Hid (wr.ownsRow w2.heap.size 9 1 vb k (strs (T.take k)))∧Hid (KM Tryz.prog 63 wr m q (NmK (lessN p U k)))) (fun vi _ _=>match vi with | .int _ k=>N - k.toNat|_=>0)
    case atStart=>exact ⟨0,by omega,rfl,_,rfl,HM0,HO0,HK0⟩
    case round =>
     obtain ⟨k,hk,rfl,va,rfl,HMM,HOW,HKW⟩:=hrel
     by_cases hlt:k<N
     ·have hki:(k:Int)<(N:Int):=by omega
      have hw:IntKind.i64.wrap ((k:Int)+1)=(k:Int)+1:=bW _ (by omega) (by omega)
      have hk9:k≤100000:=by omega
      have hkp:k<U.length:=by rw [←HNU.out ()];exact hlt
      obtain ⟨x,hx⟩:∃x,x=U[k]:=⟨_,rfl⟩
      have HPK:Hid (∀_:Unit,U[k]?=some x):=fun _=>by rw [hx];simp [hkp]
      obtain ⟨k1,hk1⟩:∃ks,ks=x.1:=⟨_,rfl⟩
      have hxp:x∈p:=by
       have h1:x∈U:=by rw [hx];exact List.getElem_mem hkp
       rw [HUU.out ()] at h1
       exact (List.mem_filter.1 h1).1
      have HXP:Hid (∀_:Unit,x∈p∧k1=x.1):=fun _=>⟨hxp,hk1⟩
      have HK1:Hid (∀_:Unit,PlOk k1):=fun _=>by rw [hk1];exact HOK.out.ok x hxp
      obtain ⟨y1,hy1⟩:∃y,y=tx k1:=⟨_,rfl⟩
      have HY1:Hid (∀_:Unit,Value.string (tx k1)=.string y1):=fun _=>by rw [hy1]
      have HTK:Hid (∀_:Unit,T.take (k+1)=T.take k++[y1]):=fun _=>by
       rw [List.take_add_one,HT.out (),List.getElem?_map,HPK.out (),hy1,hk1];rfl
      obtain ⟨b,hb0,hb1,hb2⟩:=HC2.out (by omega)
      subst hb0
      have hbm:b≠m:=HBM.out b (k * 2+0) _ (hb2 k x (HPK.out ()) 0 _ rfl)
      have HC:Hid (∀j u,(pvv k1)[j]?=some u→wr.cell? ⟨b,k * 2+j,none⟩=some u):=fun j u hu=>by
       rw [HMM.out.old (p:=⟨b,k * 2+j,none⟩) hb1 (by simpa using hbm)]
       rw [hk1] at hu
       exact hb2 k x (HPK.out ()) j u hu
      have HMR:Hid (MaxL wr):=HM2.out.at0 (HMM.out.block 0 HM2.out.lt0 (by simpa using fun e:0=m=>hm0 e.symm))
      have HRN2:Hid (Row wr nb [.map (some m)] 69):=HMM.out.toUpd.row HR2.out.row hnm
      have hm:=Mem.start wr
      clear hx hk1 hxp hb1 hb2 hbm hy1
      go_wp2_with (first
       | ((with_reducible refine aa (some 35) (.indexAddr 74 (.tmp 31) (.tmp 33)) ?_);go_must (refine ab (.pointer (some ⟨b,k * 2,none⟩)) rfl (aD 2 k un_nps al rfl rfl rfl hlt) ?_))
       | ((with_reducible refine aa (some 36) (.load 63 (.tmp 35)) ?_);go_must (refine ab (.agg (pvv k1).toArray) rfl (aC (k * 2) 2 (pvv k1) _ rfl HC.out ar rfl al rfl) ?_))
       | ((with_reducible refine aa (some 10) (.alloc 63) ?_);refine ae _ aB hm ?_;clear hm;intro w3 g10 hm)
       | ((with_reducible refine aa none (.store 63 (.tmp 10) (.tmp 36)) ?_);refine ag 0 (pvv k1) hm rfl rfl rfl 2 al rfl rfl (ax _) ?_;clear hm;intro w4 hm)
       | ((with_reducible refine aa (some 38) (.load 63 (.tmp 10)) ?_);refine ap 0 hm rfl rfl _ ar rfl 2 al (by rfl) ?_)
       | (go_at_call 27;refine (bC (HK1.out ()) _ (HMR.out.below hm.below)).mono ?_;rintro e w' ⟨he,hb⟩;subst he;replace hm:=hm.call hb;clear hb)
       | ((with_reducible refine aa (some 40) (.buildSlice 33 1 #[(0,.tmp 39)]) ?_);go_must (refine bx rfl (.string noStr) (.string y1) aI bA rfl (HY1.out ()) rfl hm ?_);clear hm;intro w6 g8 hb6 hm;clear hb6)
       | ((with_reducible refine aa (some 41) (.call {callee:=.builtin .append,args:=#[.tmp 37,.tmp 40],argTypes:=#[33,33]}) ?_);go_must (refine aW (.string noStr) 1 16 rfl aI bm rfl (by omega) (by omega) (am HOW.out hm.below) (Nat.le_trans HMM.out.size hm.size) rfl rfl (hm.get 0 rfl) rfl (cB y1) hk9 ?_);intro v9 w9 ho9 hg9 hl9;have H9:Hid (w9.ownsRow w2.heap.size 9 1 v9 (k+1) (strs (T.take k)++[.string y1])):=ho9;have HG9:Hid (World.grownBy _ w9 (Value.ownBlock va)):=hg9;have HB9:Hid (Below wr.heap.size wr _):=hm.below;replace hm:=(Mem.link HMM.out hm.tail).grownT hg9 (am HOW.out HB9.out) (np_ne_str _ _) (Nat.le_refl _);clear ho9 hg9 hl9))
      have HK9:Hid (KM Tryz.prog 63 w9 m q (NmK (lessN p U k))):=(HKW.out.below HB9.out).keep (HG9.out.block m (by have:=HMM.out.size;have:=HB9.out.size;omega) (fun e=>by have:=(World.ownsRow.lt (am HOW.out HB9.out) m e.symm).1;omega))
      have HRN9:Hid (Row w9 nb [.map (some m)] 69):=hm.toUpd.row HR2.out.row hnm
      refine aj ?_
      refine af (T:=fun W=>Row W nb [.map (some m)] 69∧Row W g10 (pvv k1) 63) (by kernel_rfl) hm ?_
      intro wc hbw hmw
      clear hm
      have hm:=hmw
      have HTT:Hid (Row wc nb [.map (some m)] 69∧Row wc g10 (pvv k1) 63):=⟨Row.bel HRN9.out hbw,hm.get 0 rfl⟩
      replace HK9:Hid (KM Tryz.prog 63 wc m q (NmK (lessN p U k))):=HK9.out.below hbw
      replace H9:Hid (wc.ownsRow w2.heap.size 9 1 v9 (k+1) (strs (T.take k)++[.string y1])):=am H9.out hbw
      obtain ⟨es9,c9,hmap9⟩:=HK9.out.isMap
      have hne1:nb≠m:=aJ HTT.out.1 hmap9
      have hne2:g10≠m:=aJ HTT.out.2 hmap9
      have HMP9:Hid (wc.heap[m]?=some (.map es9 c9)):=hmap9
      obtain ⟨kl9,hkl9⟩:=cZ (HK1.out ())
      have HKL9:Hid (keyOf Tryz.prog 63 (.agg (pvv k1).toArray)=some kl9):=hkl9
      clear hmw hbw hmap9 hkl9
      refine aT 0 (v:=.pointer (some ⟨nb,0,none⟩)) rfl (by kernel_rfl) rfl (fun W _=>by go_simp) HTT.out ?_
      go_simp
      refine aT 1 (v:=.pointer (some ⟨nb,0,none⟩)) rfl (by kernel_rfl) rfl (fun W _=>by go_simp) HTT.out ?_
      go_simp
      refine aT 2 (v:=.pointer (some ⟨nb,0,none⟩)) rfl (by kernel_rfl) rfl (fun W _=>by go_simp) HTT.out ?_
      go_simp
      refine aT 3 (v:=.map (some m)) rfl (by kernel_rfl) rfl (fun W hW=>ad 0 (.map (some m)) hW.1 rfl ag_nm rfl) HTT.out ?_
      go_simp
      refine aT 4 (v:=.agg (pvv k1).toArray) rfl (by kernel_rfl) rfl (fun W hW=>ai 0 (pvv k1) hW.2 rfl _ ar rfl 2 al (Nat.le_refl 2) rfl) HTT.out ?_
      go_simp
      refine aO 5 (by kernel_rfl) rfl rfl ?_
      intro K hK
      refine wpl_kmDel HK9.out bc ch HKL9.out rfl rfl ?_
      intro w10 km8 hu9
      have HKM8:Hid (KM Tryz.prog 63 w10 m q (delK (NmK (lessN p U k)) (.agg (pvv k1).toArray))):=km8
      have HU9:Hid (Upd m wc w10):=hu9
      have HT9:Hid (Row w10 nb [.map (some m)] 69∧Row w10 g10 (pvv k1) 63):=⟨hu9.row HTT.out.1 hne1,hu9.row HTT.out.2 hne2⟩
      clear km8 hu9
      refine wpList_nil ?_
      refine hK _ _ HT9.out ?_
      clear hK K
      go_simp
      refine wpAnyH_done (by kernel_rfl) ?_ _
      simp only [endsIn]
      go_wp2_with fail
      go_roundw
      case rel =>
       refine ⟨k+1,by omega,by go_num,v9,rfl,(hm.tail.updO HMP9.out (Or.inl (by simp)) HU9.out),?_,?_⟩
       ·have h9:=own_upd H9.out HU9.out hml
        show World.ownsRow _ _ _ _ _ _ _
        rw [HTK.out ()]
        unfold strs at h9 ⊢
        rw [List.map_append]
        exact h9
       ·have h9:=HKM8.out
        rw [(HXP.out ()).2] at h9
        exact h9.same (nmK_less HOK.out (HPK.out ()) (HXP.out ()).1)
      case measure=>show N - ((k:Int)+1).toNat<N - (k:Int).toNat;omega
     ·have hin:k=N:=by omega
      have hki:¬(k:Int)<(N:Int):=by omega
      have HTE:Hid (∀_:Unit,T.take k=T):=fun _=>List.take_of_length_le (by rw [HT.out (),List.length_map,hin,HNU.out ()];exact Nat.le_refl _)
      have HTL:Hid (∀_:Unit,k=T.length):=fun _=>by rw [HT.out (),List.length_map,hin,HNU.out ()]
      have HKE:Hid (∀_:Unit,lessN p U k=delN p ks):=fun _=>by
       rw [HUU.out ()]
       exact less_all ks (by rw [←HUU.out (),←HNU.out (),hin];exact Nat.le_refl _)
      go_wp2_with fail
      go_ret2
      refine ⟨va,rfl,?_,⟨HMM.out.toUpd.row HR2.out.row hnm,⟨q,hq,by rw [←HKE.out ()];exact HKW.out⟩,HOK.out.del ks⟩,(Upd.of_below (HB2.out.mono (Nat.le_refl _))).trans HMM.out.toUpd⟩
      have h9:=HOW.out
      rw [HTE.out ()] at h9
      exact (cM h9 (HTL.out ())).lower hz2
open Go Go.RowKit Go.Maps
theorem add_k {w:World} {nb m c:Nat} {p:Nms} (h:NmAt w nb m c p) (hcc:c≤80000) (s:ByteArray) (hs:s.size≤1000) (hM:MaxL w) (b e e0:Int) (p':Nms) (he:addE p s b e=e0) (hp:(if e0=0 then addN p (segsB s,b,e,0,0,0,0) else p)=p') :
  Calls Tryz.prog 10 #[.pointer (some ⟨nb,0,none⟩),.string s,.int .i64 b,.int .i64 e] w fun e_ w'=>e_=.returned (.int .i64 e0)∧NmAt w' nb m (c+1) p'∧Upd m w w':=by
 rw [←hp]
 exact add_n h hcc s hs hM b e e0 he.symm
theorem rem_k {w:World} {nb m c:Nat} {p:Nms} (h:NmAt w nb m c p) (hcc:c≤80000) (hpl:p.length≤80000) (s:ByteArray) (hs:s.size≤1000) (hM:MaxL w) (e0:Int) (p':Nms) (L:List ByteArray) (he:remE p s=e0) (hp:(if e0=0 then delN p (segsB s) else p)=p') (hL:remL p s e0=L) :
  Calls Tryz.prog 12 #[.pointer (some ⟨nb,0,none⟩),.string s] w fun e_ w'=>∃v,e_=.returned (.tuple #[v,.int .i64 e0])∧StN w.heap.size w' v L∧NmAt w' nb m c p'∧Upd m w w':=by
 rw [←hp,←hL]
 exact rem_n h hcc hpl s hs hM e0 he.symm
theorem get_k {w:World} {nb m c:Nat} {p:Nms} (h:NmAt w nb m c p) (s:ByteArray) (hs:s.size≤1000) (hM:MaxL w) (V:List Value) (b:Bool) (hV:getV p s=V) (hb:getB p s=b) :
  Calls Tryz.prog 15 #[.pointer (some ⟨nb,0,none⟩),.string s] w fun e w'=>e=.returned (.tuple #[.agg V.toArray,.bool b])∧Below w.heap.size w w':=by
 rw [←hV,←hb]
 exact get_n h s hs hM
theorem kids_k {w:World} {nb m c:Nat} {p:Nms} (h:NmAt w nb m c p) (hcc:c≤90000) (s:ByteArray) (L:List ByteArray) (hL:kidsN p s=L) :
  Calls Tryz.prog 19 #[.pointer (some ⟨nb,0,none⟩),.string s] w fun e w'=>∃v,e=.returned v∧StN w.heap.size w' v L∧Below w.heap.size w w':=by
 rw [←hL]
 exact kids_n h hcc s
theorem StN.two {B:Nat} {w:World} {v:Value} {x:ByteArray} {L:List ByteArray} {n:Nat} (h:StN B w v L) (hn:L.length=n) (i:Nat) (hx:L[i]?=some x):∃b cap,v=.slice (some ⟨b,0,none⟩) n cap∧B≤b∧b<w.heap.size∧w.cell? ⟨b,i,none⟩=some (.string x):=by
 obtain ⟨p,cap,hv,hc⟩:=h
 have hi:i<L.length:=(List.getElem?_eq_some_iff.1 hx).1
 obtain ⟨b,h1,h2,h3,h4⟩:=hc (by omega)
 exact ⟨b,cap,by rw [hv,h1,hn],h2,h3,h4 i x hx⟩
theorem MaxL.upd0 {w w':World} {m:Nat} (h:MaxL w) (hm:0<m) (hu:Upd m w w'):MaxL w':=h.at0 (hu.block 0 h.lt0 (by omega))
def pA0:Nms:=newN 100 (-1)
def pA1:Nms:=addN pA0 (segsB ⟨#[97]⟩,5,6,0,0,0,0)
def pA2:Nms:=addN pA1 (segsB ⟨#[97,47,98]⟩,1,1,0,0,0,0)
theorem kA0:addE pA0 ⟨#[97]⟩ (5) (6)=0:=by decide +kernel
theorem kP0:(if (0:Int)=0 then addN pA0 (segsB ⟨#[97]⟩,(5),(6),0,0,0,0) else pA0)=pA1:=by rfl
theorem kA1:addE pA1 ⟨#[97,47,98]⟩ (1) (1)=0:=by decide +kernel
theorem kP1:(if (0:Int)=0 then addN pA1 (segsB ⟨#[97,47,98]⟩,(1),(1),0,0,0,0) else pA1)=pA2:=by rfl
theorem kA2:addE pA2 ⟨#[120,47,121]⟩ (1) (1)=100:=by decide +kernel
theorem kP2:(if (100:Int)=0 then addN pA2 (segsB ⟨#[120,47,121]⟩,(1),(1),0,0,0,0) else pA2)=pA2:=by rw [if_neg (by omega)]
theorem kA3:addE pA2 ⟨#[97]⟩ (1) (1)=101:=by decide +kernel
theorem kP3:(if (101:Int)=0 then addN pA2 (segsB ⟨#[97]⟩,(1),(1),0,0,0,0) else pA2)=pA2:=by rw [if_neg (by omega)]
theorem kA4:addE pA2 ⟨#[]⟩ (1) (1)=110:=by decide +kernel
theorem kP4:(if (110:Int)=0 then addN pA2 (segsB ⟨#[]⟩,(1),(1),0,0,0,0) else pA2)=pA2:=by rw [if_neg (by omega)]
theorem kA5:addE pA2 ⟨#[98]⟩ (-1) (0)=12:=by decide +kernel
theorem kP5:(if (12:Int)=0 then addN pA2 (segsB ⟨#[98]⟩,(-1),(0),0,0,0,0) else pA2)=pA2:=by rw [if_neg (by omega)]
theorem kG1:getV pA2 ⟨#[97]⟩=spc [⟨#[97]⟩] 5 6:=by kernel_rfl
theorem kGB1:getB pA2 ⟨#[97]⟩=true:=by decide +kernel
theorem kG2:getV pA2 ⟨#[]⟩=spc [] 100 0:=by kernel_rfl
theorem kGB2:getB pA2 ⟨#[]⟩=true:=by decide +kernel
theorem kKids:kidsN pA2 ⟨#[97]⟩=[⟨#[98]⟩]:=by decide +kernel
theorem kR:remE pA2 ⟨#[97]⟩=0:=by decide +kernel
theorem kRP:(if (0:Int)=0 then delN pA2 (segsB ⟨#[97]⟩) else pA2)=pA0:=by kernel_rfl
theorem kRL:remL pA2 ⟨#[97]⟩ 0=[⟨#[97]⟩,⟨#[97,47,98]⟩]:=by decide +kernel
theorem kLen2:pA2.length=3:=by decide +kernel
theorem kLen0:pA0.length=1:=by decide +kernel
theorem tx_a:tx [⟨#[97]⟩]=⟨#[97]⟩:=by decide +kernel
theorem dt (w:World) (hM:MaxL w):Calls Tryz.prog 7 #[] w fun e w'=>e=.returned (.bool true)∧Below w.heap.size w w':=by
 have HM:Hid (MaxL w):=hM
 clear hM
 have tk0:Nat:=0
 have tk1:Nat:=0
 have tk2:Nat:=0
 have tk3:Nat:=0
 have tk4:Nat:=0
 have tk9:Nat:=0
 go_enter Tryz.func7,Tryz.ntmps7
 go_wp2_with (first
  | (go_at_call 8;refine (new_n 100 (-1) _).mono ?_;rintro e w1 ⟨nb,m,he,hwn,hwm,hn,hb⟩;subst he;have hm0:0<m:=Nat.lt_of_lt_of_le HM.out.lt0 hwm;have HN:Hid (NmAt w1 nb m 1 pA0):=hn;have HB:Hid (Below w.heap.size w w1):=hb;clear hn hb)
  | (clear tk0;go_at_call 10;refine (add_k HN.out (by omega) ⟨#[97]⟩ (by decide) (HM.out.below HB.out) (5) (6) 0 pA1 kA0 kP0).mono ?_;rintro e wa0 ⟨he,hn,hu⟩;subst he;replace HN:Hid (NmAt wa0 nb m 2 pA1):=hn;replace HB:Hid (Below w.heap.size w wa0):=aM HB.out hu hwm HB.out.size;clear hn hu)
  | (clear tk1;go_at_call 10;refine (add_k HN.out (by omega) ⟨#[97,47,98]⟩ (by decide) (HM.out.below HB.out) (1) (1) 0 pA2 kA1 kP1).mono ?_;rintro e wa1 ⟨he,hn,hu⟩;subst he;replace HN:Hid (NmAt wa1 nb m 3 pA2):=hn;replace HB:Hid (Below w.heap.size w wa1):=aM HB.out hu hwm HB.out.size;clear hn hu)
  | (clear tk2;go_at_call 10;refine (add_k HN.out (by omega) ⟨#[120,47,121]⟩ (by decide) (HM.out.below HB.out) (1) (1) 100 pA2 kA2 kP2).mono ?_;rintro e wa2 ⟨he,hn,hu⟩;subst he;replace HN:Hid (NmAt wa2 nb m 4 pA2):=hn;replace HB:Hid (Below w.heap.size w wa2):=aM HB.out hu hwm HB.out.size;clear hn hu)
  | (clear tk3;go_at_call 10;refine (add_k HN.out (by omega) ⟨#[97]⟩ (by decide) (HM.out.below HB.out) (1) (1) 101 pA2 kA3 kP3).mono ?_;rintro e wa3 ⟨he,hn,hu⟩;subst he;replace HN:Hid (NmAt wa3 nb m 5 pA2):=hn;replace HB:Hid (Below w.heap.size w wa3):=aM HB.out hu hwm HB.out.size;clear hn hu)
  | (clear tk4;go_at_call 10;refine (add_k HN.out (by omega) ⟨#[]⟩ (by decide) (HM.out.below HB.out) (1) (1) 110 pA2 kA4 kP4).mono ?_;rintro e wa4 ⟨he,hn,hu⟩;subst he;replace HN:Hid (NmAt wa4 nb m 6 pA2):=hn;replace HB:Hid (Below w.heap.size w wa4):=aM HB.out hu hwm HB.out.size;clear hn hu)
  | (go_at_call 10;refine (add_k HN.out (by omega) ⟨#[98]⟩ (by decide) (HM.out.below HB.out) (-1) (0) 12 pA2 kA5 kP5).mono ?_;rintro e wa5 ⟨he,hn,hu⟩;subst he;replace HN:Hid (NmAt wa5 nb m 7 pA2):=hn;replace HB:Hid (Below w.heap.size w wa5):=aM HB.out hu hwm HB.out.size;clear hn hu)
  | (clear tk9;go_at_call 15;have hm:=Mem.start wa5;refine (get_k HN.out ⟨#[97]⟩ (by decide) (HM.out.below HB.out) _ _ kG1 kGB1).mono ?_;rintro e w' ⟨he,hb⟩;subst he;replace hm:=hm.call hb;clear hb)
  | ((with_reducible refine aa (some 2) (.alloc 40) ?_);refine ae _ aU hm ?_;clear hm;intro w2 g2 hm)
  | ((with_reducible refine aa none (.store 40 (.tmp 2) (.tmp 45)) ?_);refine ag 0 (spc [⟨#[97]⟩] 5 6) hm rfl rfl rfl 5 an rfl rfl (aY _ _ _) ?_;clear hm;intro w3 hm)
  | (go_at_call 15;refine (get_k (HN.out.below hm.below) ⟨#[]⟩ (by decide) ((HM.out.below HB.out).below hm.below) _ _ kG2 kGB2).mono ?_;rintro e w' ⟨he,hb⟩;subst he;replace hm:=hm.call hb;clear hb)
  | ((with_reducible refine aa (some 4) (.alloc 40) ?_);refine ae _ aU hm ?_;clear hm;intro w4 g4 hm)
  | ((with_reducible refine aa none (.store 40 (.tmp 4) (.tmp 50)) ?_);refine ag 0 (spc [] 100 0) hm rfl rfl rfl 5 an rfl rfl (aY _ _ _) ?_;clear hm;intro w5 hm)
  | (go_at_call 19;refine (kids_k (HN.out.below hm.below) (by omega) ⟨#[97]⟩ _ kKids).mono ?_;rintro e w6 ⟨v,he,hs,hb⟩;obtain ⟨bk,ck,hv,hk1,hk2,hk3⟩:=hs.two rfl 0 rfl;subst hv;subst he;have HK:Hid (bk<w6.heap.size∧w6.cell? ⟨bk,0,none⟩=some (.string ⟨#[98]⟩)):=⟨hk2,hk3⟩;replace hm:=hm.call hb;have hz6:=hm.size;clear hb hs hk1 hk2 hk3)
  | (go_at_call 12;refine (rem_k (HN.out.below hm.below) (by omega) (by rw [kLen2];omega) ⟨#[97]⟩ (by decide) ((HM.out.below HB.out).below hm.below) 0 pA0 _ kR kRP kRL).mono ?_;rintro e w7 ⟨v,he,hs,hn,hu⟩;obtain ⟨br,cr,hv,hk1,hk2,hk3⟩:=hs.two rfl 1 rfl;subst hv;subst he;have HR:Hid (br<w7.heap.size∧w7.cell? ⟨br,1,none⟩=some (.string ⟨#[97,47,98]⟩)):=⟨hk2,hk3⟩;obtain ⟨es,cc,hes⟩:=(HN.out.below hm.below).isMap;have hbm:bk≠m:=(fun h=>by have h9:=HK.out.2;rw [h,dK hes] at h9;cases h9);replace HK:Hid (bk<w7.heap.size∧w7.cell? ⟨bk,0,none⟩=some (.string ⟨#[98]⟩)):=⟨Nat.lt_of_lt_of_le HK.out.1 hu.size,(hu.cell (p:=⟨bk,0,none⟩) HK.out.1 hbm).trans HK.out.2⟩;replace hm:=(hm.weak (S:=[m])).updO hes (Or.inl (by simp)) hu;replace HN:Hid (NmAt w7 nb m 7 pA0):=hn;clear hn hu hs hk1 hk2 hk3 hes hbm es cc)
  | ((with_reducible refine av (some 62) (.load 3 (.tmp 61)) (some (1,true)) ?_);go_must (refine ab (.int .i64 5) rfl (ad 1 (.int .i64 5) (hm.get 1 rfl) rfl bn (by first|rfl|exact (congrArg (fun z=>some (Value.string z)) tx_a))) ?_))
  | ((with_reducible refine av (some 67) (.load 9 (.tmp 66)) (some (6,true)) ?_);go_must (refine ab (.string ⟨#[97]⟩) rfl (ad 0 (.string ⟨#[97]⟩) (hm.get 1 rfl) rfl ak (by first|rfl|exact (congrArg (fun z=>some (Value.string z)) tx_a))) ?_))
  | ((with_reducible refine av (some 68) (.binOp .eql 9 (.tmp 67) (.const (.string {data:=#[97]})) 9) (some (6,true)) ?_);go_must (refine ab (.bool true) rfl (aE ⟨#[97]⟩ ⟨#[97]⟩ true rfl rfl (bl _)) ?_))
  | ((with_reducible refine av (some 75) (.load 3 (.tmp 74)) (some (14,true)) ?_);go_must (refine ab (.int .i64 0) rfl (ad 2 (.int .i64 0) (hm.get 0 rfl) rfl bn (by first|rfl|exact (congrArg (fun z=>some (Value.string z)) tx_a))) ?_))
  | ((with_reducible refine av (some 85) (.indexAddr 33 (.tmp 84) (.const (.int .i64 0))) (some (24,true)) ?_);go_must (refine ab (.pointer (some ⟨bk,0,none⟩)) rfl (dg 0 rfl rfl rfl (by omega)) ?_))
  | ((with_reducible refine av (some 86) (.load 9 (.tmp 85)) (some (24,true)) ?_);go_must (refine ab (.string ⟨#[98]⟩) rfl (ao (.string ⟨#[98]⟩) HK.out.2 rfl ak) ?_))
  | ((with_reducible refine av (some 87) (.binOp .eql 9 (.tmp 86) (.const (.string {data:=#[98]})) 9) (some (24,true)) ?_);go_must (refine ab (.bool true) rfl (aE ⟨#[98]⟩ ⟨#[98]⟩ true rfl rfl (bl _)) ?_))
  | ((with_reducible refine av (some 100) (.indexAddr 33 (.tmp 99) (.const (.int .i64 1))) (some (39,true)) ?_);go_must (refine ab (.pointer (some ⟨br,1,none⟩)) rfl (dg 1 rfl rfl rfl (by omega)) ?_))
  | ((with_reducible refine av (some 101) (.load 9 (.tmp 100)) (some (39,true)) ?_);go_must (refine ab (.string ⟨#[97,47,98]⟩) rfl (ao (.string ⟨#[97,47,98]⟩) HR.out.2 rfl ak) ?_))
  | ((with_reducible refine av (some 102) (.binOp .eql 9 (.tmp 101) (.const (.string {data:=#[97,47,98]})) 9) (some (39,true)) ?_);go_must (refine ab (.bool true) rfl (aE ⟨#[97,47,98]⟩ ⟨#[97,47,98]⟩ true rfl rfl (bl _)) ?_))
  | (go_at_call 18;refine (all_n HN.out (by omega) (by rw [kLen0];omega) (MaxL.upd0 (HM.out.below HB.out) hm0 hm.toUpd)).mono ?_;rintro e w8 ⟨v,he,⟨pz,cz,hv,hz⟩,hb⟩;subst hv;subst he;rw [kLen0];replace hm:=hm.call hb;clear hb hz))
 go_ret
 exact ⟨rfl,aM HB.out hm.toUpd hwm HB.out.size⟩
open Go Go.RowKit Go.Maps
theorem get_of_mem {p:Nms} (hp:NmOk p) {x:Sp} (hx:x∈p) {s:ByteArray} (hP:isP (bs s)=true) (hs:segsB s=x.1):getV p s=spv x∧getB p s=true:=by
 have h1:getB p s=true:=by unfold getB;rw [hP,Bool.true_and,hs];exact aL.2 ⟨x,hx,rfl⟩
 refine ⟨?_,h1⟩
 unfold getV
 unfold getB at h1
 rw [if_pos h1,hs,lookV_some (hp.get hx)]
theorem kids_new (a b:Int) (s:ByteArray):kidsN (newN a b) s=[]:=by simp [kidsN,newN]
open Go Go.RowKit Go.Maps
structure TrOk (p:Nms):Prop where
 ok:NmOk p
 root:∃x t,p=x::t∧x.1=[]
 par:∀x∈p,x.1≠[]→hasN p x.1.dropLast=true
 kids:∀s,(kidsN p s).length≤2
theorem TrOk.new (b e:Int):TrOk (newN b e) :=
 ⟨NmOk.new b e,⟨_,[],rfl,rfl⟩,fun x hx h0=>absurd (by rw [List.mem_singleton.1 hx]) h0,fun s=>by rw [kids_new];simp⟩
theorem d5 (p:Nms) (x:Sp):(addN p x).Perm (x::p):=by
 unfold addN
 refine (List.perm_middle).trans (List.Perm.cons x ?_)
 exact List.filter_append_perm (fun y:Sp=>decide (cd y.1<cd x.1)) p
theorem kids_add (p:Nms) (x:Sp) (s:ByteArray):(kidsN (addN p x) s).length=(kidsN p s).length+if tx x.1.dropLast=s∧x.1≠[] then 1 else 0:=by
 unfold kidsN
 rw [List.length_map,List.length_map,((d5 p x).filter _).length_eq,List.filter_cons]
 by_cases h:tx x.1.dropLast=s∧x.1≠[]
 ·rw [if_pos h,if_pos (by rw [decide_eq_true h.1,decide_eq_false h.2];rfl),List.length_cons]
 ·rw [if_neg h,if_neg (fun h2=>h (by
   rw [Bool.and_eq_true,decide_eq_true_eq,Bool.not_eq_true',decide_eq_false_iff_not] at h2
   exact h2))]
  rfl
theorem addE_ok {p:Nms} {s:ByteArray} {b e:Int} (h:addE p s b e=0):isP (bs s)=true∧segsB s≠[]∧limOk b e=true∧hasN p (segsB s)=false∧hasN p (segsB s).dropLast=true∧(kidsN p (tx (segsB s).dropLast)).length<2:=by
 unfold addE at h
 split at h
 ·omega
 ·next h1 =>
  split at h
  ·omega
  ·next h2 =>
   split at h
   ·omega
   ·next h3 =>
    split at h
    ·omega
    ·next h4 =>
     split at h
     ·omega
     ·next h5 =>
      split at h
      ·omega
      ·next h6=>exact ⟨by simpa using h1,h2,by simpa using h3,by simpa using h4,by simpa using h5,by omega⟩
theorem cd_nil:cd []=[]:=rfl
theorem cd_pos {ks:List ByteArray} (h0:ks≠[]):cd []<cd ks:=by
 rw [cd_nil,cd_last h0]
 cases hc:codeOf (ks.dropLast.map bs)++(bs (lastS ks)++[0]) with
 | nil=>exact absurd hc (by simp)
 | cons a l=>exact List.nil_lt_cons a l
theorem TrOk.add {p:Nms} (h:TrOk p) {s:ByteArray} {b e:Int} (he:addE p s b e=0):TrOk (addN p (segsB s,b,e,0,0,0,0)):=by
 obtain ⟨h1,h2,h3,h4,h5,h6⟩:=addE_ok he
 have hmono:∀ks,hasN p ks=true→hasN (addN p (segsB s,b,e,0,0,0,0)) ks=true:=fun ks hk=>by
  obtain ⟨y,hy,e⟩:=aL.1 hk
  exact aL.2 ⟨y,ct.2 (Or.inr hy),e⟩
 refine ⟨h.ok.add (x:=(segsB s,b,e,0,0,0,0)) (aS s) h4,?_,fun x hx h0=>?_,fun q=>?_⟩
 ·obtain ⟨r,t,hp,hr⟩:=h.root
  unfold addN
  rw [hp,List.filter_cons,if_pos (by rw [hr];exact decide_eq_true (cd_pos h2))]
  exact ⟨r,_,rfl,hr⟩
 ·rcases ct.1 hx with rfl|hx
  ·exact hmono _ h5
  ·exact hmono _ (h.par x hx h0)
 ·rw [kids_add]
  have:=h.kids q
  by_cases hq:tx (segsB s).dropLast=q∧segsB s≠[]
  ·rw [if_pos hq]
   rw [hq.1] at h6
   omega
  ·rw [if_neg hq]
   omega
theorem TrOk.addIf {p:Nms} (h:TrOk p) (s:ByteArray) (b e:Int):TrOk (if addE p s b e=0 then addN p (segsB s,b,e,0,0,0,0) else p):=by
 split
 ·next he=>exact h.add he
 ·exact h
theorem remE_ok {p:Nms} {s:ByteArray} (h:remE p s=0):isP (bs s)=true∧segsB s≠[]∧hasN p (segsB s)=true:=by
 unfold remE at h
 split at h
 ·omega
 ·next h1 =>
  split at h
  ·omega
  ·next h2 =>
   split at h
   ·omega
   ·next h3=>exact ⟨by simpa using h1,h2,by simpa using h3⟩
theorem TrOk.del {p:Nms} (h:TrOk p) {ks:List ByteArray} (h0:ks≠[]):TrOk (delN p ks):=by
 refine ⟨h.ok.del ks,?_,fun x hx hx0=>?_,fun s=>?_⟩
 ·obtain ⟨r,t,hp,hr⟩:=h.root
  unfold delN
  rw [hp,List.filter_cons,if_pos (by
   rw [Bool.not_eq_true',hr]
   cases hu:undB [] ks with
   | false=>rfl
   | true =>
    have:=dN.1 hu
    exact absurd (List.prefix_nil.1 this) h0)]
  exact ⟨r,_,rfl,hr⟩
 ·obtain ⟨x1,x2⟩:=List.mem_filter.1 hx
  obtain ⟨y,hy,e⟩:=aL.1 (h.par x x1 hx0)
  refine aL.2 ⟨y,List.mem_filter.2 ⟨hy,?_⟩,e⟩
  rw [Bool.not_eq_true'] at x2 ⊢
  cases hu:undB y.1 ks with
  | false=>rfl
  | true =>
   rw [e] at hu
   have h1:=dN.1 hu
   have h2:undB x.1 ks=true:=dN.2 (h1.trans (List.dropLast_prefix x.1))
   rw [h2] at x2;cases x2
 ·refine Nat.le_trans ?_ (h.kids s)
  unfold kidsN delN
  rw [List.length_map,List.length_map]
  exact (List.Sublist.filter _ List.filter_sublist).length_le
theorem TrOk.delIf {p:Nms} (h:TrOk p) (s:ByteArray):TrOk (if remE p s=0 then delN p (segsB s) else p):=by
 split
 ·next he=>exact h.del (remE_ok he).2.1
 ·exact h
theorem add_len (p:Nms) (x:Sp):(addN p x).length=p.length+1:=by rw [(d5 p x).length_eq,List.length_cons]
theorem addIf_len (p:Nms) (s:ByteArray) (b e:Int):(if addE p s b e=0 then addN p (segsB s,b,e,0,0,0,0) else p).length≤p.length+1:=by
 split
 ·exact Nat.le_of_eq (add_len p _)
 ·omega
theorem delIf_len (p:Nms) (s:ByteArray):(if remE p s=0 then delN p (segsB s) else p).length≤p.length:=by
 split
 ·exact List.length_filter_le _ _
 ·omega
theorem TrOk.at {p:Nms} (h:TrOk p) {k:Nat} {x:Sp} (hx:p[k+1]?=some x):x.1≠[]:=by
 obtain ⟨r,t,hp,hr⟩:=h.root
 have hs:=h.ok.srt
 rw [hp] at hs hx
 rw [List.getElem?_cons_succ] at hx
 have:=(List.pairwise_cons.1 hs).1 x (List.mem_of_getElem? hx)
 intro e
 rw [hr,e] at this
 exact List.lt_irrefl _ this
theorem TrOk.next {p:Nms} (h:TrOk p) {k:Nat} {x y:Sp} (hx:p[k]?=some x) (hy:p[k+1]?=some y):cd x.1<cd y.1:=by
 have hk:k+1<p.length:=(List.getElem?_eq_some_iff.1 hy).1
 have h1:=List.pairwise_iff_getElem.1 h.ok.srt k (k+1) (by omega) hk (by omega)
 have e1:p[k]=x:=(List.getElem?_eq_some_iff.1 hx).2
 have e2:p[k+1]=y:=(List.getElem?_eq_some_iff.1 hy).2
 rwa [e1,e2] at h1
theorem TrOk.pos {p:Nms} (h:TrOk p):0<p.length:=by
 obtain ⟨r,t,hp,_⟩:=h.root
 rw [hp];simp
theorem par_tx {ks:List ByteArray} (h:PlOk ks) (h0:ks≠[]):parOk (bs (tx ks))=true∧mkS (parOf (bs (tx ks)))=tx ks.dropLast:=by
 have hs:segsOf (bs (tx ks))=ks.map bs:=by rw [bs_tx,(dh h.to).2]
 obtain ⟨h1,h2⟩:=cu (dd h) (by rw [hs];simpa using h0)
 refine ⟨h1,?_⟩
 rw [h2,hs,←List.map_dropLast]
 rfl
open Go Go.RowKit Go.Maps
theorem ay:∀w,(isAgg 45).run Tryz.prog w=.ok false w:=by intro w;simp [go_sem]
theorem sz_sps:(Tryz.prog.info? 45).map (·.size)=some 1:=by kernel_rfl
theorem built_rn (p:Option Addr) (n c:Nat):Tryz.prog.built 49 [(0,.slice p n c)]=some [Value.slice p n c].toArray:=by kernel_rfl
theorem row_inj {w:World} {g:Nat} {l l':List Value} {t t':TypeId} (h:Row w g l t) (h2:Row w g l' t'):t=t':=by
 unfold Row at h h2
 rw [h] at h2
 simp only [Option.some.injEq,Obj.cells.injEq] at h2
 exact h2.2.1
def RfAt (B:Nat) (w:World) (rb:Nat) (p:Nms):Prop :=
 ∃b cap tl,B≤b∧Row w rb [.slice (some ⟨b,0,none⟩) p.length cap] 49∧p.length≤cap∧Row w b (p.flatMap spv++tl) 40
theorem row_flat {w:World} {b:Nat} {p:Nms} {tl:List Value} {t:TypeId} (h:Row w b (p.flatMap spv++tl) t):∀i x,p[i]?=some x→∀j u,(spv x)[j]?=some u→b<w.heap.size∧w.cell? ⟨b,i * 5+j,none⟩=some u:=fun i x hx j u hu=>by
 have h1:=flat_sp hx j u hu
 refine ⟨Row.lt h,?_⟩
 rw [h.cell,List.getElem?_append_left (List.getElem?_eq_some_iff.1 h1).1]
 exact h1
theorem RfAt.cells {B:Nat} {w:World} {rb:Nat} {p:Nms} (h:RfAt B w rb p):∃b cap,Row w rb [.slice (some ⟨b,0,none⟩) p.length cap] 49∧p.length≤cap∧∀i x,p[i]?=some x→∀j u,(spv x)[j]?=some u→b<w.heap.size∧w.cell? ⟨b,i * 5+j,none⟩=some u:=by
 obtain ⟨b,cap,tl,_,h1,h2,h3⟩:=h
 exact ⟨b,cap,h1,h2,row_flat h3⟩
theorem RfAt.below {B:Nat} {w w':World} {rb:Nat} {p:Nms} (h:RfAt B w rb p) (hb:Below w.heap.size w w'):RfAt B w' rb p:=by
 obtain ⟨b,cap,tl,h0,h1,h2,h3⟩:=h
 exact ⟨b,cap,tl,h0,Row.bel h1 hb,h2,Row.bel h3 hb⟩
theorem RfAt.base {B B':Nat} {w:World} {rb:Nat} {p:Nms} (h:RfAt B w rb p) (hb:B'≤B):RfAt B' w rb p:=by
 obtain ⟨b,cap,tl,h0,h1⟩:=h
 exact ⟨b,cap,tl,Nat.le_trans hb h0,h1⟩
theorem RfAt.updO {B:Nat} {w w':World} {rb m c:Nat} {es:Array MapEntry} {p:Nms} (h:RfAt B w rb p) (hes:w.heap[m]?=some (.map es c)) (hu:Upd m w w'):RfAt B w' rb p:=by
 obtain ⟨b,cap,tl,h0,h1,h2,h3⟩:=h
 exact ⟨b,cap,tl,h0,hu.row h1 (aJ h1 hes),h2,hu.row h3 (aJ h3 hes)⟩
theorem NmAt.updR {B:Nat} {w w':World} {nb m c rb:Nat} {p q:Nms} (h:NmAt w nb m c p) (hr:RfAt B w rb q) (hu:Upd rb w w'):NmAt w' nb m c p:=by
 obtain ⟨b,cap,tl,_,h1,_⟩:=hr
 obtain ⟨es,cl,hes⟩:=h.isMap
 refine h.updO hu (fun e=>?_) (aJ h1 hes)
 subst e
 have:=row_inj h1 h.row
 exact absurd this (by decide)
theorem RfAt.lt {B:Nat} {w:World} {rb:Nat} {p:Nms} (h:RfAt B w rb p):rb<w.heap.size:=by
 obtain ⟨b,cap,tl,_,h1,_⟩:=h
 exact Row.lt h1
def SpO (w:World) (v:Value) (l:Nms):Prop :=
 ∃p cap,v=.slice p l.length cap∧(0<l.length→∃b o,p=some ⟨b,o,none⟩∧∀i x,l[i]?=some x→∀j u,(spv x)[j]?=some u→w.cell? ⟨b,o+(i * 5+j),none⟩=some u)
theorem flat_at {l:Nms}:∀ {k:Nat} {u:Value},(l.flatMap spv)[k]?=some u→∃i x j,l[i]?=some x∧(spv x)[j]?=some u∧k=i * 5+j:=by
 induction l with
 | nil=>intro k u h;simp at h
 | cons y l ih =>
  intro k u h
  rw [List.flatMap_cons] at h
  have h5:(spv y).length=5:=rfl
  rcases Nat.lt_or_ge k 5 with hk|hk
  ·rw [List.getElem?_append_left (by omega)] at h
   exact ⟨0,y,k,rfl,h,by omega⟩
  ·rw [List.getElem?_append_right (by omega),h5] at h
   obtain ⟨i,x,j,h1,h2,h3⟩:=ih h
   exact ⟨i+1,x,j,by simpa using h1,h2,by omega⟩
theorem flat_len (l:Nms):(l.flatMap spv).length=l.length * 5:=by
 induction l with
 | nil=>rfl
 | cons y l ih=>rw [List.flatMap_cons,List.length_append,ih,List.length_cons,show (spv y).length=5 from rfl];omega
theorem flat_one (l:Nms):∀u∈l.flatMap spv,u.oneCell'=true:=by
 intro u hu
 obtain ⟨x,_,h⟩:=List.mem_flatMap.1 hu
 exact b7 x u h
theorem own_formS {w:World} {B n:Nat} {v:Value} {cs:List Value} (h:w.ownsRow B 40 5 v n cs):∃p c,v=.slice p n c:=by
 rcases h.2 with ⟨rfl,rfl⟩|⟨g,cap,_,rfl,_⟩
 ·exact ⟨_,_,rfl⟩
 ·exact ⟨_,_,rfl⟩
theorem own_atS {w:World} {B:Nat} {v:Value} {l:Nms} {N:Nat} (h:w.ownsRow B 40 5 v N (l.flatMap spv)) (hN:N=l.length) (h0:0<l.length) :
  ∃b cap tl,v=.slice (some ⟨b,0,none⟩) l.length cap∧l.length≤cap∧B≤b∧Row w b (l.flatMap spv++tl) 40:=by
 obtain ⟨_,h2⟩:=h
 rcases h2 with ⟨rfl,h3⟩|⟨g,cap,cur,rfl,hb,hg,hn,_,_,ht⟩
 ·omega
 ·refine ⟨g,cap,cur.toList.drop (N * 5),by rw [hN],by omega,hb,?_⟩
  rw [←ht,List.take_append_drop]
  unfold Row
  rw [hg]
def hiS (p:Option Addr) (cap:Nat):Option Addr:=if cap=0 then p else p.map (·.add 0)
def loS (p:Option Addr) (cap k:Nat):Option Addr:=if cap=k then p else p.map (·.add (k * 5))
theorem hiS_is (b cap:Nat):hiS (some ⟨b,0,none⟩) cap=some ⟨b,0,none⟩:=by unfold hiS;split<;>simp [aZ]
theorem loS_is {b cap k:Nat} (h:k<cap):loS (some ⟨b,0,none⟩) cap k=some ⟨b,k * 5,none⟩:=by unfold loS;rw [if_neg (by omega)];simp [aZ]
section
variable {P:Program} {kT:TypeId} {ops:Array Oper} {rest:List Oper} {a:Act} {w w0 w1:World} {Q:Exit→Act→World→Prop} {dst:Option Tmp} {typ:TypeId} {pos:String} {aft:Array Edge} {gd:Option (Nat×Bool)} {S:List Nat} {rows:List (Nat×List Value×TypeId)}
theorem bV {t e:TypeId} {x ix:Operand} {b o n cap:Nat} (K i:Nat) {ii:Int} (hu:P.underlying t=some (.slice e)) (hs:(P.info? e).map (·.size)=some K) (hx:a.eval x=.slice (some ⟨b,o,none⟩) n cap) (hix:a.eval ix=.int .i64 ii) (hii:ii=(i:Int)) (hi:i<n) :
  (execOp a.eval {dst:=dst,op:=.indexAddr t x ix,type:=typ,pos:=pos,after:=aft,guard:=gd}).run P w=.ok (.value (.pointer (some ⟨b,o+i * K,none⟩))) w:=by
 subst hii
 have h0:(0:Int)≤(i:Int)∧(i:Int)<(n:Int):=by omega
 have hsz:(sizeOf e).run P w=.ok K w:=by
  cases hq:P.info? e with
  | none=>simp [hq] at hs
  | some q =>
   have hs1:q.size=K:=by simpa [hq] using hs
   simp [sizeOf,typeInfo,hq,hs1]
 unfold execOp
 simp [hx,hix,Instr.indexAt,asIntOf,run_underlying hu,hsz,h0,aZ]
 omega
end
section
variable {a:Act} {w:World} {dst:Option Tmp} {typ:TypeId} {pos:String} {aft:Array Edge} {gd:Option (Nat×Bool)}
theorem exec_hiS {x hi:Operand} {p:Option Addr} {len cap:Nat} (m:Nat) {ih:Int} (hm:m≤cap) (hx:a.eval x=.slice p len cap) (hhi:a.eval hi=.int .i64 ih) (hih:ih=(m:Int)) :
  (execOp a.eval {dst:=dst,op:=.slice 45 x none (some hi) none,type:=typ,pos:=pos,after:=aft,guard:=gd}).run Tryz.prog w=.ok (.value (.slice (hiS p cap) m cap)) w:=by
 subst hih
 cases hq:Tryz.prog.info? 40 with
 | none=>have:=an;rw [hq] at this;cases this
 | some q =>
  have hs1:q.size=5:=by have:=an;rw [hq] at this;simpa using this
  have bnd:∀code,(Instr.sliceBound (.int .i64 (m:Int)) cap code).run Tryz.prog w=.ok m w:=by
   intro code
   rw [run_sliceBound (P:=Tryz.prog) w .i64 (m:Int) cap code (by omega) (by omega)]
   simp
  have hb:(Instr.sliceBounds true len cap none (some (.int .i64 (m:Int))) none).run Tryz.prog w=.ok (0,m,cap) w:=by
   simp [Instr.sliceBounds,bnd]
  have hr:(Instr.sliceAt 45 (.slice p len cap) none (some (.int .i64 (m:Int))) none).run Tryz.prog w=.ok (.slice (hiS p cap) m cap) w:=by
   simp [Instr.sliceAt,Instr.slice,run_underlying aH,hb,hiS]
  unfold execOp
  simp only [hx,hhi,Option.map_some,Option.map_none,hr,Sem.run_bind,Sem.run_pure,Result.andThen_ok]
theorem exec_loS {x lo:Operand} {p:Option Addr} {len cap:Nat} (l:Nat) {il:Int} (hl:l≤len) (hx:a.eval x=.slice p len cap) (hlo:a.eval lo=.int .i64 il) (hil:il=(l:Int)) :
  (execOp a.eval {dst:=dst,op:=.slice 45 x (some lo) none none,type:=typ,pos:=pos,after:=aft,guard:=gd}).run Tryz.prog w=.ok (.value (.slice (loS p cap l) (len - l) (cap - l))) w:=by
 subst hil
 cases hq:Tryz.prog.info? 40 with
 | none=>have:=an;rw [hq] at this;cases this
 | some q =>
  have hs1:q.size=5:=by have:=an;rw [hq] at this;simpa using this
  have hb:(Instr.sliceBounds true len cap (some (.int .i64 (l:Int))) none none).run Tryz.prog w=.ok (l,len,cap) w:=by
   have:=run_sliceBound (P:=Tryz.prog) w .i64 (l:Int) len .sliceB (by omega) (by omega)
   simp [Instr.sliceBounds,this]
  have hr:(Instr.sliceAt 45 (.slice p len cap) (some (.int .i64 (l:Int))) none none).run Tryz.prog w=.ok (.slice (loS p cap l) (len - l) (cap - l)) w:=by
   simp [Instr.sliceAt,Instr.slice,run_underlying aH,hb,loS,Nat.mul_comm]
  unfold execOp
  simp only [hx,hlo,Option.map_some,Option.map_none,hr,Sem.run_bind,Sem.run_pure,Result.andThen_ok]
end
section
variable {ops:Array Oper} {rest:List Oper} {a:Act} {w:World} {Q:Exit→Act→World→Prop} {dst:Option Tmp} {typ:TypeId} {pos:String} {aft:Array Edge} {gd:Option (Nat×Bool)}
theorem cE {s x:Operand} (hw:Region.wanted {dst:=dst,op:=.call {callee:=.builtin .append,args:=#[s,x],argTypes:=#[45,45]},type:=typ,pos:=pos,after:=aft,guard:=gd} (yielded ops a.tmps)=true)
  {base n m c N:Nat} {v:Value} {ps:Option Addr} {F ls:Nms} (out:Nms) (hown:w.ownsRow base 40 5 v n (F.flatMap spv)) (hbase:base≤w.heap.size) (hs:a.eval s=v) (hx:a.eval x=.slice ps m c) (hv:SpO w (.slice ps m c) ls) (hml:ls.length=m) (hN:n+m=N) (h1k:N≤100000) (ho:F++ls=out)
  (h:∀p' c' w',w'.ownsRow base 40 5 (.slice p' N c') N (out.flatMap spv)→w.grownBy w' v.ownBlock→wpList Tryz.prog ops Q rest (a.put dst (.slice p' N c')) w') :
  wpList Tryz.prog ops Q ({dst:=dst,op:=.call {callee:=.builtin .append,args:=#[s,x],argTypes:=#[45,45]},type:=typ,pos:=pos,after:=aft,guard:=gd}::rest) a w:=by
 subst ho hN
 have hi:=cQ
 have key:∃v' w',(Builtin.append_ #[45,45] typ #[v,.slice ps m c]).run Tryz.prog w=.ok v' w'∧w'.ownsRow base 40 5 v' (n+m) ((F++ls).flatMap spv)∧w.grownBy w' v.ownBlock:=by
  cases hq:Tryz.prog.info? 40 with
  | none=>simp [hq] at hi
  | some i =>
   simp only [hq,Option.map_some,Option.some.injEq,Prod.mk.injEq] at hi
   obtain ⟨hz1,h2,h3⟩:=hi
   rcases Nat.eq_zero_or_pos m with h0|h0
   ·subst h0
    have hl:=List.length_eq_zero_iff.1 hml
    subst hl
    refine ⟨v,w,?_,by rw [List.append_nil];exact hown,⟨rfl,rfl,rfl,Nat.le_refl _,fun _ _ _=>rfl⟩⟩
    have hld:∀a:Addr,(loadCells a 0).run Tryz.prog w=.ok #[] w:=fun a=>rfl
    rcases hown.2 with ⟨rfl,_⟩|⟨g,cap,cur,rfl,_,_,hn,_⟩
    ·cases ps<;>simp [Builtin.append_,run_underlying aH,sizeOf,typeInfo,hq,Builtin.lenOf,Builtin.firstCells,hld]
    ·cases ps<;>simp [Builtin.append_,run_underlying aH,sizeOf,typeInfo,hq,Builtin.lenOf,Builtin.firstCells,hld,hn,storeCells]
   ·obtain ⟨p',c',he,hcc⟩:=hv
    cases he
    obtain ⟨b,o,rfl,hseg⟩:=hcc h0
    obtain ⟨v',w',hrun,ho,hg,_,hb⟩:=run_append_own_at (P:=Tryz.prog) w base 45 typ 40 i (.agg spZ.toArray) 5 48 aH hq hz1 h2 h3 rfl (by omega) v n (F.flatMap spv) hown ⟨b,o,none⟩ ls.length c (ls.flatMap spv) (flat_len ls) (fun j u hu=>by
     rw [aZ]
     obtain ⟨k,x,j2,e1,e2,rfl⟩:=flat_at hu
     exact hseg k x e1 j2 u e2) (flat_one ls) (by unfold maxLen;omega) (by omega) hbase
    exact ⟨v',w',hrun,by rw [List.flatMap_append];exact ho,hg⟩
 obtain ⟨v',w',hrun,ho,hg⟩:=key
 obtain ⟨p',c',rfl⟩:=own_formS ho
 refine wpList_step fun K hK=>?_
 rw [if_pos hw]
 have hh:=hK _ _ (h p' c' w' ho hg)
 unfold Oper.wp execOp
 simp only [resolve,invoke,builtin,Sem.run_bind,Sem.run_pure,Result.andThen_ok,List.map_toArray,List.map_cons,List.map_nil,hs,hx,hrun]
 exact hh
end
def atN (p:Nms) (s:ByteArray):Int:=match p.findIdx? (fun x=>decide (tx x.1=s)) with|some i=>(i:Int)|none => -1
theorem atN_yes {p:Nms} {s:ByteArray} {i:Nat} {x:Sp} (hx:p[i]?=some x) (he:tx x.1=s) (hn:∀k y,k<i→p[k]?=some y→tx y.1≠s):atN p s=(i:Int):=by
 obtain ⟨hi,e⟩:=List.getElem?_eq_some_iff.1 hx
 have h:p.findIdx? (fun x=>decide (tx x.1=s))=some i:=by
  rw [List.findIdx?_eq_some_iff_getElem]
  refine ⟨hi,by rw [e];simpa using he,fun j hj=>?_⟩
  have h2:=hn j p[j] hj (by simp)
  simpa using h2
 unfold atN
 rw [h]
theorem atN_no {p:Nms} {s:ByteArray} (hn:∀y∈p,tx y.1≠s):atN p s = -1:=by
 have h:p.findIdx? (fun x=>decide (tx x.1=s))=none:=by
  rw [List.findIdx?_eq_none_iff]
  intro y hy
  simpa using hn y hy
 unfold atN
 rw [h]
theorem cA {p:Nms} (hp:NmOk p) (s:ByteArray):(getB p s=false∧atN p s = -1)∨(getB p s=true∧∃(i:Nat) (x:Sp),p[i]?=some x∧atN p s=(i:Int)∧getV p s=spv x):=by
 by_cases h:∃x∈p,tx x.1=s
 ·right
  obtain ⟨x,hx,e⟩:=h
  have ok:=hp.ok x hx
  have hP:isP (bs s)=true:=by rw [←e];exact dd ok
  have hS:segsB s=x.1:=by rw [←e];exact b6 ok
  obtain ⟨h1,h2⟩:=get_of_mem hp hx hP hS
  refine ⟨h2,?_⟩
  obtain ⟨i,hi,e2⟩:=List.mem_iff_getElem.1 hx
  refine ⟨i,x,by rw [←e2];simp [hi],atN_yes (x:=x) (by rw [←e2];simp [hi]) e (fun k y hk hy he2=>?_),h1⟩
  obtain ⟨hk2,e3⟩:=List.getElem?_eq_some_iff.1 hy
  have:=List.pairwise_iff_getElem.1 hp.srt k i hk2 hi hk
  rw [e3,e2] at this
  have:x.1=y.1:=tx_inj ok (hp.ok y (List.mem_of_getElem? hy)) (e.trans he2.symm)
  rename_i h9
  rw [this] at h9
  exact List.lt_irrefl _ h9
 ·left
  have hn:∀y∈p,tx y.1≠s:=fun y hy he=>h ⟨y,hy,he⟩
  refine ⟨?_,atN_no hn⟩
  cases hb:getB p s with
  | false=>rfl
  | true =>
   unfold getB at hb
   rw [Bool.and_eq_true] at hb
   obtain ⟨y,hy,e⟩:=aL.1 hb.2
   exact absurd (by rw [e];exact tx_segs hb.1) (hn y hy)
theorem cut_srt {p:Nms} (h:p.Pairwise fun x y=>cd x.1<cd y.1) (c:List UInt8):p=(p.filter fun y=>decide (cd y.1<c))++p.filter fun y => !decide (cd y.1<c):=by
 induction p with
 | nil=>rfl
 | cons x p ih =>
  obtain ⟨h1,h2⟩:=List.pairwise_cons.1 h
  by_cases hx:cd x.1<c
  ·rw [List.filter_cons_of_pos (by simpa using hx),List.filter_cons_of_neg (by simpa using hx),List.cons_append,←ih h2]
  ·have e1:(p.filter fun y=>decide (cd y.1<c))=[]:=by
    rw [List.filter_eq_nil_iff]
    intro y hy hc
    exact hx (List.lt_trans (h1 y hy) (by simpa using hc))
   rw [List.filter_cons_of_neg (by simpa using hx),List.filter_cons_of_pos (by simpa using hx),e1,List.nil_append]
   congr 1
   conv=>lhs;rw [ih h2,e1,List.nil_append]
end Go.Proofs.YtabncjcfpkhhnaaGreatDoor
