import Derived.Deep.LoopGhost
import Derived.Test.YtcibhfcjbokdlaaGreatDoorQn22
set_option maxRecDepth 100000
set_option maxHeartbeats 4000000
namespace Go.Proofs.YtcibhfcjbokdlaaGreatDoor
open Go Go.RowKit Classical
theorem all_walk {F:Nat→Prop} (bl:List Tm) (bv:Value) (w:World) (hY:Rdy w) (hbs:SlT F w bv bl) (hlen:bl.length≤maxLen) :
  Calls Tryz.prog 8 #[bv] w fun e w'=>e=.returned (.bool true)∧Below w.heap.size w w':=by
 obtain ⟨pv,cv,rfl,hcv⟩:=hbs.len
 obtain ⟨lv,hlv⟩:∃l,l=bl.length:=⟨_,rfl⟩
 rw [←hlv] at hbs hcv ⊢
 have HB1:Hid (Below w.heap.size w w):=Below.refl _ _
 obtain ⟨w1,hw1⟩:∃w1,w1=w:=⟨_,rfl⟩
 have HY:Hid (Rdy w):=hY
 have HBS:Hid (SlT (fun b=>b<w.heap.size) w (.slice pv lv cv) bl):=hbs.lt
 have HLV:Hid (∀_:Unit,lv=bl.length):=fun _=>hlv
 have HLM:Hid (lv≤maxLen):=by show _≤_;rw [hlv];exact hlen
 have hlv9:lv≤9223372036854775807:=by have:=HLM.out;unfold maxLen at this;omega
 rw [←hw1] at HB1 HY HBS ⊢
 have tkk:Nat:=0
 have tf1:Nat:=0
 clear hY hbs hlen hlv hcv hw1
 have hm:=Mem.start w1
 by_cases hfew:Few bl
 ·have HFW:Hid (Few bl):=hfew
  have HF1:Hid (∀W,Below w1.heap.size w1 W→Calls Tryz.prog 10 #[.slice pv lv cv] W fun e w'=>e=.returned (.bool true)∧Below W.heap.size W w'):=fun W hW=>few_any bl pv lv cv W true (⟨fun _=>HFW.out,fun _=>rfl⟩) (HLV.out ()) HLM.out (HBS.out.below hW)
  clear hfew
  go_enter Tryz.func8,Tryz.ntmps8
  go_wp2_with (first
   | (clear tkk;go_at_call 9;go_must (refine (dH _ (HY.out.below hm.below)).mono ?_);rintro e wk ⟨he,hb⟩;subst he;replace hm:=hm.call hb;clear hb)
   | (clear tf1;go_at_call 10;go_must (refine (HF1.out _ hm.below).mono ?_);rintro e wf ⟨he,hb⟩;subst he;replace hm:=hm.call hb;clear hb)
   | (go_at_call 14;go_must (refine (all_any bl (.slice pv lv cv) _ (HBS.out.below hm.below) (few_web HFW.out) (Nat.le_trans HFW.out.1 (by omega))).mono ?_);rintro e w5 ⟨v5,he,L,hL,hs5,hb5⟩;obtain ⟨p5,c12,hv5,hc5⟩:=hs5.len;obtain ⟨nl,hnl⟩:∃l,l=L.length:=⟨_,rfl⟩;rw [←hnl] at hv5;subst hv5;subst he;replace hm:=hm.call hb5;have HAL:Hid (AllIs bl L):=hL;have HNL:Hid (∀_:Unit,nl=L.length):=(fun _=>hnl);have HSL0:Hid (SlT (fun b=>b<w5.heap.size) w5 (.slice p5 nl c12) L):=hs5.weak (fun b hb=>hb.2);have HB5:Hid (Below w1.heap.size w1 w5):=hm.below;clear hb5 hs5 hc5 hL hnl))
  have hnl4:nl≤380:=by have h9:=all_len HAL.out;have h8:=few_web HFW.out;have h7:=HNL.out ();omega
  have HBSL:Hid (SlT (fun b=>b<w1.heap.size) w5 (.slice pv lv cv) bl):=HBS.out.below HB5.out
  have HBL:Hid (bl.length≤1000):=Nat.le_trans HFW.out.1 (by omega)
  have hlv10:lv≤10:=by rw [HLV.out ()];exact HFW.out.1
  have HIS:Hid (∀x∈L,isT x=true):=fun x hx=>webB_isT bl x ((HAL.out.1 x).1 hx).1
  clear hm HBS
  have hm:=Mem.start w5
  go_loopw [4] (fun vi wr=>∃i:Nat,vi=.int .i64 (i:Int)∧i≤nl∧Hid (Mem w5 [] wr [])) (fun vi _=>nl - (intOf vi).toNat)
  case atStart=>exact ⟨0,rfl,Nat.zero_le _,hm⟩
  case round =>
   clear hm
   obtain ⟨i,rfl,hin,HMM⟩:=hrel
   have hm:=HMM.out
   by_cases hlt:i<nl
   ·have hki:(i:Int)<(nl:Int):=by omega
    obtain ⟨b,o,rfl⟩:=HSL0.out.at (by omega)
    have HSL:=HSL0
    obtain ⟨x,hx⟩:=bc (HNL.out ()) hlt
    obtain ⟨px,mx,cx,ax0,ax1,ax2,ex,hsx⟩:=HSL.out.cells hx
    have HCX:Hid (∀W,Below w5.heap.size w5 W→W.cell? ⟨b,o+i * 3,none⟩=some (.int .i64 x.k)∧W.cell? ⟨b,o+i * 3+1,none⟩=some (.int .i64 x.n)∧W.cell? ⟨b,o+i * 3+2,none⟩=some (.slice px mx cx)):=fun W hW=>⟨(hW.cell (p:=⟨b,_,none⟩) (block_lt_of_cell ax0)).trans ax0,(hW.cell (p:=⟨b,_,none⟩) (block_lt_of_cell ax1)).trans ax1,(hW.cell (p:=⟨b,_,none⟩) (block_lt_of_cell ax2)).trans ax2⟩
    have HXS:Hid (SlT (fun b=>b<w5.heap.size) w5 (.slice px mx cx) x.l):=hsx
    have HIx:Hid (isT x=true):=HIS.out x (List.mem_of_getElem? hx)
    have HKX:Hid (decide (Kn bl x)=true):=decide_eq_true ⟨HIx.out,((HAL.out.1 x).1 (List.mem_of_getElem? hx)).2⟩
    have HWEB:Hid ((webW x (webWs (bl.filter isT) [])).length≤380):=by
     have h1:=few_sum HFW.out.2
     have h2:=Nat.mul_le_mul_right 20 HFW.out.1
     have h3:=(bj.1 HIx.out).1
     exact web_le (by omega)
    have HLT:Hid (i<nl):=hlt
    obtain ⟨Tx,hTx⟩:∃X,X=mkS (txt x):=⟨_,rfl⟩
    have HTx:Hid (∀_:Unit,Tx=mkS (txt x)):=fun _=>hTx
    by_cases hi0:i=0
    ·have HI0:Hid (i=0):=hi0
     clear hx ax0 ax1 ax2 ex hsx HMM hi0 hTx
     go_wp2_with fail
     refine aq ?_
     refine am (T:=fun W=>Mem w5 [] W []) (by kernel_rfl) hm ?_
     intro wc hbw hmw
     replace hm:Mem w5 [] wc []:=hmw
     clear hbw hmw
     refine aT 0 (v:=.slice pv lv cv) rfl (by kernel_rfl) rfl (fun W _=>by go_simp) hm ?_
     go_simp
     refine aT 1 (v:=.slice (some ⟨b,o,none⟩) nl c12) rfl (by kernel_rfl) rfl (fun W _=>by go_simp) hm ?_
     go_simp
     refine aT 2 (v:=.int .i64 (i:Int)) rfl (by kernel_rfl) rfl (fun W _=>by go_simp) hm ?_
     go_simp
     refine aT 3 (v:=.pointer (some ⟨b,o+i * 3,none⟩)) rfl (by kernel_rfl) rfl (fun W _=>au i rfl rfl rfl HLT.out) hm ?_
     go_simp
     refine aT 4 (v:=.agg (tcs x (.slice px mx cx)).toArray) rfl (by kernel_rfl) rfl (fun W hW=>av rfl (HCX.out W hW.below).1 (HCX.out W hW.below).2.1 (HCX.out W hW.below).2.2) hm ?_
     go_simp
     refine aO 5 (by kernel_rfl) rfl rfl ?_
     intro K hK
     go_wp2_with (go_at_call 11;refine (knows_eq (gt:=x) HKX.out (HBSL.out.below hm.below) (HXS.out.below hm.below) HWEB.out HBL.out).mono ?_;rintro e wk ⟨he,hb⟩;subst he;replace hm:=hm.call hb;clear hb)
     refine hK _ _ hm ?_
     clear hK K
     go_simp
     refine aT 6 (v:=.bool false) rfl (by kernel_rfl) rfl (fun W _=>by go_simp) hm ?_
     go_simp
     refine aT 7 (v:=.bool false) rfl (by kernel_rfl) rfl (fun W _=>by go_simp) hm ?_
     go_simp
     refine aG 8 (v:=.int .i64 (i:Int)) rfl (by kernel_rfl) rfl (fun W _=>by go_simp) hm ?_
     go_simp
     refine aG 9 (v:=.bool false) rfl (by kernel_rfl) rfl (fun W _=>by go_simp;exact HI0.out) hm ?_
     go_simp
     refine aG 10 (v:=.bool false) rfl (by kernel_rfl) rfl (fun W _=>by go_simp) hm ?_
     go_simp
     refine aa 11 rfl (by kernel_rfl) (by kernel_rfl) (by kernel_rfl) rfl hm ?_
     go_simp
     refine aa 12 rfl (by kernel_rfl) (by kernel_rfl) (by kernel_rfl) rfl hm ?_
     go_simp
     refine aa 13 rfl (by kernel_rfl) (by kernel_rfl) (by kernel_rfl) rfl hm ?_
     go_simp
     refine aa 14 rfl (by kernel_rfl) (by kernel_rfl) (by kernel_rfl) rfl hm ?_
     go_simp
     refine aa 15 rfl (by kernel_rfl) (by kernel_rfl) (by kernel_rfl) rfl hm ?_
     go_simp
     refine aa 16 rfl (by kernel_rfl) (by kernel_rfl) (by kernel_rfl) rfl hm ?_
     go_simp
     refine aa 17 rfl (by kernel_rfl) (by kernel_rfl) (by kernel_rfl) rfl hm ?_
     go_simp
     refine aa 18 rfl (by kernel_rfl) (by kernel_rfl) (by kernel_rfl) rfl hm ?_
     go_simp
     refine aa 19 rfl (by kernel_rfl) (by kernel_rfl) (by kernel_rfl) rfl hm ?_
     go_simp
     refine aa 20 rfl (by kernel_rfl) (by kernel_rfl) (by kernel_rfl) rfl hm ?_
     go_simp
     refine aa 21 rfl (by kernel_rfl) (by kernel_rfl) (by kernel_rfl) rfl hm ?_
     go_simp
     refine aa 22 rfl (by kernel_rfl) (by kernel_rfl) (by kernel_rfl) rfl hm ?_
     go_simp
     refine aG 23 (v:=.bool false) rfl (by kernel_rfl) rfl (fun W _=>by go_simp) hm ?_
     go_simp
     refine aT 24 (v:=.bool false) rfl (by kernel_rfl) rfl (fun W _=>by go_simp) hm ?_
     go_simp
     refine wpAnyH_done (by kernel_rfl) ?_ _
     simp only [endsIn]
     go_wp2_with fail
     go_roundw
     case rel=>exact ⟨i+1,by go_num,by omega,hm⟩
     case measure=>simp [intOf];omega
    ·have HI0:Hid (0<i):=Nat.pos_of_ne_zero hi0
     obtain ⟨j,hj⟩:∃j,i=j+1:=⟨i - 1,by omega⟩
     have hjw:IntKind.i64.wrap ((i:Int) - 1)=(j:Int):=(bg _ (by omega) (by omega)).trans (by omega)
     have hlj:j<nl:=by omega
     have HLJ:Hid (j<nl):=hlj
     obtain ⟨y,hy⟩:=bc (HNL.out ()) hlj
     obtain ⟨py,my,cy,ay0,ay1,ay2,ey,hsy⟩:=HSL.out.cells hy
     have HCY:Hid (∀W,Below w5.heap.size w5 W→W.cell? ⟨b,o+j * 3,none⟩=some (.int .i64 y.k)∧W.cell? ⟨b,o+j * 3+1,none⟩=some (.int .i64 y.n)∧W.cell? ⟨b,o+j * 3+2,none⟩=some (.slice py my cy)):=fun W hW=>⟨(hW.cell (p:=⟨b,_,none⟩) (block_lt_of_cell ay0)).trans ay0,(hW.cell (p:=⟨b,_,none⟩) (block_lt_of_cell ay1)).trans ay1,(hW.cell (p:=⟨b,_,none⟩) (block_lt_of_cell ay2)).trans ay2⟩
     have HYS:Hid (SlT (fun b=>b<w5.heap.size) w5 (.slice py my cy) y.l):=hsy
     have HIy:Hid (isT y=true):=HIS.out y (List.mem_of_getElem? hy)
     obtain ⟨Ty,hTy⟩:∃X,X=mkS (txt y):=⟨_,rfl⟩
     have HTy:Hid (∀_:Unit,Ty=mkS (txt y)):=fun _=>hTy
     have HGE:Hid ((!decide (bs Ty<bs Tx))=false):=by
      have h1:txt y<txt x:=by
       obtain ⟨h2,h3⟩:=List.getElem?_eq_some_iff.1 hy
       obtain ⟨h4,h5⟩:=List.getElem?_eq_some_iff.1 hx
       have h6:=List.pairwise_iff_getElem.1 HAL.out.2 j i h2 h4 (by omega)
       rw [h3,h5] at h6
       exact h6
      show _=_
      rw [hTy,hTx,aL,aL,decide_eq_true h1]
      rfl
     clear hx ax0 ax1 ax2 ex hsx HMM hi0 hTx hy ay0 ay1 ay2 ey hsy hTy hj
     go_wp2_with fail
     refine aq ?_
     refine am (T:=fun W=>Mem w5 [] W []) (by kernel_rfl) hm ?_
     intro wc hbw hmw
     replace hm:Mem w5 [] wc []:=hmw
     clear hbw hmw
     refine aT 0 (v:=.slice pv lv cv) rfl (by kernel_rfl) rfl (fun W _=>by go_simp) hm ?_
     go_simp
     refine aT 1 (v:=.slice (some ⟨b,o,none⟩) nl c12) rfl (by kernel_rfl) rfl (fun W _=>by go_simp) hm ?_
     go_simp
     refine aT 2 (v:=.int .i64 (i:Int)) rfl (by kernel_rfl) rfl (fun W _=>by go_simp) hm ?_
     go_simp
     refine aT 3 (v:=.pointer (some ⟨b,o+i * 3,none⟩)) rfl (by kernel_rfl) rfl (fun W _=>au i rfl rfl rfl HLT.out) hm ?_
     go_simp
     refine aT 4 (v:=.agg (tcs x (.slice px mx cx)).toArray) rfl (by kernel_rfl) rfl (fun W hW=>av rfl (HCX.out W hW.below).1 (HCX.out W hW.below).2.1 (HCX.out W hW.below).2.2) hm ?_
     go_simp
     refine aO 5 (by kernel_rfl) rfl rfl ?_
     intro K hK
     go_wp2_with (go_at_call 11;refine (knows_eq (gt:=x) HKX.out (HBSL.out.below hm.below) (HXS.out.below hm.below) HWEB.out HBL.out).mono ?_;rintro e wk ⟨he,hb⟩;subst he;replace hm:=hm.call hb;clear hb)
     refine hK _ _ hm ?_
     clear hK K
     go_simp
     refine aT 6 (v:=.bool false) rfl (by kernel_rfl) rfl (fun W _=>by go_simp) hm ?_
     go_simp
     refine aT 7 (v:=.bool false) rfl (by kernel_rfl) rfl (fun W _=>by go_simp) hm ?_
     go_simp
     refine aG 8 (v:=.int .i64 (i:Int)) rfl (by kernel_rfl) rfl (fun W _=>by go_simp) hm ?_
     go_simp
     refine aG 9 (v:=.bool true) rfl (by kernel_rfl) rfl (fun W _=>by go_simp;exact HI0.out) hm ?_
     go_simp
     refine aG 10 (v:=.bool true) rfl (by kernel_rfl) rfl (fun W _=>by go_simp) hm ?_
     go_simp
     refine aG 11 (v:=.slice (some ⟨b,o,none⟩) nl c12) rfl (by kernel_rfl) rfl (fun W _=>by go_simp) hm ?_
     go_simp
     refine aG 12 (v:=.int .i64 (i:Int)) rfl (by kernel_rfl) rfl (fun W _=>by go_simp) hm ?_
     go_simp
     refine aG 13 (v:=.int .i64 (j:Int)) rfl (by kernel_rfl) rfl (fun W _=>by go_simp) hm ?_
     go_simp
     refine aG 14 (v:=.pointer (some ⟨b,o+j * 3,none⟩)) rfl (by kernel_rfl) rfl (fun W _=>au j rfl rfl rfl HLJ.out) hm ?_
     go_simp
     refine aG 15 (v:=.agg (tcs y (.slice py my cy)).toArray) rfl (by kernel_rfl) rfl (fun W hW=>av rfl (HCY.out W hW.below).1 (HCY.out W hW.below).2.1 (HCY.out W hW.below).2.2) hm ?_
     go_simp
     refine aG 17 (v:=.slice (some ⟨b,o,none⟩) nl c12) rfl (by kernel_rfl) rfl (fun W _=>by go_simp) hm ?_
     go_simp
     refine aG 18 (v:=.int .i64 (i:Int)) rfl (by kernel_rfl) rfl (fun W _=>by go_simp) hm ?_
     go_simp
     refine aG 19 (v:=.pointer (some ⟨b,o+i * 3,none⟩)) rfl (by kernel_rfl) rfl (fun W _=>au i rfl rfl rfl HLT.out) hm ?_
     go_simp
     refine aG 20 (v:=.agg (tcs x (.slice px mx cx)).toArray) rfl (by kernel_rfl) rfl (fun W hW=>av rfl (HCX.out W hW.below).1 (HCX.out W hW.below).2.1 (HCX.out W hW.below).2.2) hm ?_
     go_simp
     refine aO 16 (by kernel_rfl) rfl rfl ?_
     intro K hK
     go_wp2_with (go_at_call 18;refine (d8 y _ _ (HYS.out.below hm.below) HIy.out).mono ?_;rw [←HTy.out ()];rintro e wpy ⟨he,hb⟩;subst he;replace hm:=hm.call hb;clear hb)
     refine hK _ _ hm ?_
     clear hK K
     go_simp
     refine aO 21 (by kernel_rfl) rfl rfl ?_
     intro K hK
     go_wp2_with (go_at_call 18;refine (d8 x _ _ (HXS.out.below hm.below) HIx.out).mono ?_;rw [←HTx.out ()];rintro e wpx ⟨he,hb⟩;subst he;replace hm:=hm.call hb;clear hb)
     refine hK _ _ hm ?_
     clear hK K
     go_simp
     refine aG 22 (v:=.bool false) rfl (by kernel_rfl) rfl (fun W _=>exec_geS Ty Tx false HGE.out rfl rfl) hm ?_
     go_simp
     refine aG 23 (v:=.bool false) rfl (by kernel_rfl) rfl (fun W _=>by go_simp) hm ?_
     go_simp
     refine aT 24 (v:=.bool false) rfl (by kernel_rfl) rfl (fun W _=>by go_simp) hm ?_
     go_simp
     refine wpAnyH_done (by kernel_rfl) ?_ _
     simp only [endsIn]
     go_wp2_with fail
     go_roundw
     case rel=>exact ⟨i+1,by go_num,by omega,hm⟩
     case measure=>simp [intOf];omega
   ·obtain rfl:i=nl:=by omega
    have hki:¬(i:Int)<(i:Int):=by omega
    clear HMM
    have HZZ:Hid (Below w5.heap.size w5 wr):=hm.below
    go_wp2_with fail
    clear hm
    have hm:=Mem.start wr
    have HBE:Hid (Below w1.heap.size w1 wr):=HB5.out.trans (HZZ.out.mono HB5.out.size)
    have HBW:Hid (SlT (fun b=>b<w1.heap.size) wr (.slice pv lv cv) bl):=HBSL.out.below HZZ.out
    have HLW:Hid (SlT (fun b=>b<w5.heap.size) wr (.slice p5 i c12) L):=HSL0.out.below HZZ.out
    obtain ⟨wx,hwx⟩:∃v,v=wr:=⟨_,rfl⟩
    rw [←hwx] at hm HBE HBW HLW ⊢
    clear hwx HZZ
    go_loopw [5] (fun vi wr2=>∃q:Nat,vi=.int .i64 (q:Int)∧q≤lv∧Hid (Mem wx [] wr2 [])) (fun vi _=>lv - (intOf vi).toNat)
    case atStart=>exact ⟨0,rfl,Nat.zero_le _,hm⟩
    case round =>
     clear hm
     obtain ⟨q,rfl,hqn,HMM⟩:=hrel
     have hm:=HMM.out
     by_cases hqt:q<lv
     ·have hkq:(q:Int)<(lv:Int):=by omega
      obtain ⟨bb,ob,rfl⟩:=HBW.out.at (by omega)
      obtain ⟨x,hx⟩:=bc (HLV.out ()) hqt
      obtain ⟨px,mx,cx,a0,a1,a2,ex,hsx⟩:=HBW.out.cells hx
      have HC:Hid (∀W,Below wx.heap.size wx W→W.cell? ⟨bb,ob+q * 3,none⟩=some (.int .i64 x.k)∧W.cell? ⟨bb,ob+q * 3+1,none⟩=some (.int .i64 x.n)∧W.cell? ⟨bb,ob+q * 3+2,none⟩=some (.slice px mx cx)):=fun W hW=>⟨(hW.cell (p:=⟨bb,_,none⟩) (block_lt_of_cell a0)).trans a0,(hW.cell (p:=⟨bb,_,none⟩) (block_lt_of_cell a1)).trans a1,(hW.cell (p:=⟨bb,_,none⟩) (block_lt_of_cell a2)).trans a2⟩
      have HXS:Hid (SlT (fun b=>b<w1.heap.size) wx (.slice px mx cx) x.l):=hsx
      have HMX:Hid (x∈bl):=List.mem_of_getElem? hx
      cases hix:isT x with
      | true =>
       have HI:Hid (∀W,Below wx.heap.size wx W→Calls Tryz.prog 19 #[.agg (tcs x (.slice px mx cx)).toArray] W fun e w'=>e=.returned (.bool true)∧Below W.heap.size W w'):=fun W hW=>by have h9:=isR_any x _ W (HXS.out.below hW);rw [hix] at h9;exact h9
       have HIN:Hid (x∈L):=(HAL.out.1 x).2 ⟨(di bl).2 x (List.mem_filter.2 ⟨HMX.out,hix⟩),.base ⟨HMX.out,hix⟩⟩
       clear hx a0 a1 a2 ex hsx HMM hix
       go_wp2_with (first
        | ((with_reducible refine af (some 52) (.indexAddr 22 (.tmp 50) (.tmp 51)) ?_);go_must (refine ad (.pointer (some ⟨bb,ob+q * 3,none⟩)) rfl (au q rfl rfl rfl hqt) ?_))
        | ((with_reducible refine af (some 53) (.load 24 (.tmp 52)) ?_);go_must (refine ad (.agg (tcs x (.slice px mx cx)).toArray) rfl (av rfl (HC.out _ hm.below).1 (HC.out _ hm.below).2.1 (HC.out _ hm.below).2.2) ?_))
        | (go_at_call 19;go_must (refine (HI.out _ hm.below).mono ?_);rintro e w54 ⟨he,hb⟩;subst he;replace hm:=hm.call hb;clear hb)
        | ((with_reducible refine aJ (some 59) (.indexAddr 22 (.tmp 57) (.tmp 58)) (some (5,true)) ?_);go_must (refine ad (.pointer (some ⟨bb,ob+q * 3,none⟩)) rfl (au q rfl rfl rfl hqt) ?_))
        | ((with_reducible refine aJ (some 60) (.load 24 (.tmp 59)) (some (5,true)) ?_);go_must (refine ad (.agg (tcs x (.slice px mx cx)).toArray) rfl (av rfl (HC.out _ hm.below).1 (HC.out _ hm.below).2.1 (HC.out _ hm.below).2.2) ?_))
        | (go_at_call 20;go_must (refine (in_any L x p5 i c12 (.slice px mx cx) _ true ⟨fun _=>HIN.out,fun _=>rfl⟩ (HNL.out ()) (by omega) (fun z hz=>Nat.le_trans (bj.1 (HIS.out z hz)).1 (by omega)) (HLW.out.below hm.below) (HXS.out.below hm.below)).mono ?_);rintro e w61 ⟨he,hb⟩;subst he;replace hm:=hm.call hb;clear hb))
       go_roundw
       case rel=>exact ⟨q+1,by go_num,by omega,hm⟩
       case measure=>simp [intOf];omega
      | false =>
       have HI:Hid (∀W,Below wx.heap.size wx W→Calls Tryz.prog 19 #[.agg (tcs x (.slice px mx cx)).toArray] W fun e w'=>e=.returned (.bool false)∧Below W.heap.size W w'):=fun W hW=>by have h9:=isR_any x _ W (HXS.out.below hW);rw [hix] at h9;exact h9
       clear hx a0 a1 a2 ex hsx HMM hix
       go_wp2_with (first
        | ((with_reducible refine af (some 52) (.indexAddr 22 (.tmp 50) (.tmp 51)) ?_);go_must (refine ad (.pointer (some ⟨bb,ob+q * 3,none⟩)) rfl (au q rfl rfl rfl hqt) ?_))
        | ((with_reducible refine af (some 53) (.load 24 (.tmp 52)) ?_);go_must (refine ad (.agg (tcs x (.slice px mx cx)).toArray) rfl (av rfl (HC.out _ hm.below).1 (HC.out _ hm.below).2.1 (HC.out _ hm.below).2.2) ?_))
        | (go_at_call 19;go_must (refine (HI.out _ hm.below).mono ?_);rintro e w54 ⟨he,hb⟩;subst he;replace hm:=hm.call hb;clear hb))
       go_roundw
       case rel=>exact ⟨q+1,by go_num,by omega,hm⟩
       case measure=>simp [intOf];omega
     ·obtain rfl:q=lv:=by omega
      have hkq:¬(q:Int)<(q:Int):=by omega
      clear HMM
      go_wp2_with fail
      go_ret
      exact ⟨rfl,HB1.out.trans ((HBE.out.trans (hm.below.mono HBE.out.size)).mono HB1.out.size)⟩
 ·have HF1:Hid (∀W,Below w1.heap.size w1 W→Calls Tryz.prog 10 #[.slice pv lv cv] W fun e w'=>e=.returned (.bool false)∧Below W.heap.size W w'):=fun W hW=>few_any bl pv lv cv W false (⟨(fun h=>by cases h),fun h=>absurd h hfew⟩) (HLV.out ()) HLM.out (HBS.out.below hW)
  clear hfew
  go_enter Tryz.func8,Tryz.ntmps8
  go_wp2_with (first
   | (clear tkk;go_at_call 9;go_must (refine (dH _ (HY.out.below hm.below)).mono ?_);rintro e wk ⟨he,hb⟩;subst he;replace hm:=hm.call hb;clear hb)
   | (clear tf1;go_at_call 10;go_must (refine (HF1.out _ hm.below).mono ?_);rintro e wf ⟨he,hb⟩;subst he;replace hm:=hm.call hb;clear hb))
  go_ret
  exact ⟨rfl,HB1.out.trans (hm.below.mono HB1.out.size)⟩
end Go.Proofs.YtcibhfcjbokdlaaGreatDoor
