import Derived.Test.YtcibhfcjbokdlaaGreatDoorQt24
set_option maxRecDepth 100000
set_option maxHeartbeats 4000000
namespace Go.Proofs.YtcibhfcjbokdlaaGreatDoor
open Go Go.RowKit Classical
theorem prWs_app (l l2 T:List Tm):prWs (l++l2) T=prWs l2 (prWs l T):=by unfold prWs;rw [List.foldl_append]
theorem pr_isT (l:List Tm):∀x∈prWs (l.filter isT) [],isT x=true:=fun x hx=>d7 l x ((pr_web _ (fun _ ht=>(az.1 (List.mem_filter.1 ht).2).2) x).1 hx)
theorem pr_len {l:List Tm} (h:Few l):(prWs (l.filter isT) []).length≤200:=by
 have h1:=cI (l:=l.filter isT) (fun y _=>dO y) []
 have h2:=dE isT l
 have h3:=few_sum h.2
 have h4:=Nat.mul_le_mul_right 20 h.1
 simp only [List.length_nil] at h1
 omega
theorem few_take {l:List Tm} (h:Few l) (i:Nat):Few (l.take i):=eO h (fun _ ht=>List.mem_of_mem_take ht) (Nat.le_trans (by rw [List.length_take];exact Nat.min_le_right _ _) h.1)
theorem allR_any {F:Nat→Prop} (bl:List Tm) (bv:Value) (w:World) (hf:Few bl) (hbs:SlT F w bv bl) :
  Calls Tryz.prog 15 #[bv] w fun e w'=>∃(v:Value) (L:List Tm),e=.returned v∧AllIs bl L∧SlT (fun b=>b<w'.heap.size) w' v L∧Below w.heap.size w w':=by
 obtain ⟨pv,cv,rfl,hcv⟩:=hbs.len
 obtain ⟨lv,hlv⟩:∃l,l=bl.length:=⟨_,rfl⟩
 rw [←hlv] at hbs ⊢
 have HFW:Hid (Few bl):=hf
 have HBS:Hid (SlT (fun b=>b<w.heap.size) w (.slice pv lv cv) bl):=hbs.lt
 have HLV:Hid (∀_:Unit,lv=bl.length):=fun _=>hlv
 have hlv10:lv≤10:=by rw [hlv];exact hf.1
 clear hf hbs hlv hcv
 have hm:=Mem.start w
 go_enter Tryz.func15,Tryz.ntmps15
 go_wp2_with fail
 go_loopw [5,3] (fun vi va wr=>∃i:Nat,vi=.int .i64 (i:Int)∧i≤lv∧Hid (OT w.heap.size wr va (prWs ((bl.take i).filter isT) []))∧Hid (Mem w [] wr [])) (fun vi _ _=>lv - (intOf vi).toNat)
 case atStart=>exact ⟨0,rfl,Nat.zero_le _,OT.nil,hm⟩
 case round =>
  clear hm
  obtain ⟨i,rfl,hil,HO,HMM⟩:=hrel
  have hm:=HMM.out
  obtain ⟨pk,ck,hvk,hck⟩:=HO.out.len
  obtain ⟨na,hna⟩:∃l,l=(prWs ((bl.take i).filter isT) []).length:=⟨_,rfl⟩
  rw [←hna] at hvk hck
  subst hvk
  have HNA:Hid (∀_:Unit,na=(prWs ((bl.take i).filter isT) []).length):=fun _=>hna
  have hna4:na≤200:=by rw [hna];exact pr_len (few_take HFW.out i)
  clear hck hna
  by_cases hlt:i<lv
  ·have hki:(i:Int)<(lv:Int):=by omega
   obtain ⟨bb,ob,rfl⟩:=HBS.out.at (by omega)
   obtain ⟨x,hx⟩:=aX (HLV.out ()) hlt
   obtain ⟨px,mx,cx,a0,a1,a2,ex,hsx⟩:=HBS.out.cells hx
   have HC:Hid (∀W,Below w.heap.size w W→W.cell? ⟨bb,ob+i * 3,none⟩=some (.int .i64 x.k)∧W.cell? ⟨bb,ob+i * 3+1,none⟩=some (.int .i64 x.n)∧W.cell? ⟨bb,ob+i * 3+2,none⟩=some (.slice px mx cx)):=fun W hW=>⟨(hW.cell (p:=⟨bb,_,none⟩) (block_lt_of_cell a0)).trans a0,(hW.cell (p:=⟨bb,_,none⟩) (block_lt_of_cell a1)).trans a1,(hW.cell (p:=⟨bb,_,none⟩) (block_lt_of_cell a2)).trans a2⟩
   have HXS:Hid (SlT (fun b=>b<w.heap.size) w (.slice px mx cx) x.l):=hsx
   have HSN:=ew hx
   clear hx a0 a1 a2 ex hsx HMM
   cases hix:isT x with
   | false =>
    have HIS:Hid (∀W,Below w.heap.size w W→Calls Tryz.prog 19 #[.agg (tcs x (.slice px mx cx)).toArray] W fun e w'=>e=.returned (.bool false)∧Below W.heap.size W w'):=fun W hW=>by have h9:=bY x _ W (HXS.out.below hW);rw [hix] at h9;exact h9
    have HSN2:Hid (prWs ((bl.take (i+1)).filter isT) []=prWs ((bl.take i).filter isT) []):=by show _=_;rw [HSN,if_neg (by rw [hix];simp),List.append_nil]
    clear hix HSN
    go_wp2_with (first
     | ((with_reducible refine af (some 18) (.indexAddr 22 (.tmp 16) (.tmp 17)) ?_);go_must (refine aa (.pointer (some ⟨bb,ob+i * 3,none⟩)) rfl (ak i rfl rfl rfl hlt) ?_))
     | ((with_reducible refine af (some 19) (.load 24 (.tmp 18)) ?_);go_must (refine aa (.agg (tcs x (.slice px mx cx)).toArray) rfl (am rfl (HC.out _ hm.below).1 (HC.out _ hm.below).2.1 (HC.out _ hm.below).2.2) ?_))
     | (go_at_call 19;go_must (refine (HIS.out _ hm.below).mono ?_);rintro e w20 ⟨he,hb⟩;subst he;have H20:Hid (OT w.heap.size w20 (.slice pk na ck) (prWs ((bl.take (i+1)).filter isT) [])):=(by rw [HSN2.out];exact HO.out.below hb);replace hm:=hm.call hb;clear hb))
    go_roundw
    case rel=>exact ⟨i+1,by go_num,by omega,H20.out,hm⟩
    case measure=>simp [intOf];omega
   | true =>
    have HIX:Hid (isT x=true):=hix
    have HIS:Hid (∀W,Below w.heap.size w W→Calls Tryz.prog 19 #[.agg (tcs x (.slice px mx cx)).toArray] W fun e w'=>e=.returned (.bool true)∧Below W.heap.size W w'):=fun W hW=>by have h9:=bY x _ W (HXS.out.below hW);rw [hix] at h9;exact h9
    have HSN2:Hid (prWs ((bl.take (i+1)).filter isT) []=prW x (prWs ((bl.take i).filter isT) [])):=by show _=_;rw [HSN,if_pos hix,prWs_app];rfl
    clear hix HSN
    go_wp2_with (first
     | ((with_reducible refine af (some 18) (.indexAddr 22 (.tmp 16) (.tmp 17)) ?_);go_must (refine aa (.pointer (some ⟨bb,ob+i * 3,none⟩)) rfl (ak i rfl rfl rfl hlt) ?_))
     | ((with_reducible refine af (some 19) (.load 24 (.tmp 18)) ?_);go_must (refine aa (.agg (tcs x (.slice px mx cx)).toArray) rfl (am rfl (HC.out _ hm.below).1 (HC.out _ hm.below).2.1 (HC.out _ hm.below).2.2) ?_))
     | (go_at_call 19;go_must (refine (HIS.out _ hm.below).mono ?_);rintro e w20 ⟨he,hb⟩;subst he;have H20:Hid (OT w.heap.size w20 (.slice pk na ck) (prWs ((bl.take i).filter isT) [])):=HO.out.below hb;replace hm:=hm.call hb;clear hb)
     | ((with_reducible refine af (some 24) (.indexAddr 22 (.tmp 22) (.tmp 23)) ?_);go_must (refine aa (.pointer (some ⟨bb,ob+i * 3,none⟩)) rfl (ak i rfl rfl rfl hlt) ?_))
     | ((with_reducible refine af (some 25) (.load 24 (.tmp 24)) ?_);go_must (refine aa (.agg (tcs x (.slice px mx cx)).toArray) rfl (am rfl (HC.out _ hm.below).1 (HC.out _ hm.below).2.1 (HC.out _ hm.below).2.2) ?_))
     | (go_at_call 35;go_must (refine (parts_any x w.heap.size (prWs ((bl.take i).filter isT) []) (.slice pk na ck) _ _ HIX.out (fun z hz=>(az.1 (pr_isT _ z hz)).1) (by have h9:=HNA.out ();have h8:=(az.1 HIX.out).1;omega) H20.out hm.size (HXS.out.below hm.below)).mono ?_);rintro e w26 ⟨v26,he,ho,hg,_⟩;subst he;have HO26:Hid (OT w.heap.size w26 v26 (prWs ((bl.take (i+1)).filter isT) [])):=(by rw [HSN2.out];exact ho);replace hm:=hm.grownX (fun b h9=>(H20.out.lt h9).1) a6 hg;clear ho hg))
    go_roundw
    case rel=>exact ⟨i+1,by go_num,by omega,HO26.out,hm⟩
    case measure=>simp [intOf];omega
  ·obtain rfl:i=lv:=by omega
   have hki:¬(i:Int)<(i:Int):=by omega
   obtain ⟨A,hA⟩:∃A,A=prWs (bl.filter isT) []:=⟨_,rfl⟩
   have hAE:prWs ((bl.take i).filter isT) []=A:=by rw [HLV.out (),List.take_length,hA]
   have HAW:Hid (∀x,x∈A↔x∈webWs (bl.filter isT) []):=fun x=>by rw [hA];exact pr_web _ (fun _ ht=>(az.1 (List.mem_filter.1 ht).2).2) x
   have HAT:Hid (∀x∈A,isT x=true):=by rw [hA];exact pr_isT bl
   have HAN:Hid (A.Nodup):=by rw [hA];exact prWs_nd (fun y _=>prW_nd y) [] List.nodup_nil
   have HNL:Hid (∀_:Unit,na=A.length):=fun _=>by rw [←hAE];exact HNA.out ()
   have HOA:Hid (OT w.heap.size wr (.slice pk na ck) A):=by rw [←hAE];exact HO.out
   clear HMM HO HNA hA hAE
   go_wp2_with (first
    | (go_at_call 31;go_must (refine (eo bl _ _ HFW.out (HBS.out.below hm.below)).mono ?_);rintro e w28 ⟨v28,Kt,he,hT,hI,hL,hs,hb⟩;obtain ⟨p6,c6,hvk,hck⟩:=hs.len;obtain ⟨n6,hn6⟩:∃l,l=Kt.length:=⟨_,rfl⟩;rw [←hn6] at hvk;subst hvk;subst he;have HT:Hid (Taken bl Kt∧(∀x∈Kt,isT x=true)∧Kt.length≤380):=⟨hT,hI,hL⟩;have HN6:Hid (∀_:Unit,n6=Kt.length):=fun _=>hn6;have HKS:Hid (SlT (fun b=>b<w28.heap.size) w28 (.slice p6 n6 c6) Kt):=hs;have HSA:Hid (SlT (fun b=>b<w28.heap.size) w28 (.slice pk na ck) A):=(HOA.out.slt.below hb).weak (fun b h9=>Nat.lt_of_lt_of_le h9 hb.size);replace hm:=hm.call hb;clear hb hT hI hL hs hck hn6))
   have HBE:Hid (Below w.heap.size w w28):=hm.below
   clear hm HOA HBS
   have hm:=Mem.start w28
   go_loopw [7,4] (fun vi vo wr=>∃(q:Nat) (O:List Tm),vi=.int .i64 (q:Int)∧q≤na∧Hid (SlT (fun b=>b<wr.heap.size) wr vo O)∧Hid (O.Pairwise (fun a b=>txt a<txt b))∧Hid (∀x,x∈O↔x∈A.take q∧Der (inB bl) x)∧Hid (O.length≤q)∧Hid (Mem w28 [] wr [])) (fun vi _ _=>na - (intOf vi).toNat)
   case atStart=>exact ⟨0,[],rfl,Nat.zero_le _,SlT.nil,List.Pairwise.nil,fun x=>by simp,Nat.le_refl _,hm⟩
   case round =>
    clear hm
    obtain ⟨wz,rfl⟩:∃v,v=wr:=⟨_,rfl⟩
    obtain ⟨q,O,rfl,hqn,HSO,HPW,HMB,HOL,HMM⟩:=hrel
    obtain ⟨po,co,hvo,hco⟩:=HSO.out.len
    obtain ⟨no,hno⟩:∃l,l=O.length:=⟨_,rfl⟩
    rw [←hno] at hvo hco
    subst hvo
    have HNO:Hid (∀_:Unit,no=O.length):=fun _=>hno
    have HCO:Hid (no≤co):=hco
    have hno4:no≤200:=by have:=HOL.out;omega
    clear hno hco
    by_cases hqt:q<na
    ·have hkq:(q:Int)<(na:Int):=by omega
     have HMZ:Hid (Mem w28 [] wz []):=HMM.out
     have HWZ:Hid (w28.heap.size≤wz.heap.size):=HMM.out.size
     have hsw:=HSA.out.below HMM.out.below
     obtain ⟨ba,oa,hpa⟩:=HSA.out.at (by omega)
     subst hpa
     obtain ⟨x,hx⟩:=aX (HNL.out ()) hqt
     obtain ⟨px,mx,cx,a0,a1,a2,ex,hsx⟩:=hsw.cells hx
     have HC:Hid (∀W,Below wz.heap.size wz W→W.cell? ⟨ba,oa+q * 3,none⟩=some (.int .i64 x.k)∧W.cell? ⟨ba,oa+q * 3+1,none⟩=some (.int .i64 x.n)∧W.cell? ⟨ba,oa+q * 3+2,none⟩=some (.slice px mx cx)):=fun W hW=>⟨(hW.cell (p:=⟨ba,_,none⟩) (block_lt_of_cell a0)).trans a0,(hW.cell (p:=⟨ba,_,none⟩) (block_lt_of_cell a1)).trans a1,(hW.cell (p:=⟨ba,_,none⟩) (block_lt_of_cell a2)).trans a2⟩
     have HXS:Hid (SlT (fun b=>b<wz.heap.size) wz (.slice px mx cx) x.l):=hsx.weak fun b hb=>Nat.lt_of_lt_of_le hb HWZ.out
     have HXA:Hid (A[q]?=some x):=hx
     have HXI:Hid (isT x=true):=HAT.out x (List.mem_of_getElem? hx)
     have HTK:Hid (A.take (q+1)=A.take q++[x]):=by show _=_;rw [List.take_add_one,hx];rfl
     have HXN:Hid (x ∉ O):=fun hc=>by
      have h1:=((HMB.out x).1 hc).1
      have h2:(A.take (q+1)).Nodup:=HAN.out.sublist (List.take_sublist _ _)
      rw [HTK.out] at h2
      exact (List.nodup_append.1 h2).2.2 x h1 x (by simp) rfl
     have HKW:Hid (SlT (fun b=>b<w28.heap.size) wz (.slice p6 n6 c6) Kt):=HKS.out.below HMM.out.below
     have HBU:∀v:Bool,(v=true↔Syn (· ∈ Kt) x)→Hid (∀W,Below wz.heap.size wz W→Calls Tryz.prog 30 #[.slice p6 n6 c6,.agg (tcs x (.slice px mx cx)).toArray] W fun e w'=>e=.returned (.bool v)∧Below W.heap.size W w'):=fun v hv W hW=>dy Kt p6 n6 c6 (HN6.out ()) (by have h9:=HT.out.2.2;have h8:=HN6.out ();omega) (fun z hz=>Nat.le_trans (az.1 (HT.out.2.1 z hz)).1 (by omega)) x _ W v hv (by have h9:=(az.1 HXI.out).2;rw [bg (aS h9)];unfold kn;split<;>(try split)<;>omega) (fun z hz=>aM (az.1 HXI.out).2 hz) (HKW.out.below hW) (HXS.out.below hW)
     clear hsw hx a0 a1 a2 ex hsx HMM
     have hm:=Mem.start wz
     have HLQ:Hid (q<na):=hqt
     by_cases hd:Der (inB bl) x
     ·have HDX:Hid (Der (inB bl) x):=hd
      have HBV:=HBU true ⟨fun _=>(HT.out.1.iff x).2 hd,fun _=>rfl⟩
      clear HBU hd
      go_wp2_with (first
       | ((with_reducible refine af (some 38) (.indexAddr 22 (.tmp 36) (.tmp 37)) ?_);go_must (refine aa (.pointer (some ⟨ba,oa+q * 3,none⟩)) rfl (ak q rfl rfl rfl hqt) ?_))
       | ((with_reducible refine af (some 39) (.load 24 (.tmp 38)) ?_);go_must (refine aa (.agg (tcs x (.slice px mx cx)).toArray) rfl (am rfl (HC.out _ hm.below).1 (HC.out _ hm.below).2.1 (HC.out _ hm.below).2.2) ?_))
       | (go_at_call 30;go_must (refine (HBV.out _ hm.below).mono ?_);rintro e w40 ⟨he,hb⟩;subst he;replace hm:=hm.call hb;clear hb))
      clear HBV
      go_loopw [8] (fun vu wr2=>∃u:Nat,vu=.int .i64 (u:Int)∧u≤no∧Hid (∀y∈O.take u,txt y<txt x)∧Hid (Mem wz [] wr2 [])) (fun vu _=>no - (intOf vu).toNat)
      case atStart=>exact ⟨0,rfl,Nat.zero_le _,fun y hy=>by simp at hy,hm⟩
      case round =>
       clear hm
       obtain ⟨u,rfl,hun,HLS,HMI⟩:=hrel
       have hm:=HMI.out
       have HUN:Hid (u≤no):=hun
       obtain ⟨Tx,hTx⟩:∃X,X=mkS (txt x):=⟨_,rfl⟩
       have HPx:Hid (∀W,Below wz.heap.size wz W→Calls Tryz.prog 36 #[.agg (tcs x (.slice px mx cx)).toArray] W fun e w'=>e=.returned (.string Tx)∧Below W.heap.size W w'):=fun W hW=>by rw [hTx];exact fe x _ W (HXS.out.below hW) (az.1 HXI.out).2 (Nat.le_trans (az.1 HXI.out).1 (by omega))
       by_cases hul:u<no
       ·have HUL:Hid (u<no):=hul
        obtain ⟨bo,oo,hpo⟩:=HSO.out.at (by omega)
        subst hpo
        obtain ⟨y,hy⟩:=aX (HNO.out ()) hul
        obtain ⟨py,my,cy,a0,a1,a2,ey,hsy⟩:=HSO.out.cells hy
        have HCY:Hid (∀W,Below wz.heap.size wz W→W.cell? ⟨bo,oo+u * 3,none⟩=some (.int .i64 y.k)∧W.cell? ⟨bo,oo+u * 3+1,none⟩=some (.int .i64 y.n)∧W.cell? ⟨bo,oo+u * 3+2,none⟩=some (.slice py my cy)):=fun W hW=>⟨(hW.cell (p:=⟨bo,_,none⟩) (block_lt_of_cell a0)).trans a0,(hW.cell (p:=⟨bo,_,none⟩) (block_lt_of_cell a1)).trans a1,(hW.cell (p:=⟨bo,_,none⟩) (block_lt_of_cell a2)).trans a2⟩
        have HYI:Hid (isT y=true∧y∈O):=by
         have h1:=(HMB.out y).1 (List.mem_of_getElem? hy)
         exact ⟨HAT.out y (List.mem_of_mem_take h1.1),List.mem_of_getElem? hy⟩
        have HYO:Hid (O[u]?=some y):=hy
        obtain ⟨Ty,hTy⟩:∃X,X=mkS (txt y):=⟨_,rfl⟩
        have HPy:Hid (∀W,Below wz.heap.size wz W→Calls Tryz.prog 36 #[.agg (tcs y (.slice py my cy)).toArray] W fun e w'=>e=.returned (.string Ty)∧Below W.heap.size W w'):=fun W hW=>by rw [hTy];exact fe y _ W (hsy.below hW) (az.1 HYI.out.1).2 (Nat.le_trans (az.1 HYI.out.1).1 (by omega))
        cases hb:decide (txt y<txt x) with
        | true =>
         have HLT:Hid (decide (bs Ty<bs Tx)=true):=by show _=_;rw [hTy,hTx,aR,aR];exact hb
         have HLS2:Hid (∀z∈O.take (u+1),txt z<txt x):=fun z hz=>by
          rw [List.take_add_one,hy] at hz
          rcases List.mem_append.1 hz with h|h
          ·exact HLS.out z h
          ·rw [Option.toList_some,List.mem_singleton] at h;rw [h];exact of_decide_eq_true hb
         clear hTx hTy hy a0 a1 a2 ey hsy hb HMI hul
         go_wp2_with fail
         refine aq ?_
         refine ao (T:=fun W=>Mem wz [] W []) (by kernel_rfl) hm ?_
         intro wc hbw hmw
         replace hm:Mem wz [] wc []:=hmw
         clear hbw hmw
         refine aT 0 (v:=.int .i64 (u:Int)) rfl (by kernel_rfl) rfl (fun W _=>by go_simp) hm ?_
         go_simp
         refine aT 1 (v:=.slice (some ⟨bo,oo,none⟩) no co) rfl (by kernel_rfl) rfl (fun W _=>by go_simp) hm ?_
         go_simp
         refine aT 2 (v:=.int .i64 (no:Int)) rfl (by kernel_rfl) rfl (fun W _=>by go_simp) hm ?_
         go_simp
         refine aT 3 (v:=.bool true) rfl (by kernel_rfl) rfl (fun W _=>by go_simp<;>exact HUL.out) hm ?_
         go_simp
         refine aT 4 (v:=.bool true) rfl (by kernel_rfl) rfl (fun W _=>by go_simp) hm ?_
         go_simp
         refine aG 5 (v:=.slice (some ⟨bo,oo,none⟩) no co) rfl (by kernel_rfl) rfl (fun W _=>by go_simp) hm ?_
         go_simp
         refine aG 6 (v:=.int .i64 (u:Int)) rfl (by kernel_rfl) rfl (fun W _=>by go_simp) hm ?_
         go_simp
         refine aG 7 (v:=.pointer (some ⟨bo,oo+u * 3,none⟩)) rfl (by kernel_rfl) rfl (fun W _=>ak u rfl rfl rfl HUL.out) hm ?_
         go_simp
         refine aG 8 (v:=.agg (tcs y (.slice py my cy)).toArray) rfl (by kernel_rfl) rfl (fun W hW=>am rfl (HCY.out W hW.below).1 (HCY.out W hW.below).2.1 (HCY.out W hW.below).2.2) hm ?_
         go_simp
         refine aG 10 (v:=.slice (some ⟨ba,oa,none⟩) na ck) rfl (by kernel_rfl) rfl (fun W _=>by go_simp) hm ?_
         go_simp
         refine aG 11 (v:=.int .i64 (q:Int)) rfl (by kernel_rfl) rfl (fun W _=>by go_simp) hm ?_
         go_simp
         refine aG 12 (v:=.pointer (some ⟨ba,oa+q * 3,none⟩)) rfl (by kernel_rfl) rfl (fun W _=>ak q rfl rfl rfl HLQ.out) hm ?_
         go_simp
         refine aG 13 (v:=.agg (tcs x (.slice px mx cx)).toArray) rfl (by kernel_rfl) rfl (fun W hW=>am rfl (HC.out W hW.below).1 (HC.out W hW.below).2.1 (HC.out W hW.below).2.2) hm ?_
         go_simp
         refine aO 9 (by kernel_rfl) rfl rfl ?_
         intro K hK
         go_wp2_with (go_at_call 36;refine (HPy.out _ hm.below).mono ?_;rintro e wpy ⟨he,hb⟩;subst he;replace hm:=hm.call hb;clear hb)
         refine hK _ _ hm ?_
         clear hK K
         go_simp
         refine aO 14 (by kernel_rfl) rfl rfl ?_
         intro K hK
         go_wp2_with (go_at_call 36;refine (HPx.out _ hm.below).mono ?_;rintro e wpx ⟨he,hb⟩;subst he;replace hm:=hm.call hb;clear hb)
         refine hK _ _ hm ?_
         clear hK K
         go_simp
         refine aG 15 (v:=.bool true) rfl (by kernel_rfl) rfl (fun W _=>exec_ltS Ty Tx true HLT.out rfl rfl) hm ?_
         go_simp
         refine aT 16 (v:=.bool true) rfl (by kernel_rfl) rfl (fun W _=>by go_simp) hm ?_
         go_simp
         refine wpAnyH_done (by kernel_rfl) ?_ _
         simp only [endsIn]
         go_wp2_with fail
         go_roundw
         case rel=>exact ⟨u+1,by go_num,by have:=HUL.out;omega,HLS2.out,hm⟩
         case measure=>have:=HUL.out;simp [intOf];omega
        | false =>
         have HLT:Hid (decide (bs Ty<bs Tx)=false):=by show _=_;rw [hTy,hTx,aR,aR];exact hb
         have HGT:Hid (∀z,O[u]?=some z→txt x<txt z):=fun z hz=>by
          rw [HYO.out] at hz
          rw [←Option.some.inj hz]
          exact lt_of_not (az.1 HXI.out).2 (az.1 HYI.out.1).2 (fun h9=>HXN.out (h9▸HYI.out.2)) (of_decide_eq_false hb)
         clear hTx hTy hy a0 a1 a2 ey hsy hb HMI hul
         go_wp2_with fail
         refine aq ?_
         refine ao (T:=fun W=>Mem wz [] W []) (by kernel_rfl) hm ?_
         intro wc hbw hmw
         replace hm:Mem wz [] wc []:=hmw
         clear hbw hmw
         refine aT 0 (v:=.int .i64 (u:Int)) rfl (by kernel_rfl) rfl (fun W _=>by go_simp) hm ?_
         go_simp
         refine aT 1 (v:=.slice (some ⟨bo,oo,none⟩) no co) rfl (by kernel_rfl) rfl (fun W _=>by go_simp) hm ?_
         go_simp
         refine aT 2 (v:=.int .i64 (no:Int)) rfl (by kernel_rfl) rfl (fun W _=>by go_simp) hm ?_
         go_simp
         refine aT 3 (v:=.bool true) rfl (by kernel_rfl) rfl (fun W _=>by go_simp<;>exact HUL.out) hm ?_
         go_simp
         refine aT 4 (v:=.bool true) rfl (by kernel_rfl) rfl (fun W _=>by go_simp) hm ?_
         go_simp
         refine aG 5 (v:=.slice (some ⟨bo,oo,none⟩) no co) rfl (by kernel_rfl) rfl (fun W _=>by go_simp) hm ?_
         go_simp
         refine aG 6 (v:=.int .i64 (u:Int)) rfl (by kernel_rfl) rfl (fun W _=>by go_simp) hm ?_
         go_simp
         refine aG 7 (v:=.pointer (some ⟨bo,oo+u * 3,none⟩)) rfl (by kernel_rfl) rfl (fun W _=>ak u rfl rfl rfl HUL.out) hm ?_
         go_simp
         refine aG 8 (v:=.agg (tcs y (.slice py my cy)).toArray) rfl (by kernel_rfl) rfl (fun W hW=>am rfl (HCY.out W hW.below).1 (HCY.out W hW.below).2.1 (HCY.out W hW.below).2.2) hm ?_
         go_simp
         refine aG 10 (v:=.slice (some ⟨ba,oa,none⟩) na ck) rfl (by kernel_rfl) rfl (fun W _=>by go_simp) hm ?_
         go_simp
         refine aG 11 (v:=.int .i64 (q:Int)) rfl (by kernel_rfl) rfl (fun W _=>by go_simp) hm ?_
         go_simp
         refine aG 12 (v:=.pointer (some ⟨ba,oa+q * 3,none⟩)) rfl (by kernel_rfl) rfl (fun W _=>ak q rfl rfl rfl HLQ.out) hm ?_
         go_simp
         refine aG 13 (v:=.agg (tcs x (.slice px mx cx)).toArray) rfl (by kernel_rfl) rfl (fun W hW=>am rfl (HC.out W hW.below).1 (HC.out W hW.below).2.1 (HC.out W hW.below).2.2) hm ?_
         go_simp
         refine aO 9 (by kernel_rfl) rfl rfl ?_
         intro K hK
         go_wp2_with (go_at_call 36;refine (HPy.out _ hm.below).mono ?_;rintro e wpy ⟨he,hb⟩;subst he;replace hm:=hm.call hb;clear hb)
         refine hK _ _ hm ?_
         clear hK K
         go_simp
         refine aO 14 (by kernel_rfl) rfl rfl ?_
         intro K hK
         go_wp2_with (go_at_call 36;refine (HPx.out _ hm.below).mono ?_;rintro e wpx ⟨he,hb⟩;subst he;replace hm:=hm.call hb;clear hb)
         refine hK _ _ hm ?_
         clear hK K
         go_simp
         refine aG 15 (v:=.bool false) rfl (by kernel_rfl) rfl (fun W _=>exec_ltS Ty Tx false HLT.out rfl rfl) hm ?_
         go_simp
         refine aT 16 (v:=.bool false) rfl (by kernel_rfl) rfl (fun W _=>by go_simp) hm ?_
         go_simp
         refine wpAnyH_done (by kernel_rfl) ?_ _
         simp only [endsIn]
         have hmm9:=hm.below
         go_wp2_with fail
         have HMB2:Hid (∀y,y∈O.take u++x::O.drop u↔y∈A.take (q+1)∧Der (inB bl) y):=fun y=>by
          have e:y∈O.take u++x::O.drop u↔y∈O∨y=x:=by
           conv=>rhs;rw [←List.take_append_drop u O]
           simp only [List.mem_append,List.mem_cons]
           constructor
           ·rintro (h|h|h)
            ·exact Or.inl (Or.inl h)
            ·exact Or.inr h
            ·exact Or.inl (Or.inr h)
           ·rintro ((h|h)|h)
            ·exact Or.inl h
            ·exact Or.inr (Or.inr h)
            ·exact Or.inr (Or.inl h)
          rw [e,HMB.out y,HTK.out,List.mem_append,List.mem_singleton]
          constructor
          ·rintro (⟨h1,h2⟩|h)
           ·exact ⟨Or.inl h1,h2⟩
           ·rw [h];exact ⟨Or.inr rfl,HDX.out⟩
          ·rintro ⟨h1|h1,h2⟩
           ·exact Or.inl ⟨h1,h2⟩
           ·exact Or.inr h1
         have HOL2:Hid ((O.take u++x::O.drop u).length≤q+1):=by
          show _≤_
          rw [List.length_append,List.length_cons,List.length_take,List.length_drop]
          have h1:=HOL.out
          have h2:=HNO.out ()
          have h3:=HUN.out
          omega
         have HUC:Hid (u≤co):=Nat.le_trans HUN.out HCO.out
         go_wp2_with fail
         refine aq ?_
         refine ao (T:=fun W=>Mem w28 [] W []∧Below wz.heap.size wz W) (by kernel_rfl) hm ?_
         intro wc hbw hmw
         replace hm:Mem w28 [] wc []∧Below wz.heap.size wz wc:=⟨HMZ.out.call (hmm9.trans (hbw.mono hmm9.size)),hmm9.trans (hbw.mono hmm9.size)⟩
         clear hbw hmw
         refine aT 0 (v:=.slice (some ⟨bo,oo,none⟩) no co) rfl (by kernel_rfl) rfl (fun W _=>by go_simp) hm ?_
         go_simp
         refine aT 1 (v:=.int .i64 (u:Int)) rfl (by kernel_rfl) rfl (fun W _=>by go_simp) hm ?_
         go_simp
         refine aT 2 (v:=.slice (cutHi (some ⟨bo,oo,none⟩) co) u co) rfl (by kernel_rfl) rfl (fun W _=>eW u HUC.out rfl rfl rfl) hm ?_
         go_simp
         refine aT 4 (v:=.slice (some ⟨ba,oa,none⟩) na ck) rfl (by kernel_rfl) rfl (fun W _=>by go_simp) hm ?_
         go_simp
         refine aT 5 (v:=.int .i64 (q:Int)) rfl (by kernel_rfl) rfl (fun W _=>by go_simp) hm ?_
         go_simp
         refine aT 6 (v:=.pointer (some ⟨ba,oa+q * 3,none⟩)) rfl (by kernel_rfl) rfl (fun W _=>ak q rfl rfl rfl HLQ.out) hm ?_
         go_simp
         refine aT 7 (v:=.agg (tcs x (.slice px mx cx)).toArray) rfl (by kernel_rfl) rfl (fun W hW=>am rfl (HC.out W hW.2).1 (HC.out W hW.2).2.1 (HC.out W hW.2).2.2) hm ?_
         go_simp
         refine wpAnyH_all (rs:=[3,8]) (by kernel_rfl) (by simp) ?_
         intro i hi
         simp only [List.mem_cons,List.not_mem_nil,or_false] at hi
         rcases hi with rfl|rfl
         ·refine di 3 rfl rfl ?_
          intro K hK
          refine aN (base:=wz.heap.size) (l2:=O.take u) rfl rfl rfl hm.1 OT.nil (by rw [List.length_take];have h9:=HNO.out ();omega) (OT.nil.old (base:=wz.heap.size) (fun b hb=>hb) ((HSO.out.take HUN.out).below hm.2) hm.2.size) (by simp;omega) HWZ.out hm.2.size a6 ?_
          intro v64 w64 ho hg hb9 hm5
          have HO64:Hid (OT wz.heap.size w64 v64 (O.take u)):=(by rw [List.nil_append] at ho;exact ho)
          have hm6:Mem w28 [] w64 []∧Below wz.heap.size wz w64:=⟨hm5,Below.grownN hm.2 hg (fun b he=>by cases he) hm.2.size⟩
          clear hm ho hg hb9 hm5
          have hm:=hm6
          clear hm6
          refine wpList_nil ?_
          refine hK _ _ hm ?_
          clear hK K
          go_simp
          refine aO 8 (by kernel_rfl) rfl rfl ?_
          intro K hK
          refine bj x (.slice px mx cx) rfl rfl hm.1 ?_
          intro w69 g69 hb hg hm5
          have HR69:Hid (Row w69 g69 (tcs x (.slice px mx cx)) 24):=hm5.get 0 rfl
          have HO64B:Hid (OT wz.heap.size w69 v64 (O.take u)):=HO64.out.below hb
          have hn69:some g69≠v64.ownBlock:=HO64.out.ne hg
          have HSL69:Hid (SlT (FO w69 v64) w69 (.slice (some ⟨g69,0,none⟩) 1 1) [x]):=bO HR69.out (HO64B.out.old (fun b hb=>hb) (HXS.out.below (hm.2.trans (hb.mono hm.2.size))) (Nat.le_trans hm.2.size hb.size)) ⟨HR69.out.lt,hn69⟩
          have hm6:Mem w28 [] w69 []∧Below wz.heap.size wz w69:=⟨hm5.tail,hm.2.trans (hb.mono hm.2.size)⟩
          clear hm hb hg hm5 hn69
          have hm:=hm6
          clear hm6
          refine wpList_nil ?_
          refine hK _ _ hm ?_
          clear hK K
          go_simp
          refine aO 9 (by kernel_rfl) rfl rfl ?_
          intro K hK
          refine aN (base:=wz.heap.size) (l2:=[x]) rfl rfl rfl hm.1 HO64B.out rfl HSL69.out (by rw [List.length_take];omega) HWZ.out hm.2.size a6 ?_
          intro v70 w70 ho hg hb9 hm5
          have HO70:Hid (OT wz.heap.size w70 v70 (O.take u++[x])):=ho
          have hm6:Mem w28 [] w70 []∧Below wz.heap.size wz w70:=⟨hm5,Below.grownN hm.2 hg (fun b he=>(HO64B.out.lt he).1) hm.2.size⟩
          clear hm ho hg hb9 hm5
          have hm:=hm6
          clear hm6
          refine wpList_nil ?_
          refine hK _ _ hm ?_
          clear hK K
          go_simp
          refine aT 10 (v:=v70) rfl (by kernel_rfl) rfl (fun W _=>by go_simp) hm ?_
          go_simp
          refine wpAnyH_done (by kernel_rfl) ?_ _
          simp only [endsIn]
          obtain ⟨hma,hmb⟩:=hm
          have HB70:Hid (Below wz.heap.size wz w70):=hmb
          have hm:=hma
          clear hma hmb
          go_wp2_with (first
           | ((with_reducible refine af (some 74) (.slice 22 (.tmp 72) (some (.tmp 73)) none none) ?_);go_must (refine aa (.slice (offA (some ⟨bo,oo,none⟩) co u) (no - u) (co - u)) rfl (dm u HUN.out rfl rfl rfl) ?_))
           | ((with_reducible refine af (some 75) (.call {callee:=.builtin .append,args:=#[.tmp 71,.tmp 74],argTypes:=#[22,22]}) ?_);go_must (refine aN (base:=wz.heap.size) (v:=v70) (l2:=O.drop u) rfl rfl rfl hm HO70.out (by rw [List.length_drop];have h9:=HNO.out ();omega) (HO70.out.old (fun b hb=>hb) ((HSO.out.drop HUN.out).below HB70.out) HB70.out.size) (by rw [List.length_append,List.length_take];simp;omega) HWZ.out HB70.out.size a6 ?_);intro v75 w75 ho hg hb9 hm5;have HS75:Hid (SlT (fun b=>b<w75.heap.size) w75 v75 (O.take u++x::O.drop u)):=(by have h9:=ho.slt;rw [List.append_assoc] at h9;exact h9);clear hm ho hg hb9;have hm:=hm5;clear hm5))
          go_roundw
          case rel=>exact ⟨q+1,O.take u++x::O.drop u,by go_num,by omega,HS75.out,cZ HPW.out HLS.out HGT.out,HMB2.out,HOL2.out,hm⟩
          case measure=>simp [intOf];omega
         ·refine di 8 rfl rfl ?_
          intro K hK
          refine bj x (.slice px mx cx) rfl rfl hm.1 ?_
          intro w69 g69 hb hg hm5
          have HR69:Hid (Row w69 g69 (tcs x (.slice px mx cx)) 24):=hm5.get 0 rfl
          have HX69:Hid (SlT (fun b=>b<wz.heap.size) w69 (.slice px mx cx) x.l):=HXS.out.below (hm.2.trans (hb.mono hm.2.size))
          have hm6:Mem w28 [] w69 []∧Below wz.heap.size wz w69:=⟨hm5.tail,hm.2.trans (hb.mono hm.2.size)⟩
          clear hm hb hg hm5
          have hm:=hm6
          clear hm6
          refine wpList_nil ?_
          refine hK _ _ hm ?_
          clear hK K
          go_simp
          refine aO 3 (by kernel_rfl) rfl rfl ?_
          intro K hK
          refine aN (base:=wz.heap.size) (l2:=O.take u) rfl rfl rfl hm.1 OT.nil (by rw [List.length_take];have h9:=HNO.out ();omega) (OT.nil.old (base:=wz.heap.size) (fun b hb=>hb) ((HSO.out.take HUN.out).below hm.2) hm.2.size) (by simp;omega) HWZ.out hm.2.size a6 ?_
          intro v64 w64 ho hg hb9 hm5
          have HO64:Hid (OT wz.heap.size w64 v64 (O.take u)):=(by rw [List.nil_append] at ho;exact ho)
          have hb64:Below w69.heap.size w69 w64:=Below.grownN (Below.refl _ _) hg (fun b he=>by cases he) (Nat.le_refl _)
          have HO64B:Hid (OT wz.heap.size w64 v64 (O.take u)):=HO64.out
          have hn69:some g69≠v64.ownBlock:=fun h9=>by
           rcases hb9 with h8|h8
           ·rw [h8] at h9;cases h9
           ·rw [h8] at h9;have h7:=Option.some.inj h9;have h6:=HR69.out.lt;omega
          have HSL69:Hid (SlT (FO w64 v64) w64 (.slice (some ⟨g69,0,none⟩) 1 1) [x]):=bO (HR69.out.below' hb64) (HO64.out.old (fun b hb=>hb) (HX69.out.below hb64) (Nat.le_trans hm.2.size hb64.size)) ⟨(HR69.out.below' hb64).lt,hn69⟩
          have hm6:Mem w28 [] w64 []∧Below wz.heap.size wz w64:=⟨hm5,Below.grownN hm.2 hg (fun b he=>by cases he) hm.2.size⟩
          clear hm ho hg hb9 hm5 hn69 hb64
          have hm:=hm6
          clear hm6
          refine wpList_nil ?_
          refine hK _ _ hm ?_
          clear hK K
          go_simp
          refine aO 9 (by kernel_rfl) rfl rfl ?_
          intro K hK
          refine aN (base:=wz.heap.size) (l2:=[x]) rfl rfl rfl hm.1 HO64B.out rfl HSL69.out (by rw [List.length_take];omega) HWZ.out hm.2.size a6 ?_
          intro v70 w70 ho hg hb9 hm5
          have HO70:Hid (OT wz.heap.size w70 v70 (O.take u++[x])):=ho
          have hm6:Mem w28 [] w70 []∧Below wz.heap.size wz w70:=⟨hm5,Below.grownN hm.2 hg (fun b he=>(HO64B.out.lt he).1) hm.2.size⟩
          clear hm ho hg hb9 hm5
          have hm:=hm6
          clear hm6
          refine wpList_nil ?_
          refine hK _ _ hm ?_
          clear hK K
          go_simp
          refine aT 10 (v:=v70) rfl (by kernel_rfl) rfl (fun W _=>by go_simp) hm ?_
          go_simp
          refine wpAnyH_done (by kernel_rfl) ?_ _
          simp only [endsIn]
          obtain ⟨hma,hmb⟩:=hm
          have HB70:Hid (Below wz.heap.size wz w70):=hmb
          have hm:=hma
          clear hma hmb
          go_wp2_with (first
           | ((with_reducible refine af (some 74) (.slice 22 (.tmp 72) (some (.tmp 73)) none none) ?_);go_must (refine aa (.slice (offA (some ⟨bo,oo,none⟩) co u) (no - u) (co - u)) rfl (dm u HUN.out rfl rfl rfl) ?_))
           | ((with_reducible refine af (some 75) (.call {callee:=.builtin .append,args:=#[.tmp 71,.tmp 74],argTypes:=#[22,22]}) ?_);go_must (refine aN (base:=wz.heap.size) (v:=v70) (l2:=O.drop u) rfl rfl rfl hm HO70.out (by rw [List.length_drop];have h9:=HNO.out ();omega) (HO70.out.old (fun b hb=>hb) ((HSO.out.drop HUN.out).below HB70.out) HB70.out.size) (by rw [List.length_append,List.length_take];simp;omega) HWZ.out HB70.out.size a6 ?_);intro v75 w75 ho hg hb9 hm5;have HS75:Hid (SlT (fun b=>b<w75.heap.size) w75 v75 (O.take u++x::O.drop u)):=(by have h9:=ho.slt;rw [List.append_assoc] at h9;exact h9);clear hm ho hg hb9;have hm:=hm5;clear hm5))
          go_roundw
          case rel=>exact ⟨q+1,O.take u++x::O.drop u,by go_num,by omega,HS75.out,cZ HPW.out HLS.out HGT.out,HMB2.out,HOL2.out,hm⟩
          case measure=>simp [intOf];omega
       ·obtain rfl:u=no:=by omega
        have HGT:Hid (∀z,O[u]?=some z→txt x<txt z):=fun z hz=>by
         have h1:=(List.getElem?_eq_some_iff.1 hz).1
         have h2:=HNO.out ()
         omega
        clear hTx HMI hul
        go_wp2_with fail
        refine aq ?_
        refine ao (T:=fun W=>Mem wz [] W []) (by kernel_rfl) hm ?_
        intro wc hbw hmw
        replace hm:Mem wz [] wc []:=hmw
        clear hbw hmw
        refine aT 0 (v:=.int .i64 (u:Int)) rfl (by kernel_rfl) rfl (fun W _=>by go_simp) hm ?_
        go_simp
        refine aT 1 (v:=.slice po u co) rfl (by kernel_rfl) rfl (fun W _=>by go_simp) hm ?_
        go_simp
        refine aT 2 (v:=.int .i64 (u:Int)) rfl (by kernel_rfl) rfl (fun W _=>by go_simp) hm ?_
        go_simp
        refine aT 3 (v:=.bool false) rfl (by kernel_rfl) rfl (fun W _=>by go_simp) hm ?_
        go_simp
        refine aT 4 (v:=.bool false) rfl (by kernel_rfl) rfl (fun W _=>by go_simp) hm ?_
        go_simp
        refine ae 5 rfl (by kernel_rfl) (by kernel_rfl) (by kernel_rfl) rfl hm ?_
        go_simp
        refine ae 6 rfl (by kernel_rfl) (by kernel_rfl) (by kernel_rfl) rfl hm ?_
        go_simp
        refine ae 7 rfl (by kernel_rfl) (by kernel_rfl) (by kernel_rfl) rfl hm ?_
        go_simp
        refine ae 8 rfl (by kernel_rfl) (by kernel_rfl) (by kernel_rfl) rfl hm ?_
        go_simp
        refine ae 9 rfl (by kernel_rfl) (by kernel_rfl) (by kernel_rfl) rfl hm ?_
        go_simp
        refine ae 10 rfl (by kernel_rfl) (by kernel_rfl) (by kernel_rfl) rfl hm ?_
        go_simp
        refine ae 11 rfl (by kernel_rfl) (by kernel_rfl) (by kernel_rfl) rfl hm ?_
        go_simp
        refine ae 12 rfl (by kernel_rfl) (by kernel_rfl) (by kernel_rfl) rfl hm ?_
        go_simp
        refine ae 13 rfl (by kernel_rfl) (by kernel_rfl) (by kernel_rfl) rfl hm ?_
        go_simp
        refine ae 14 rfl (by kernel_rfl) (by kernel_rfl) (by kernel_rfl) rfl hm ?_
        go_simp
        refine ae 15 rfl (by kernel_rfl) (by kernel_rfl) (by kernel_rfl) rfl hm ?_
        go_simp
        refine aT 16 (v:=.bool false) rfl (by kernel_rfl) rfl (fun W _=>by go_simp) hm ?_
        go_simp
        refine wpAnyH_done (by kernel_rfl) ?_ _
        simp only [endsIn]
        have hmm9:=hm.below
        go_wp2_with fail
        have HMB2:Hid (∀y,y∈O.take u++x::O.drop u↔y∈A.take (q+1)∧Der (inB bl) y):=fun y=>by
         have e:y∈O.take u++x::O.drop u↔y∈O∨y=x:=by
          conv=>rhs;rw [←List.take_append_drop u O]
          simp only [List.mem_append,List.mem_cons]
          constructor
          ·rintro (h|h|h)
           ·exact Or.inl (Or.inl h)
           ·exact Or.inr h
           ·exact Or.inl (Or.inr h)
          ·rintro ((h|h)|h)
           ·exact Or.inl h
           ·exact Or.inr (Or.inr h)
           ·exact Or.inr (Or.inl h)
         rw [e,HMB.out y,HTK.out,List.mem_append,List.mem_singleton]
         constructor
         ·rintro (⟨h1,h2⟩|h)
          ·exact ⟨Or.inl h1,h2⟩
          ·rw [h];exact ⟨Or.inr rfl,HDX.out⟩
         ·rintro ⟨h1|h1,h2⟩
          ·exact Or.inl ⟨h1,h2⟩
          ·exact Or.inr h1
        have HOL2:Hid ((O.take u++x::O.drop u).length≤q+1):=by
         show _≤_
         rw [List.length_append,List.length_cons,List.length_take,List.length_drop]
         have h1:=HOL.out
         have h2:=HNO.out ()
         have h3:=HUN.out
         omega
        have HUC:Hid (u≤co):=Nat.le_trans HUN.out HCO.out
        go_wp2_with fail
        refine aq ?_
        refine ao (T:=fun W=>Mem w28 [] W []∧Below wz.heap.size wz W) (by kernel_rfl) hm ?_
        intro wc hbw hmw
        replace hm:Mem w28 [] wc []∧Below wz.heap.size wz wc:=⟨HMZ.out.call (hmm9.trans (hbw.mono hmm9.size)),hmm9.trans (hbw.mono hmm9.size)⟩
        clear hbw hmw
        refine aT 0 (v:=.slice po u co) rfl (by kernel_rfl) rfl (fun W _=>by go_simp) hm ?_
        go_simp
        refine aT 1 (v:=.int .i64 (u:Int)) rfl (by kernel_rfl) rfl (fun W _=>by go_simp) hm ?_
        go_simp
        refine aT 2 (v:=.slice (cutHi po co) u co) rfl (by kernel_rfl) rfl (fun W _=>eW u HUC.out rfl rfl rfl) hm ?_
        go_simp
        refine aT 4 (v:=.slice (some ⟨ba,oa,none⟩) na ck) rfl (by kernel_rfl) rfl (fun W _=>by go_simp) hm ?_
        go_simp
        refine aT 5 (v:=.int .i64 (q:Int)) rfl (by kernel_rfl) rfl (fun W _=>by go_simp) hm ?_
        go_simp
        refine aT 6 (v:=.pointer (some ⟨ba,oa+q * 3,none⟩)) rfl (by kernel_rfl) rfl (fun W _=>ak q rfl rfl rfl HLQ.out) hm ?_
        go_simp
        refine aT 7 (v:=.agg (tcs x (.slice px mx cx)).toArray) rfl (by kernel_rfl) rfl (fun W hW=>am rfl (HC.out W hW.2).1 (HC.out W hW.2).2.1 (HC.out W hW.2).2.2) hm ?_
        go_simp
        refine wpAnyH_all (rs:=[3,8]) (by kernel_rfl) (by simp) ?_
        intro i hi
        simp only [List.mem_cons,List.not_mem_nil,or_false] at hi
        rcases hi with rfl|rfl
        ·refine di 3 rfl rfl ?_
         intro K hK
         refine aN (base:=wz.heap.size) (l2:=O.take u) rfl rfl rfl hm.1 OT.nil (by rw [List.length_take];have h9:=HNO.out ();omega) (OT.nil.old (base:=wz.heap.size) (fun b hb=>hb) ((HSO.out.take HUN.out).below hm.2) hm.2.size) (by simp;omega) HWZ.out hm.2.size a6 ?_
         intro v64 w64 ho hg hb9 hm5
         have HO64:Hid (OT wz.heap.size w64 v64 (O.take u)):=(by rw [List.nil_append] at ho;exact ho)
         have hm6:Mem w28 [] w64 []∧Below wz.heap.size wz w64:=⟨hm5,Below.grownN hm.2 hg (fun b he=>by cases he) hm.2.size⟩
         clear hm ho hg hb9 hm5
         have hm:=hm6
         clear hm6
         refine wpList_nil ?_
         refine hK _ _ hm ?_
         clear hK K
         go_simp
         refine aO 8 (by kernel_rfl) rfl rfl ?_
         intro K hK
         refine bj x (.slice px mx cx) rfl rfl hm.1 ?_
         intro w69 g69 hb hg hm5
         have HR69:Hid (Row w69 g69 (tcs x (.slice px mx cx)) 24):=hm5.get 0 rfl
         have HO64B:Hid (OT wz.heap.size w69 v64 (O.take u)):=HO64.out.below hb
         have hn69:some g69≠v64.ownBlock:=HO64.out.ne hg
         have HSL69:Hid (SlT (FO w69 v64) w69 (.slice (some ⟨g69,0,none⟩) 1 1) [x]):=bO HR69.out (HO64B.out.old (fun b hb=>hb) (HXS.out.below (hm.2.trans (hb.mono hm.2.size))) (Nat.le_trans hm.2.size hb.size)) ⟨HR69.out.lt,hn69⟩
         have hm6:Mem w28 [] w69 []∧Below wz.heap.size wz w69:=⟨hm5.tail,hm.2.trans (hb.mono hm.2.size)⟩
         clear hm hb hg hm5 hn69
         have hm:=hm6
         clear hm6
         refine wpList_nil ?_
         refine hK _ _ hm ?_
         clear hK K
         go_simp
         refine aO 9 (by kernel_rfl) rfl rfl ?_
         intro K hK
         refine aN (base:=wz.heap.size) (l2:=[x]) rfl rfl rfl hm.1 HO64B.out rfl HSL69.out (by rw [List.length_take];omega) HWZ.out hm.2.size a6 ?_
         intro v70 w70 ho hg hb9 hm5
         have HO70:Hid (OT wz.heap.size w70 v70 (O.take u++[x])):=ho
         have hm6:Mem w28 [] w70 []∧Below wz.heap.size wz w70:=⟨hm5,Below.grownN hm.2 hg (fun b he=>(HO64B.out.lt he).1) hm.2.size⟩
         clear hm ho hg hb9 hm5
         have hm:=hm6
         clear hm6
         refine wpList_nil ?_
         refine hK _ _ hm ?_
         clear hK K
         go_simp
         refine aT 10 (v:=v70) rfl (by kernel_rfl) rfl (fun W _=>by go_simp) hm ?_
         go_simp
         refine wpAnyH_done (by kernel_rfl) ?_ _
         simp only [endsIn]
         obtain ⟨hma,hmb⟩:=hm
         have HB70:Hid (Below wz.heap.size wz w70):=hmb
         have hm:=hma
         clear hma hmb
         go_wp2_with (first
          | ((with_reducible refine af (some 74) (.slice 22 (.tmp 72) (some (.tmp 73)) none none) ?_);go_must (refine aa (.slice (offA po co u) (u - u) (co - u)) rfl (dm u HUN.out rfl rfl rfl) ?_))
          | ((with_reducible refine af (some 75) (.call {callee:=.builtin .append,args:=#[.tmp 71,.tmp 74],argTypes:=#[22,22]}) ?_);go_must (refine aN (base:=wz.heap.size) (v:=v70) (l2:=O.drop u) rfl rfl rfl hm HO70.out (by rw [List.length_drop];have h9:=HNO.out ();omega) (HO70.out.old (fun b hb=>hb) ((HSO.out.drop HUN.out).below HB70.out) HB70.out.size) (by rw [List.length_append,List.length_take];simp;omega) HWZ.out HB70.out.size a6 ?_);intro v75 w75 ho hg hb9 hm5;have HS75:Hid (SlT (fun b=>b<w75.heap.size) w75 v75 (O.take u++x::O.drop u)):=(by have h9:=ho.slt;rw [List.append_assoc] at h9;exact h9);clear hm ho hg hb9;have hm:=hm5;clear hm5))
         go_roundw
         case rel=>exact ⟨q+1,O.take u++x::O.drop u,by go_num,by omega,HS75.out,cZ HPW.out HLS.out HGT.out,HMB2.out,HOL2.out,hm⟩
         case measure=>simp [intOf];omega
        ·refine di 8 rfl rfl ?_
         intro K hK
         refine bj x (.slice px mx cx) rfl rfl hm.1 ?_
         intro w69 g69 hb hg hm5
         have HR69:Hid (Row w69 g69 (tcs x (.slice px mx cx)) 24):=hm5.get 0 rfl
         have HX69:Hid (SlT (fun b=>b<wz.heap.size) w69 (.slice px mx cx) x.l):=HXS.out.below (hm.2.trans (hb.mono hm.2.size))
         have hm6:Mem w28 [] w69 []∧Below wz.heap.size wz w69:=⟨hm5.tail,hm.2.trans (hb.mono hm.2.size)⟩
         clear hm hb hg hm5
         have hm:=hm6
         clear hm6
         refine wpList_nil ?_
         refine hK _ _ hm ?_
         clear hK K
         go_simp
         refine aO 3 (by kernel_rfl) rfl rfl ?_
         intro K hK
         refine aN (base:=wz.heap.size) (l2:=O.take u) rfl rfl rfl hm.1 OT.nil (by rw [List.length_take];have h9:=HNO.out ();omega) (OT.nil.old (base:=wz.heap.size) (fun b hb=>hb) ((HSO.out.take HUN.out).below hm.2) hm.2.size) (by simp;omega) HWZ.out hm.2.size a6 ?_
         intro v64 w64 ho hg hb9 hm5
         have HO64:Hid (OT wz.heap.size w64 v64 (O.take u)):=(by rw [List.nil_append] at ho;exact ho)
         have hb64:Below w69.heap.size w69 w64:=Below.grownN (Below.refl _ _) hg (fun b he=>by cases he) (Nat.le_refl _)
         have HO64B:Hid (OT wz.heap.size w64 v64 (O.take u)):=HO64.out
         have hn69:some g69≠v64.ownBlock:=fun h9=>by
          rcases hb9 with h8|h8
          ·rw [h8] at h9;cases h9
          ·rw [h8] at h9;have h7:=Option.some.inj h9;have h6:=HR69.out.lt;omega
         have HSL69:Hid (SlT (FO w64 v64) w64 (.slice (some ⟨g69,0,none⟩) 1 1) [x]):=bO (HR69.out.below' hb64) (HO64.out.old (fun b hb=>hb) (HX69.out.below hb64) (Nat.le_trans hm.2.size hb64.size)) ⟨(HR69.out.below' hb64).lt,hn69⟩
         have hm6:Mem w28 [] w64 []∧Below wz.heap.size wz w64:=⟨hm5,Below.grownN hm.2 hg (fun b he=>by cases he) hm.2.size⟩
         clear hm ho hg hb9 hm5 hn69 hb64
         have hm:=hm6
         clear hm6
         refine wpList_nil ?_
         refine hK _ _ hm ?_
         clear hK K
         go_simp
         refine aO 9 (by kernel_rfl) rfl rfl ?_
         intro K hK
         refine aN (base:=wz.heap.size) (l2:=[x]) rfl rfl rfl hm.1 HO64B.out rfl HSL69.out (by rw [List.length_take];omega) HWZ.out hm.2.size a6 ?_
         intro v70 w70 ho hg hb9 hm5
         have HO70:Hid (OT wz.heap.size w70 v70 (O.take u++[x])):=ho
         have hm6:Mem w28 [] w70 []∧Below wz.heap.size wz w70:=⟨hm5,Below.grownN hm.2 hg (fun b he=>(HO64B.out.lt he).1) hm.2.size⟩
         clear hm ho hg hb9 hm5
         have hm:=hm6
         clear hm6
         refine wpList_nil ?_
         refine hK _ _ hm ?_
         clear hK K
         go_simp
         refine aT 10 (v:=v70) rfl (by kernel_rfl) rfl (fun W _=>by go_simp) hm ?_
         go_simp
         refine wpAnyH_done (by kernel_rfl) ?_ _
         simp only [endsIn]
         obtain ⟨hma,hmb⟩:=hm
         have HB70:Hid (Below wz.heap.size wz w70):=hmb
         have hm:=hma
         clear hma hmb
         go_wp2_with (first
          | ((with_reducible refine af (some 74) (.slice 22 (.tmp 72) (some (.tmp 73)) none none) ?_);go_must (refine aa (.slice (offA po co u) (u - u) (co - u)) rfl (dm u HUN.out rfl rfl rfl) ?_))
          | ((with_reducible refine af (some 75) (.call {callee:=.builtin .append,args:=#[.tmp 71,.tmp 74],argTypes:=#[22,22]}) ?_);go_must (refine aN (base:=wz.heap.size) (v:=v70) (l2:=O.drop u) rfl rfl rfl hm HO70.out (by rw [List.length_drop];have h9:=HNO.out ();omega) (HO70.out.old (fun b hb=>hb) ((HSO.out.drop HUN.out).below HB70.out) HB70.out.size) (by rw [List.length_append,List.length_take];simp;omega) HWZ.out HB70.out.size a6 ?_);intro v75 w75 ho hg hb9 hm5;have HS75:Hid (SlT (fun b=>b<w75.heap.size) w75 v75 (O.take u++x::O.drop u)):=(by have h9:=ho.slt;rw [List.append_assoc] at h9;exact h9);clear hm ho hg hb9;have hm:=hm5;clear hm5))
         go_roundw
         case rel=>exact ⟨q+1,O.take u++x::O.drop u,by go_num,by omega,HS75.out,cZ HPW.out HLS.out HGT.out,HMB2.out,HOL2.out,hm⟩
         case measure=>simp [intOf];omega
     ·have HDX:Hid (¬Der (inB bl) x):=hd
      have HBV:=HBU false ⟨(fun h=>by cases h),fun h=>absurd ((HT.out.1.iff x).1 h) hd⟩
      have HMB2:Hid (∀y,y∈O↔y∈A.take (q+1)∧Der (inB bl) y):=fun y=>by
       rw [HMB.out y,HTK.out,List.mem_append,List.mem_singleton]
       constructor
       ·rintro ⟨h1,h2⟩;exact ⟨Or.inl h1,h2⟩
       ·rintro ⟨h1|h1,h2⟩
        ·exact ⟨h1,h2⟩
        ·rw [h1] at h2;exact absurd h2 hd
      have hol:O.length≤q+1:=by have:=HOL.out;omega
      clear HBU hd
      go_wp2_with (first
       | ((with_reducible refine af (some 38) (.indexAddr 22 (.tmp 36) (.tmp 37)) ?_);go_must (refine aa (.pointer (some ⟨ba,oa+q * 3,none⟩)) rfl (ak q rfl rfl rfl hqt) ?_))
       | ((with_reducible refine af (some 39) (.load 24 (.tmp 38)) ?_);go_must (refine aa (.agg (tcs x (.slice px mx cx)).toArray) rfl (am rfl (HC.out _ hm.below).1 (HC.out _ hm.below).2.1 (HC.out _ hm.below).2.2) ?_))
       | (go_at_call 30;go_must (refine (HBV.out _ hm.below).mono ?_);rintro e w40 ⟨he,hb⟩;subst he;have HS40:Hid (SlT (fun b=>b<w40.heap.size) w40 (.slice po no co) O):=((HSO.out.below hb).weak (fun b h9=>Nat.lt_of_lt_of_le h9 hb.size));replace hm:=hm.call hb;clear hb))
      go_roundw
      case rel=>exact ⟨q+1,O,by go_num,by omega,HS40.out,HPW.out,HMB2.out,hol,HMZ.out.call hm.below⟩
      case measure=>simp [intOf];omega
    ·obtain rfl:q=na:=by omega
     have hkq:¬(q:Int)<(q:Int):=by omega
     have hm:=HMM.out
     have HFIN:Hid (AllIs bl O):=⟨fun x=>by rw [HMB.out x,HNL.out (),List.take_length,HAW.out x],HPW.out⟩
     clear HMM
     go_wp2_with fail
     go_ret
     exact ⟨_,rfl,O,HFIN.out,HSO.out,HBE.out.trans (hm.below.mono HBE.out.size)⟩
end Go.Proofs.YtcibhfcjbokdlaaGreatDoor
