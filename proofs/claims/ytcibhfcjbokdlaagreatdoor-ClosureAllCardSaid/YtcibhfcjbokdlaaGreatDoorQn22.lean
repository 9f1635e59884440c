import Derived.Test.YtcibhfcjbokdlaaGreatDoorQn12
import Derived.Test.YtcibhfcjbokdlaaGreatDoorQn21
import Derived.Sort.Walk0
import Derived.Test.YtcibhfcjbokdlaaGreatDoorQn17
import Derived.Deep.LoopGhost
import Derived.Test.YtcibhfcjbokdlaaGreatDoorQn18
set_option maxRecDepth 100000
set_option maxHeartbeats 4000000
namespace Go.Proofs.YtcibhfcjbokdlaaGreatDoor
open Go Go.RowKit
theorem dR:Tryz.prog.underlying 90=some (.slice 5):=Tryz.underlying90
theorem dig_one {n:Int} (h0:0≤n) (h:n<10):strOf [48+n]=mkS (dig n):=by
 unfold dig strOf mkS
 rw [if_pos h]
 simp only [List.map_cons,List.map_nil]
 congr 4
 omega
theorem dig_two {n:Int} (h:¬n<10):strOf [48+n / 10,48+n % 10]=mkS (dig n):=by
 unfold dig strOf mkS
 rw [if_neg h]
 simp only [List.map_cons,List.map_nil]
 rw [show (48+n / 10).toNat=48+n.toNat / 10 by omega,show (48+n % 10).toNat=48+n.toNat % 10 by omega]
theorem num_any (n:Int) (h0:0≤n) (h9:n≤99) (w:World) :
  Calls Tryz.prog 49 #[.int .i64 n] w fun e w'=>e=.returned (.string (mkS (dig n)))∧Below w.heap.size w w':=by
 have hm:=Mem.start w
 by_cases h:n<10
 ·have hd:decide (9<n)=false:=decide_eq_false (by omega)
  have HD:Hid (strOf [48+n]=mkS (dig n)):=dig_one h0 h
  have hw1:IntKind.i64.wrap (48+n)=48+n:=bg _ (by omega) (by omega)
  have hw2:IntKind.u8.wrap (48+n)=48+n:=by simp [IntKind.wrap,IntKind.bits,IntKind.signed];omega
  have hng:¬9<n:=by omega
  go_enter Tryz.func49,Tryz.ntmps49
  go_wp2_with (first
   | ((with_reducible refine af (some 18) (.buildSlice 90 1 #[(0,.tmp 17)]) ?_);go_must (refine bB rfl (.int .u8 0) (.int .u8 (48+n)) dR info_u8 rfl rfl rfl hm ?_);clear hm;intro w1 g1 hb1 hm;clear hb1)
   | ((with_reducible refine af (some 19) (.convert 90 9 (.tmp 18)) ?_);go_must (refine wpl_tostr dR un_u8 dQ [48+n] 1 (hm.get 0 rfl) rfl rfl ?_)))
  go_ret
  exact ⟨by rw [←HD.out];rfl,hm.below⟩
 ·have hd:decide (9<n)=true:=decide_eq_true (by omega)
  have HD:Hid (strOf [48+n / 10,48+n % 10]=mkS (dig n)):=dig_two h
  have hw1:IntKind.i64.wrap (48+n / 10)=48+n / 10:=bg _ (by omega) (by omega)
  have hw2:IntKind.u8.wrap (48+n / 10)=48+n / 10:=by simp [IntKind.wrap,IntKind.bits,IntKind.signed];omega
  have hw3:IntKind.i64.wrap (48+n % 10)=48+n % 10:=bg _ (by omega) (by omega)
  have hw4:IntKind.u8.wrap (48+n % 10)=48+n % 10:=by simp [IntKind.wrap,IntKind.bits,IntKind.signed];omega
  have hng:9<n:=by omega
  have hw5:IntKind.i64.wrap (n / 10)=n / 10:=bg _ (by omega) (by omega)
  go_enter Tryz.func49,Tryz.ntmps49
  go_wp2_with (first
   | ((with_reducible refine af (some 13) (.buildSlice 90 2 #[(0,.tmp 8),(1,.tmp 12)]) ?_);go_must (refine wpl_bsl2 (.int .u8 0) (.int .u8 (48+n / 10)) (.int .u8 (48+n % 10)) dR info_u8 rfl rfl rfl rfl rfl hm ?_);clear hm;intro w1 g1 hb1 hm;clear hb1)
   | ((with_reducible refine af (some 14) (.convert 90 9 (.tmp 13)) ?_);go_must (refine wpl_tostr dR un_u8 dQ [48+n / 10,48+n % 10] 2 (hm.get 0 rfl) rfl rfl ?_)))
  go_ret
  exact ⟨by rw [←HD.out];rfl,hm.below⟩
theorem txt_1 {t:Tm} (h:t.k=1):txt t=[110]++dig t.n:=by rw [b7,h];simp [hdT,wd,nb,kn]
theorem txt_2 {t:Tm} (h:t.k=2):txt t=[107]++dig t.n:=by rw [b7,h];simp [hdT,wd,nb,kn]
theorem txt_3 {t x y:Tm} (h:t.k=3) (hl:t.l=[x,y]):txt t=[115,101,97,108,40]++txt x++[44]++txt y++[41]:=by rw [b7,h,hl];simp [hdT,wd,nb,kn,jnB]
theorem txt_4 {t x y:Tm} (h:t.k=4) (hl:t.l=[x,y]):txt t=[40]++txt x++[44]++txt y++[41]:=by rw [b7,h,hl];simp [hdT,wd,nb,kn,jnB]
theorem txt_5 {t x:Tm} (h:t.k=5) (hl:t.l=[x]):txt t=[100]++dig t.n++[40]++txt x++[41]:=by rw [b7,h,hl];simp [hdT,wd,nb,kn,jnB]
theorem cD (a b:List UInt8):mkS (a++b)=mkS a++mkS b:=aZ a b
theorem len_two {l:List Tm} (h:l.length=2):∃x y,l=[x,y]:=by
 match l,h with
 | [x,y],_=>exact ⟨x,y,rfl⟩
theorem len_one {l:List Tm} (h:l.length=1):∃x,l=[x]:=by
 match l,h with
 | [x],_=>exact ⟨x,rfl⟩
theorem print_1 {F:Nat→Prop} (t:Tm) (s:Value) (w:World) (hs:SlT F w s t.l) (hok:okT t=true) (hk:t.k=1) :
  Calls Tryz.prog 36 #[.agg (tcs t s).toArray] w fun e w'=>e=.returned (.string (mkS (txt t)))∧Below w.heap.size w w':=by
 have hn99:=okF_n (a7 hok)
 have hml:t.l.length=0:=by have:=bK (a7 hok);rw [this,hk];rfl
 obtain ⟨n,hnn⟩:∃n,n=t.n:=⟨_,rfl⟩
 rw [←hnn] at hn99
 have HX:Hid (∀_:Unit,mkS (txt t)=mkS ([110]++dig n)):=fun _=>by rw [txt_1 hk,hnn]
 obtain ⟨p,c,rfl,_⟩:=hs.len
 rw [hml]
 have HNU:Hid (∀W,Below w.heap.size w W→Calls Tryz.prog 49 #[.int .i64 n] W fun e w'=>e=.returned (.string (mkS (dig n)))∧Below W.heap.size W w'):=fun W _=>num_any n hn99.1 hn99.2 W
 have HDL:Hid ((mkS (dig n)).size≤10):=by show _≤_;rw [aw];have:=(dk n).2;omega
 have HE:Hid (tcs t (.slice p 0 c)=[.int .i64 1,.int .i64 n,.slice p 0 c]):=by show _=_;rw [tcs,hk,←hnn]
 rw [HE.out]
 obtain ⟨R,hR⟩:∃R,R=mkS ([110]++dig n):=⟨_,rfl⟩
 have HRA:Hid (∀_:Unit,R=⟨#[110]⟩++mkS (dig n)):=fun _=>by rw [hR,cD];rfl
 have HXR:Hid (∀_:Unit,mkS (txt t)=R):=fun _=>by rw [HX.out (),hR]
 obtain ⟨D,hD⟩:∃D,D=mkS (dig n):=⟨_,rfl⟩
 rw [←hD] at HNU HDL HRA
 clear hs hml hk hnn hR HX hD hok HE
 have hm:=Mem.start w
 go_enter Tryz.func36,Tryz.ntmps36
 go_wp2_with (first
  | ((with_reducible refine af (some 1) (.box 24 (.tmp 0)) ?_);go_must (refine ax [.int .i64 1,.int .i64 n,.slice p 0 c] rfl hm ?_);clear hm;intro w1 g1 hm)
  | ((with_reducible refine af (some 4) (.load 3 (.tmp 3)) ?_);go_must (refine ad (.int .i64 1) rfl (ae (.int .i64 1) (Mem.cell hm 0 rfl 0) rfl ag) ?_))
  | ((with_reducible refine af (some 8) (.load 3 (.tmp 7)) ?_);go_must (refine ad (.int .i64 n) rfl (ae (.int .i64 n) (Mem.cell hm 0 rfl 1) rfl ag) ?_))
  | (go_at_call 49;go_must (refine (HNU.out _ hm.below).mono ?_);rintro e w9 ⟨he,hb⟩;subst he;replace hm:=hm.call hb;clear hb)
  | ((with_reducible refine af (some 10) (.binOp .add 9 (.const (.string {data:=#[110]})) (.tmp 9) 9) ?_);go_must (refine ad (.string R) rfl (aC ⟨#[110]⟩ D R (HRA.out ()) rfl rfl (by exact Nat.le_trans (Nat.add_le_add_left HDL.out 1) (by omega))) ?_)))
 go_ret
 exact ⟨by rw [HXR.out ()];rfl,hm.below⟩
theorem print_2 {F:Nat→Prop} (t:Tm) (s:Value) (w:World) (hs:SlT F w s t.l) (hok:okT t=true) (hk:t.k=2) :
  Calls Tryz.prog 36 #[.agg (tcs t s).toArray] w fun e w'=>e=.returned (.string (mkS (txt t)))∧Below w.heap.size w w':=by
 have hn99:=okF_n (a7 hok)
 have hml:t.l.length=0:=by have:=bK (a7 hok);rw [this,hk];rfl
 obtain ⟨n,hnn⟩:∃n,n=t.n:=⟨_,rfl⟩
 rw [←hnn] at hn99
 have HX:Hid (∀_:Unit,mkS (txt t)=mkS ([107]++dig n)):=fun _=>by rw [txt_2 hk,hnn]
 obtain ⟨p,c,rfl,_⟩:=hs.len
 rw [hml]
 have HNU:Hid (∀W,Below w.heap.size w W→Calls Tryz.prog 49 #[.int .i64 n] W fun e w'=>e=.returned (.string (mkS (dig n)))∧Below W.heap.size W w'):=fun W _=>num_any n hn99.1 hn99.2 W
 have HDL:Hid ((mkS (dig n)).size≤10):=by show _≤_;rw [aw];have:=(dk n).2;omega
 have HE:Hid (tcs t (.slice p 0 c)=[.int .i64 2,.int .i64 n,.slice p 0 c]):=by show _=_;rw [tcs,hk,←hnn]
 rw [HE.out]
 obtain ⟨R,hR⟩:∃R,R=mkS ([107]++dig n):=⟨_,rfl⟩
 have HRA:Hid (∀_:Unit,R=⟨#[107]⟩++mkS (dig n)):=fun _=>by rw [hR,cD];rfl
 have HXR:Hid (∀_:Unit,mkS (txt t)=R):=fun _=>by rw [HX.out (),hR]
 obtain ⟨D,hD⟩:∃D,D=mkS (dig n):=⟨_,rfl⟩
 rw [←hD] at HNU HDL HRA
 clear hs hml hk hnn hR HX hD hok HE
 have hm:=Mem.start w
 go_enter Tryz.func36,Tryz.ntmps36
 go_wp2_with (first
  | ((with_reducible refine af (some 1) (.box 24 (.tmp 0)) ?_);go_must (refine ax [.int .i64 2,.int .i64 n,.slice p 0 c] rfl hm ?_);clear hm;intro w1 g1 hm)
  | ((with_reducible refine af (some 4) (.load 3 (.tmp 3)) ?_);go_must (refine ad (.int .i64 2) rfl (ae (.int .i64 2) (Mem.cell hm 0 rfl 0) rfl ag) ?_))
  | ((with_reducible refine af (some 14) (.load 3 (.tmp 13)) ?_);go_must (refine ad (.int .i64 n) rfl (ae (.int .i64 n) (Mem.cell hm 0 rfl 1) rfl ag) ?_))
  | (go_at_call 49;go_must (refine (HNU.out _ hm.below).mono ?_);rintro e w9 ⟨he,hb⟩;subst he;replace hm:=hm.call hb;clear hb)
  | ((with_reducible refine af (some 16) (.binOp .add 9 (.const (.string {data:=#[107]})) (.tmp 15) 9) ?_);go_must (refine ad (.string R) rfl (aC ⟨#[107]⟩ D R (HRA.out ()) rfl rfl (by exact Nat.le_trans (Nat.add_le_add_left HDL.out 1) (by omega))) ?_)))
 go_ret
 exact ⟨by rw [HXR.out ()];rfl,hm.below⟩
theorem print_3 {F:Nat→Prop} (t:Tm) (ih:∀x∈t.l,∀(s:Value) (w:World),SlT F w s x.l→okT x=true→cnt x≤1000→Calls Tryz.prog 36 #[.agg (tcs x s).toArray] w fun e w'=>e=.returned (.string (mkS (txt x)))∧Below w.heap.size w w') (s:Value) (w:World) (hs:SlT F w s t.l) (hok:okT t=true) (hc:cnt t≤1000) (hk:t.k=3) :
  Calls Tryz.prog 36 #[.agg (tcs t s).toArray] w fun e w'=>e=.returned (.string (mkS (txt t)))∧Below w.heap.size w w':=by
 have hn99:=okF_n (a7 hok)
 have hml:t.l.length=2:=by have:=bK (a7 hok);rw [this,hk];rfl
 obtain ⟨n,hnn⟩:∃n,n=t.n:=⟨_,rfl⟩
 rw [←hnn] at hn99
 obtain ⟨x,y,hl⟩:=len_two hml
 obtain ⟨Xx,hXx⟩:∃X,X=mkS (txt x):=⟨_,rfl⟩
 obtain ⟨Xy,hXy⟩:∃X,X=mkS (txt y):=⟨_,rfl⟩
 obtain ⟨p,c,rfl,_⟩:=hs.len
 rw [hml] at hs ⊢
 obtain ⟨b,o,rfl⟩:=hs.at (by omega)
 have hs2:=hs
 obtain ⟨px,mx,cx,ax0,ax1,ax2,ex,hsx⟩:=hs2.cells (show t.l[0]?=some x by rw [hl];rfl)
 have HCx:Hid (∀W,Below w.heap.size w W→W.cell? ⟨b,o+0 * 3,none⟩=some (.int .i64 x.k)∧W.cell? ⟨b,o+0 * 3+1,none⟩=some (.int .i64 x.n)∧W.cell? ⟨b,o+0 * 3+2,none⟩=some (.slice px mx cx)):=fun W hW=>⟨(hW.cell (p:=⟨b,_,none⟩) (block_lt_of_cell ax0)).trans ax0,(hW.cell (p:=⟨b,_,none⟩) (block_lt_of_cell ax1)).trans ax1,(hW.cell (p:=⟨b,_,none⟩) (block_lt_of_cell ax2)).trans ax2⟩
 have HPx:Hid (∀W,Below w.heap.size w W→Calls Tryz.prog 36 #[.agg (tcs x (.slice px mx cx)).toArray] W fun e w'=>e=.returned (.string Xx)∧Below W.heap.size W w'):=fun W hW=>by rw [hXx];exact ih x (by rw [hl];simp) _ W (hsx.below hW) (aS hok (by rw [hl];simp)) (Nat.le_trans (Nat.le_of_lt (bw (t:=t) (by rw [hl];simp))) hc)
 have HLx:Hid (Xx.size≤8000):=by show _≤_;rw [hXx,aw];have h1:=cN x (aS hok (by rw [hl];simp));have h2:=bw (t:=t) (x:=x) (by rw [hl];simp);omega
 obtain ⟨py,my,cy,ay0,ay1,ay2,ey,hsy⟩:=hs2.cells (show t.l[1]?=some y by rw [hl];rfl)
 have HCy:Hid (∀W,Below w.heap.size w W→W.cell? ⟨b,o+1 * 3,none⟩=some (.int .i64 y.k)∧W.cell? ⟨b,o+1 * 3+1,none⟩=some (.int .i64 y.n)∧W.cell? ⟨b,o+1 * 3+2,none⟩=some (.slice py my cy)):=fun W hW=>⟨(hW.cell (p:=⟨b,_,none⟩) (block_lt_of_cell ay0)).trans ay0,(hW.cell (p:=⟨b,_,none⟩) (block_lt_of_cell ay1)).trans ay1,(hW.cell (p:=⟨b,_,none⟩) (block_lt_of_cell ay2)).trans ay2⟩
 have HPy:Hid (∀W,Below w.heap.size w W→Calls Tryz.prog 36 #[.agg (tcs y (.slice py my cy)).toArray] W fun e w'=>e=.returned (.string Xy)∧Below W.heap.size W w'):=fun W hW=>by rw [hXy];exact ih y (by rw [hl];simp) _ W (hsy.below hW) (aS hok (by rw [hl];simp)) (Nat.le_trans (Nat.le_of_lt (bw (t:=t) (by rw [hl];simp))) hc)
 have HLy:Hid (Xy.size≤8000):=by show _≤_;rw [hXy,aw];have h1:=cN y (aS hok (by rw [hl];simp));have h2:=bw (t:=t) (x:=y) (by rw [hl];simp);omega
 obtain ⟨A1,hA1⟩:∃A,A=⟨#[115,101,97,108,40]⟩++Xx:=⟨_,rfl⟩
 obtain ⟨A2,hA2⟩:∃A,A=A1++⟨#[44]⟩:=⟨_,rfl⟩
 obtain ⟨A3,hA3⟩:∃A,A=A2++Xy:=⟨_,rfl⟩
 obtain ⟨A4,hA4⟩:∃A,A=A3++⟨#[41]⟩:=⟨_,rfl⟩
 have HX:Hid (∀_:Unit,mkS (txt t)=A4):=fun _=>by
  rw [txt_3 hk hl,hA4,hA3,hA2,hA1,hXx,hXy]
  simp only [cD]
  rfl
 have hz1:A1.size=5+Xx.size:=by rw [hA1,ByteArray.size_append];rfl
 have hz2:A2.size=A1.size+1:=by rw [hA2,ByteArray.size_append];rfl
 have hz3:A3.size=A2.size+Xy.size:=by rw [hA3,ByteArray.size_append]
 have HZ:Hid (A1.size≤10000∧A2.size≤10000∧A3.size≤20000):=by
  have h1:=HLx.out
  have h2:=HLy.out
  exact ⟨by omega,by omega,by omega⟩
 have HA1:Hid (∀_:Unit,A1=⟨#[115,101,97,108,40]⟩++Xx):=fun _=>hA1
 have HA2:Hid (∀_:Unit,A2=A1++⟨#[44]⟩):=fun _=>hA2
 have HA3:Hid (∀_:Unit,A3=A2++Xy):=fun _=>hA3
 have HA4:Hid (∀_:Unit,A4=A3++⟨#[41]⟩):=fun _=>hA4
 have HE:Hid (tcs t (.slice (some ⟨b,o,none⟩) 2 c)=[.int .i64 3,.int .i64 n,.slice (some ⟨b,o,none⟩) 2 c]):=by show _=_;rw [tcs,hk,←hnn]
 rw [HE.out]
 clear hs hs2 hml hk hnn hl hok hc hXx hXy hA1 hA2 hA3 hA4 hz1 hz2 hz3 HE ih hn99 ax0 ax1 ax2 ay0 ay1 ay2 ex ey hsx hsy
 have hm:=Mem.start w
 go_enter Tryz.func36,Tryz.ntmps36
 go_wp2_with (first
  | ((with_reducible refine af (some 1) (.box 24 (.tmp 0)) ?_);go_must (refine ax [.int .i64 3,.int .i64 n,.slice (some ⟨b,o,none⟩) 2 c] rfl hm ?_);clear hm;intro w1 g1 hm)
  | ((with_reducible refine af (some 4) (.load 3 (.tmp 3)) ?_);go_must (refine ad (.int .i64 3) rfl (ae (.int .i64 3) (Mem.cell hm 0 rfl 0) rfl ag) ?_)))
 refine aq ?_
 refine am (T:=fun W=>Mem w [] W [(g1,[.int .i64 3,.int .i64 n,.slice (some ⟨b,o,none⟩) 2 c],24)]) (by kernel_rfl) hm ?_
 intro wc hbw hmw
 replace hm:Mem w [] wc [(g1,[.int .i64 3,.int .i64 n,.slice (some ⟨b,o,none⟩) 2 c],24)]:=hmw
 clear hbw hmw
 refine aT 0 (v:=.pointer (some ⟨g1,2,none⟩)) rfl (by kernel_rfl) rfl (fun W _=>by go_simp) hm ?_
 go_simp
 refine aT 1 (v:=.slice (some ⟨b,o,none⟩) 2 c) rfl (by kernel_rfl) rfl (fun W hW=>ae (.slice (some ⟨b,o,none⟩) 2 c) (((Mem.get hW 0 rfl).cell 2).trans rfl) rfl ah) hm ?_
 go_simp
 refine aT 2 (v:=.pointer (some ⟨b,o+0 * 3,none⟩)) rfl (by kernel_rfl) rfl (fun W _=>au 0 rfl rfl rfl (by omega)) hm ?_
 go_simp
 refine aT 3 (v:=.agg (tcs x (.slice px mx cx)).toArray) rfl (by kernel_rfl) rfl (fun W hW=>av rfl (HCx.out W hW.below).1 (HCx.out W hW.below).2.1 (HCx.out W hW.below).2.2) hm ?_
 go_simp
 refine aT 7 (v:=.pointer (some ⟨g1,2,none⟩)) rfl (by kernel_rfl) rfl (fun W _=>by go_simp) hm ?_
 go_simp
 refine aT 8 (v:=.slice (some ⟨b,o,none⟩) 2 c) rfl (by kernel_rfl) rfl (fun W hW=>ae (.slice (some ⟨b,o,none⟩) 2 c) (((Mem.get hW 0 rfl).cell 2).trans rfl) rfl ah) hm ?_
 go_simp
 refine aT 9 (v:=.pointer (some ⟨b,o+1 * 3,none⟩)) rfl (by kernel_rfl) rfl (fun W _=>au 1 rfl rfl rfl (by omega)) hm ?_
 go_simp
 refine aT 10 (v:=.agg (tcs y (.slice py my cy)).toArray) rfl (by kernel_rfl) rfl (fun W hW=>av rfl (HCy.out W hW.below).1 (HCy.out W hW.below).2.1 (HCy.out W hW.below).2.2) hm ?_
 go_simp
 refine aO 4 (by kernel_rfl) rfl rfl ?_
 intro K hK
 go_wp2_with (go_at_call 36;refine (HPx.out _ hm.below).mono ?_;rintro e wpx ⟨he,hb⟩;subst he;replace hm:=hm.call hb;clear hb)
 refine hK _ _ hm ?_
 clear hK K
 go_simp
 refine aT 5 (v:=.string A1) rfl (by kernel_rfl) rfl (fun W _=>aC ⟨#[115,101,97,108,40]⟩ Xx A1 (HA1.out ()) rfl rfl (by have:=HLx.out;exact Nat.le_trans (Nat.add_le_add_left this 5) (by omega))) hm ?_
 go_simp
 refine aT 6 (v:=.string A2) rfl (by kernel_rfl) rfl (fun W _=>aC A1 ⟨#[44]⟩ A2 (HA2.out ()) rfl rfl (by have:=HZ.out.1;exact Nat.le_trans (Nat.add_le_add_right this 1) (by omega))) hm ?_
 go_simp
 refine aO 11 (by kernel_rfl) rfl rfl ?_
 intro K hK
 go_wp2_with (go_at_call 36;refine (HPy.out _ hm.below).mono ?_;rintro e wpy ⟨he,hb⟩;subst he;replace hm:=hm.call hb;clear hb)
 refine hK _ _ hm ?_
 clear hK K
 go_simp
 refine aT 12 (v:=.string A3) rfl (by kernel_rfl) rfl (fun W _=>aC A2 Xy A3 (HA3.out ()) rfl rfl (by have h1:=HZ.out.2.1;have h2:=HLy.out;omega)) hm ?_
 go_simp
 refine aT 13 (v:=.string A4) rfl (by kernel_rfl) rfl (fun W _=>aC A3 ⟨#[41]⟩ A4 (HA4.out ()) rfl rfl (by have:=HZ.out.2.2;exact Nat.le_trans (Nat.add_le_add_right this 1) (by omega))) hm ?_
 go_simp
 refine aT 14 (v:=.string A4) rfl (by kernel_rfl) rfl (fun W _=>by go_simp) hm ?_
 go_simp
 refine wpAnyH_done (by kernel_rfl) ?_ _
 simp only [endsIn]
 go_wp2_with fail
 go_ret
 exact ⟨by rw [HX.out ()];rfl,hm.below⟩
theorem print_4 {F:Nat→Prop} (t:Tm) (ih:∀x∈t.l,∀(s:Value) (w:World),SlT F w s x.l→okT x=true→cnt x≤1000→Calls Tryz.prog 36 #[.agg (tcs x s).toArray] w fun e w'=>e=.returned (.string (mkS (txt x)))∧Below w.heap.size w w') (s:Value) (w:World) (hs:SlT F w s t.l) (hok:okT t=true) (hc:cnt t≤1000) (hk:t.k=4) :
  Calls Tryz.prog 36 #[.agg (tcs t s).toArray] w fun e w'=>e=.returned (.string (mkS (txt t)))∧Below w.heap.size w w':=by
 have hn99:=okF_n (a7 hok)
 have hml:t.l.length=2:=by have:=bK (a7 hok);rw [this,hk];rfl
 obtain ⟨n,hnn⟩:∃n,n=t.n:=⟨_,rfl⟩
 rw [←hnn] at hn99
 obtain ⟨x,y,hl⟩:=len_two hml
 obtain ⟨Xx,hXx⟩:∃X,X=mkS (txt x):=⟨_,rfl⟩
 obtain ⟨Xy,hXy⟩:∃X,X=mkS (txt y):=⟨_,rfl⟩
 obtain ⟨p,c,rfl,_⟩:=hs.len
 rw [hml] at hs ⊢
 obtain ⟨b,o,rfl⟩:=hs.at (by omega)
 have hs2:=hs
 obtain ⟨px,mx,cx,ax0,ax1,ax2,ex,hsx⟩:=hs2.cells (show t.l[0]?=some x by rw [hl];rfl)
 have HCx:Hid (∀W,Below w.heap.size w W→W.cell? ⟨b,o+0 * 3,none⟩=some (.int .i64 x.k)∧W.cell? ⟨b,o+0 * 3+1,none⟩=some (.int .i64 x.n)∧W.cell? ⟨b,o+0 * 3+2,none⟩=some (.slice px mx cx)):=fun W hW=>⟨(hW.cell (p:=⟨b,_,none⟩) (block_lt_of_cell ax0)).trans ax0,(hW.cell (p:=⟨b,_,none⟩) (block_lt_of_cell ax1)).trans ax1,(hW.cell (p:=⟨b,_,none⟩) (block_lt_of_cell ax2)).trans ax2⟩
 have HPx:Hid (∀W,Below w.heap.size w W→Calls Tryz.prog 36 #[.agg (tcs x (.slice px mx cx)).toArray] W fun e w'=>e=.returned (.string Xx)∧Below W.heap.size W w'):=fun W hW=>by rw [hXx];exact ih x (by rw [hl];simp) _ W (hsx.below hW) (aS hok (by rw [hl];simp)) (Nat.le_trans (Nat.le_of_lt (bw (t:=t) (by rw [hl];simp))) hc)
 have HLx:Hid (Xx.size≤8000):=by show _≤_;rw [hXx,aw];have h1:=cN x (aS hok (by rw [hl];simp));have h2:=bw (t:=t) (x:=x) (by rw [hl];simp);omega
 obtain ⟨py,my,cy,ay0,ay1,ay2,ey,hsy⟩:=hs2.cells (show t.l[1]?=some y by rw [hl];rfl)
 have HCy:Hid (∀W,Below w.heap.size w W→W.cell? ⟨b,o+1 * 3,none⟩=some (.int .i64 y.k)∧W.cell? ⟨b,o+1 * 3+1,none⟩=some (.int .i64 y.n)∧W.cell? ⟨b,o+1 * 3+2,none⟩=some (.slice py my cy)):=fun W hW=>⟨(hW.cell (p:=⟨b,_,none⟩) (block_lt_of_cell ay0)).trans ay0,(hW.cell (p:=⟨b,_,none⟩) (block_lt_of_cell ay1)).trans ay1,(hW.cell (p:=⟨b,_,none⟩) (block_lt_of_cell ay2)).trans ay2⟩
 have HPy:Hid (∀W,Below w.heap.size w W→Calls Tryz.prog 36 #[.agg (tcs y (.slice py my cy)).toArray] W fun e w'=>e=.returned (.string Xy)∧Below W.heap.size W w'):=fun W hW=>by rw [hXy];exact ih y (by rw [hl];simp) _ W (hsy.below hW) (aS hok (by rw [hl];simp)) (Nat.le_trans (Nat.le_of_lt (bw (t:=t) (by rw [hl];simp))) hc)
 have HLy:Hid (Xy.size≤8000):=by show _≤_;rw [hXy,aw];have h1:=cN y (aS hok (by rw [hl];simp));have h2:=bw (t:=t) (x:=y) (by rw [hl];simp);omega
 obtain ⟨A1,hA1⟩:∃A,A=⟨#[40]⟩++Xx:=⟨_,rfl⟩
 obtain ⟨A2,hA2⟩:∃A,A=A1++⟨#[44]⟩:=⟨_,rfl⟩
 obtain ⟨A3,hA3⟩:∃A,A=A2++Xy:=⟨_,rfl⟩
 obtain ⟨A4,hA4⟩:∃A,A=A3++⟨#[41]⟩:=⟨_,rfl⟩
 have HX:Hid (∀_:Unit,mkS (txt t)=A4):=fun _=>by
  rw [txt_4 hk hl,hA4,hA3,hA2,hA1,hXx,hXy]
  simp only [cD]
  rfl
 have hz1:A1.size=1+Xx.size:=by rw [hA1,ByteArray.size_append];rfl
 have hz2:A2.size=A1.size+1:=by rw [hA2,ByteArray.size_append];rfl
 have hz3:A3.size=A2.size+Xy.size:=by rw [hA3,ByteArray.size_append]
 have HZ:Hid (A1.size≤10000∧A2.size≤10000∧A3.size≤20000):=by
  have h1:=HLx.out
  have h2:=HLy.out
  exact ⟨by omega,by omega,by omega⟩
 have HA1:Hid (∀_:Unit,A1=⟨#[40]⟩++Xx):=fun _=>hA1
 have HA2:Hid (∀_:Unit,A2=A1++⟨#[44]⟩):=fun _=>hA2
 have HA3:Hid (∀_:Unit,A3=A2++Xy):=fun _=>hA3
 have HA4:Hid (∀_:Unit,A4=A3++⟨#[41]⟩):=fun _=>hA4
 have HE:Hid (tcs t (.slice (some ⟨b,o,none⟩) 2 c)=[.int .i64 4,.int .i64 n,.slice (some ⟨b,o,none⟩) 2 c]):=by show _=_;rw [tcs,hk,←hnn]
 rw [HE.out]
 clear hs hs2 hml hk hnn hl hok hc hXx hXy hA1 hA2 hA3 hA4 hz1 hz2 hz3 HE ih hn99 ax0 ax1 ax2 ay0 ay1 ay2 ex ey hsx hsy
 have hm:=Mem.start w
 go_enter Tryz.func36,Tryz.ntmps36
 go_wp2_with (first
  | ((with_reducible refine af (some 1) (.box 24 (.tmp 0)) ?_);go_must (refine ax [.int .i64 4,.int .i64 n,.slice (some ⟨b,o,none⟩) 2 c] rfl hm ?_);clear hm;intro w1 g1 hm)
  | ((with_reducible refine af (some 4) (.load 3 (.tmp 3)) ?_);go_must (refine ad (.int .i64 4) rfl (ae (.int .i64 4) (Mem.cell hm 0 rfl 0) rfl ag) ?_)))
 refine aq ?_
 refine am (T:=fun W=>Mem w [] W [(g1,[.int .i64 4,.int .i64 n,.slice (some ⟨b,o,none⟩) 2 c],24)]) (by kernel_rfl) hm ?_
 intro wc hbw hmw
 replace hm:Mem w [] wc [(g1,[.int .i64 4,.int .i64 n,.slice (some ⟨b,o,none⟩) 2 c],24)]:=hmw
 clear hbw hmw
 refine aT 0 (v:=.pointer (some ⟨g1,2,none⟩)) rfl (by kernel_rfl) rfl (fun W _=>by go_simp) hm ?_
 go_simp
 refine aT 1 (v:=.slice (some ⟨b,o,none⟩) 2 c) rfl (by kernel_rfl) rfl (fun W hW=>ae (.slice (some ⟨b,o,none⟩) 2 c) (((Mem.get hW 0 rfl).cell 2).trans rfl) rfl ah) hm ?_
 go_simp
 refine aT 2 (v:=.pointer (some ⟨b,o+0 * 3,none⟩)) rfl (by kernel_rfl) rfl (fun W _=>au 0 rfl rfl rfl (by omega)) hm ?_
 go_simp
 refine aT 3 (v:=.agg (tcs x (.slice px mx cx)).toArray) rfl (by kernel_rfl) rfl (fun W hW=>av rfl (HCx.out W hW.below).1 (HCx.out W hW.below).2.1 (HCx.out W hW.below).2.2) hm ?_
 go_simp
 refine aT 7 (v:=.pointer (some ⟨g1,2,none⟩)) rfl (by kernel_rfl) rfl (fun W _=>by go_simp) hm ?_
 go_simp
 refine aT 8 (v:=.slice (some ⟨b,o,none⟩) 2 c) rfl (by kernel_rfl) rfl (fun W hW=>ae (.slice (some ⟨b,o,none⟩) 2 c) (((Mem.get hW 0 rfl).cell 2).trans rfl) rfl ah) hm ?_
 go_simp
 refine aT 9 (v:=.pointer (some ⟨b,o+1 * 3,none⟩)) rfl (by kernel_rfl) rfl (fun W _=>au 1 rfl rfl rfl (by omega)) hm ?_
 go_simp
 refine aT 10 (v:=.agg (tcs y (.slice py my cy)).toArray) rfl (by kernel_rfl) rfl (fun W hW=>av rfl (HCy.out W hW.below).1 (HCy.out W hW.below).2.1 (HCy.out W hW.below).2.2) hm ?_
 go_simp
 refine aO 4 (by kernel_rfl) rfl rfl ?_
 intro K hK
 go_wp2_with (go_at_call 36;refine (HPx.out _ hm.below).mono ?_;rintro e wpx ⟨he,hb⟩;subst he;replace hm:=hm.call hb;clear hb)
 refine hK _ _ hm ?_
 clear hK K
 go_simp
 refine aT 5 (v:=.string A1) rfl (by kernel_rfl) rfl (fun W _=>aC ⟨#[40]⟩ Xx A1 (HA1.out ()) rfl rfl (by have:=HLx.out;exact Nat.le_trans (Nat.add_le_add_left this 1) (by omega))) hm ?_
 go_simp
 refine aT 6 (v:=.string A2) rfl (by kernel_rfl) rfl (fun W _=>aC A1 ⟨#[44]⟩ A2 (HA2.out ()) rfl rfl (by have:=HZ.out.1;exact Nat.le_trans (Nat.add_le_add_right this 1) (by omega))) hm ?_
 go_simp
 refine aO 11 (by kernel_rfl) rfl rfl ?_
 intro K hK
 go_wp2_with (go_at_call 36;refine (HPy.out _ hm.below).mono ?_;rintro e wpy ⟨he,hb⟩;subst he;replace hm:=hm.call hb;clear hb)
 refine hK _ _ hm ?_
 clear hK K
 go_simp
 refine aT 12 (v:=.string A3) rfl (by kernel_rfl) rfl (fun W _=>aC A2 Xy A3 (HA3.out ()) rfl rfl (by have h1:=HZ.out.2.1;have h2:=HLy.out;omega)) hm ?_
 go_simp
 refine aT 13 (v:=.string A4) rfl (by kernel_rfl) rfl (fun W _=>aC A3 ⟨#[41]⟩ A4 (HA4.out ()) rfl rfl (by have:=HZ.out.2.2;exact Nat.le_trans (Nat.add_le_add_right this 1) (by omega))) hm ?_
 go_simp
 refine aT 14 (v:=.string A4) rfl (by kernel_rfl) rfl (fun W _=>by go_simp) hm ?_
 go_simp
 refine wpAnyH_done (by kernel_rfl) ?_ _
 simp only [endsIn]
 go_wp2_with fail
 go_ret
 exact ⟨by rw [HX.out ()];rfl,hm.below⟩
theorem print_5 {F:Nat→Prop} (t:Tm) (ih:∀x∈t.l,∀(s:Value) (w:World),SlT F w s x.l→okT x=true→cnt x≤1000→Calls Tryz.prog 36 #[.agg (tcs x s).toArray] w fun e w'=>e=.returned (.string (mkS (txt x)))∧Below w.heap.size w w') (s:Value) (w:World) (hs:SlT F w s t.l) (hok:okT t=true) (hc:cnt t≤1000) (hk:t.k=5) :
  Calls Tryz.prog 36 #[.agg (tcs t s).toArray] w fun e w'=>e=.returned (.string (mkS (txt t)))∧Below w.heap.size w w':=by
 have hn99:=okF_n (a7 hok)
 have hml:t.l.length=1:=by have:=bK (a7 hok);rw [this,hk];rfl
 obtain ⟨n,hnn⟩:∃n,n=t.n:=⟨_,rfl⟩
 rw [←hnn] at hn99
 obtain ⟨x,hl⟩:=len_one hml
 obtain ⟨Xx,hXx⟩:∃X,X=mkS (txt x):=⟨_,rfl⟩
 obtain ⟨p,c,rfl,_⟩:=hs.len
 rw [hml] at hs ⊢
 obtain ⟨b,o,rfl⟩:=hs.at (by omega)
 have hs2:=hs
 obtain ⟨px,mx,cx,ax0,ax1,ax2,ex,hsx⟩:=hs2.cells (show t.l[0]?=some x by rw [hl];rfl)
 have HCx:Hid (∀W,Below w.heap.size w W→W.cell? ⟨b,o+0 * 3,none⟩=some (.int .i64 x.k)∧W.cell? ⟨b,o+0 * 3+1,none⟩=some (.int .i64 x.n)∧W.cell? ⟨b,o+0 * 3+2,none⟩=some (.slice px mx cx)):=fun W hW=>⟨(hW.cell (p:=⟨b,_,none⟩) (block_lt_of_cell ax0)).trans ax0,(hW.cell (p:=⟨b,_,none⟩) (block_lt_of_cell ax1)).trans ax1,(hW.cell (p:=⟨b,_,none⟩) (block_lt_of_cell ax2)).trans ax2⟩
 have HPx:Hid (∀W,Below w.heap.size w W→Calls Tryz.prog 36 #[.agg (tcs x (.slice px mx cx)).toArray] W fun e w'=>e=.returned (.string Xx)∧Below W.heap.size W w'):=fun W hW=>by rw [hXx];exact ih x (by rw [hl];simp) _ W (hsx.below hW) (aS hok (by rw [hl];simp)) (Nat.le_trans (Nat.le_of_lt (bw (t:=t) (by rw [hl];simp))) hc)
 have HLx:Hid (Xx.size≤8000):=by show _≤_;rw [hXx,aw];have h1:=cN x (aS hok (by rw [hl];simp));have h2:=bw (t:=t) (x:=x) (by rw [hl];simp);omega
 obtain ⟨D,hD⟩:∃D,D=mkS (dig n):=⟨_,rfl⟩
 have HNU:Hid (∀W,Below w.heap.size w W→Calls Tryz.prog 49 #[.int .i64 n] W fun e w'=>e=.returned (.string D)∧Below W.heap.size W w'):=fun W _=>by rw [hD];exact num_any n hn99.1 hn99.2 W
 have HDL:Hid (D.size≤10):=by show _≤_;rw [hD,aw];have:=(dk n).2;omega
 obtain ⟨A1,hA1⟩:∃A,A=⟨#[100]⟩++D:=⟨_,rfl⟩
 obtain ⟨A2,hA2⟩:∃A,A=A1++⟨#[40]⟩:=⟨_,rfl⟩
 obtain ⟨A3,hA3⟩:∃A,A=A2++Xx:=⟨_,rfl⟩
 obtain ⟨A4,hA4⟩:∃A,A=A3++⟨#[41]⟩:=⟨_,rfl⟩
 have HX:Hid (∀_:Unit,mkS (txt t)=A4):=fun _=>by
  rw [txt_5 hk hl,hA4,hA3,hA2,hA1,hXx,hD,hnn]
  simp only [cD]
  rfl
 have hz1:A1.size=1+D.size:=by rw [hA1,ByteArray.size_append];rfl
 have hz2:A2.size=A1.size+1:=by rw [hA2,ByteArray.size_append];rfl
 have hz3:A3.size=A2.size+Xx.size:=by rw [hA3,ByteArray.size_append]
 have HZ:Hid (A1.size≤100∧A2.size≤100∧A3.size≤20000):=by
  have h1:=HLx.out
  have h2:=HDL.out
  exact ⟨by omega,by omega,by omega⟩
 have HA1:Hid (∀_:Unit,A1=⟨#[100]⟩++D):=fun _=>hA1
 have HA2:Hid (∀_:Unit,A2=A1++⟨#[40]⟩):=fun _=>hA2
 have HA3:Hid (∀_:Unit,A3=A2++Xx):=fun _=>hA3
 have HA4:Hid (∀_:Unit,A4=A3++⟨#[41]⟩):=fun _=>hA4
 have HE:Hid (tcs t (.slice (some ⟨b,o,none⟩) 1 c)=[.int .i64 5,.int .i64 n,.slice (some ⟨b,o,none⟩) 1 c]):=by show _=_;rw [tcs,hk,←hnn]
 rw [HE.out]
 clear hs hs2 hml hk hnn hl hok hc hXx hD hA1 hA2 hA3 hA4 hz1 hz2 hz3 HE ih hn99 ax0 ax1 ax2 ex hsx
 have hm:=Mem.start w
 go_enter Tryz.func36,Tryz.ntmps36
 go_wp2_with (first
  | ((with_reducible refine af (some 1) (.box 24 (.tmp 0)) ?_);go_must (refine ax [.int .i64 5,.int .i64 n,.slice (some ⟨b,o,none⟩) 1 c] rfl hm ?_);clear hm;intro w1 g1 hm)
  | ((with_reducible refine af (some 4) (.load 3 (.tmp 3)) ?_);go_must (refine ad (.int .i64 5) rfl (ae (.int .i64 5) (Mem.cell hm 0 rfl 0) rfl ag) ?_)))
 refine aq ?_
 refine am (T:=fun W=>Mem w [] W [(g1,[.int .i64 5,.int .i64 n,.slice (some ⟨b,o,none⟩) 1 c],24)]) (by kernel_rfl) hm ?_
 intro wc hbw hmw
 replace hm:Mem w [] wc [(g1,[.int .i64 5,.int .i64 n,.slice (some ⟨b,o,none⟩) 1 c],24)]:=hmw
 clear hbw hmw
 refine aT 0 (v:=.pointer (some ⟨g1,1,none⟩)) rfl (by kernel_rfl) rfl (fun W _=>by go_simp) hm ?_
 go_simp
 refine aT 1 (v:=.int .i64 n) rfl (by kernel_rfl) rfl (fun W hW=>ae (.int .i64 n) (((Mem.get hW 0 rfl).cell 1).trans rfl) rfl ag) hm ?_
 go_simp
 refine aT 5 (v:=.pointer (some ⟨g1,2,none⟩)) rfl (by kernel_rfl) rfl (fun W _=>by go_simp) hm ?_
 go_simp
 refine aT 6 (v:=.slice (some ⟨b,o,none⟩) 1 c) rfl (by kernel_rfl) rfl (fun W hW=>ae (.slice (some ⟨b,o,none⟩) 1 c) (((Mem.get hW 0 rfl).cell 2).trans rfl) rfl ah) hm ?_
 go_simp
 refine aT 7 (v:=.pointer (some ⟨b,o+0 * 3,none⟩)) rfl (by kernel_rfl) rfl (fun W _=>au 0 rfl rfl rfl (by omega)) hm ?_
 go_simp
 refine aT 8 (v:=.agg (tcs x (.slice px mx cx)).toArray) rfl (by kernel_rfl) rfl (fun W hW=>av rfl (HCx.out W hW.below).1 (HCx.out W hW.below).2.1 (HCx.out W hW.below).2.2) hm ?_
 go_simp
 refine aO 2 (by kernel_rfl) rfl rfl ?_
 intro K hK
 go_wp2_with (go_at_call 49;refine (HNU.out _ hm.below).mono ?_;rintro e wn ⟨he,hb⟩;subst he;replace hm:=hm.call hb;clear hb)
 refine hK _ _ hm ?_
 clear hK K
 go_simp
 refine aT 3 (v:=.string A1) rfl (by kernel_rfl) rfl (fun W _=>aC ⟨#[100]⟩ D A1 (HA1.out ()) rfl rfl (by have:=HDL.out;exact Nat.le_trans (Nat.add_le_add_left this 1) (by omega))) hm ?_
 go_simp
 refine aT 4 (v:=.string A2) rfl (by kernel_rfl) rfl (fun W _=>aC A1 ⟨#[40]⟩ A2 (HA2.out ()) rfl rfl (by have:=HZ.out.1;exact Nat.le_trans (Nat.add_le_add_right this 1) (by omega))) hm ?_
 go_simp
 refine aO 9 (by kernel_rfl) rfl rfl ?_
 intro K hK
 go_wp2_with (go_at_call 36;refine (HPx.out _ hm.below).mono ?_;rintro e wpx ⟨he,hb⟩;subst he;replace hm:=hm.call hb;clear hb)
 refine hK _ _ hm ?_
 clear hK K
 go_simp
 refine aT 10 (v:=.string A3) rfl (by kernel_rfl) rfl (fun W _=>aC A2 Xx A3 (HA3.out ()) rfl rfl (by have h1:=HZ.out.2.1;have h2:=HLx.out;omega)) hm ?_
 go_simp
 refine aT 11 (v:=.string A4) rfl (by kernel_rfl) rfl (fun W _=>aC A3 ⟨#[41]⟩ A4 (HA4.out ()) rfl rfl (by have:=HZ.out.2.2;exact Nat.le_trans (Nat.add_le_add_right this 1) (by omega))) hm ?_
 go_simp
 refine aT 12 (v:=.string A4) rfl (by kernel_rfl) rfl (fun W _=>by go_simp) hm ?_
 go_simp
 refine wpAnyH_done (by kernel_rfl) ?_ _
 simp only [endsIn]
 go_wp2_with fail
 go_ret
 exact ⟨by rw [HX.out ()];rfl,hm.below⟩
theorem printR_any {F:Nat→Prop} (t:Tm):∀(s:Value) (w:World),SlT F w s t.l→okT t=true→cnt t≤1000 →
  Calls Tryz.prog 36 #[.agg (tcs t s).toArray] w fun e w'=>e=.returned (.string (mkS (txt t)))∧Below w.heap.size w w':=by
 induction t using Tm.ind with
 | h t ih =>
 intro s w hs hok hc
 have hk:=okF_k (a7 hok)
 rcases (show t.k=1∨t.k=2∨t.k=3∨t.k=4∨t.k=5 by omega) with h|h|h|h|h
 ·exact print_1 t s w hs hok h
 ·exact print_2 t s w hs hok h
 ·exact print_3 t ih s w hs hok hc h
 ·exact print_4 t ih s w hs hok hc h
 ·exact print_5 t ih s w hs hok hc h
theorem d8 {F:Nat→Prop} (t:Tm) (s:Value) (w:World) (hs:SlT F w s t.l) (hi:isT t=true) :
  Calls Tryz.prog 18 #[.agg (tcs t s).toArray] w fun e w'=>e=.returned (.string (mkS (txt t)))∧Below w.heap.size w w':=by
 obtain ⟨p,c,rfl,_⟩:=hs.len
 obtain ⟨m,hml⟩:∃m,m=t.l.length:=⟨_,rfl⟩
 rw [←hml] at hs ⊢
 have HIS:Hid (∀W,Below w.heap.size w W→Calls Tryz.prog 19 #[.agg (tcs t (.slice p m c)).toArray] W fun e w'=>e=.returned (.bool true)∧Below W.heap.size W w'):=fun W hW=>by have h9:=isR_any t _ W (hs.below hW);rw [hi] at h9;exact h9
 obtain ⟨X,hX⟩:∃X,X=mkS (txt t):=⟨_,rfl⟩
 have HP:Hid (∀W,Below w.heap.size w W→Calls Tryz.prog 36 #[.agg (tcs t (.slice p m c)).toArray] W fun e w'=>e=.returned (.string X)∧Below W.heap.size W w'):=fun W hW=>by rw [hX];exact printR_any t _ W (hs.below hW) (bj.1 hi).2 (Nat.le_trans (bj.1 hi).1 (by omega))
 rw [←hX]
 clear hs hml hi hX
 have hm:=Mem.start w
 go_enter Tryz.func18,Tryz.ntmps18
 go_wp2_with (first
  | ((with_reducible refine af (some 1) (.box 24 (.tmp 0)) ?_);go_must (refine ax (tcs t (.slice p m c)) rfl hm ?_);clear hm;intro w1 g1 hm)
  | ((with_reducible refine af (some 3) (.load 24 (.tmp 1)) ?_);go_must (refine aD 0 hm rfl rfl _ Tryz.underlying24 rfl 3 ak rfl ?_))
  | (go_at_call 19;go_must (refine (HIS.out _ hm.below).mono ?_);rintro e w4 ⟨he,hb⟩;subst he;replace hm:=hm.call hb;clear hb)
  | ((with_reducible refine af (some 6) (.load 24 (.tmp 1)) ?_);go_must (refine aD 0 hm rfl rfl _ Tryz.underlying24 rfl 3 ak rfl ?_))
  | (go_at_call 36;go_must (refine (HP.out _ hm.below).mono ?_);rintro e w7 ⟨he,hb⟩;subst he;replace hm:=hm.call hb;clear hb))
 go_ret
 exact ⟨rfl,hm.below⟩
open Go Go.RowKit
theorem exec_geS {P:Program} {a:Act} {w:World} {dst:Option Tmp} {typ:TypeId} {pos:String} {aft:Array Edge} {gd:Option (Nat×Bool)} {t rt:TypeId} {x y:Operand} (s s':ByteArray) (v:Bool) (hv:(!decide (bs s<bs s'))=v) (hx:a.eval x=.string s) (hy:a.eval y=.string s') :
  (execOp a.eval {dst:=dst,op:=.binOp .geq t x y rt,type:=typ,pos:=pos,after:=aft,guard:=gd}).run P w=.ok (.value (.bool v)) w:=by
 subst hv
 unfold execOp
 simp only [hx,hy]
 simp [eqGuard,binOp,Op.stringOp,Go.Proofs.bytesLess_eq,ByteArray.toList_eq,bs]
theorem in_any {F G:Nat→Prop} (l:List Tm) (u:Tm) (p:Option Addr) (n c:Nat) (s:Value) (w:World) (r:Bool) (hr:r=true↔u∈l) (hn:n=l.length) (hn4:n≤100000) (hc:∀x∈l,cnt x≤100000) (hl:SlT F w (.slice p n c) l) (hs:SlT G w s u.l) :
  Calls Tryz.prog 20 #[.slice p n c,.agg (tcs u s).toArray] w fun e w'=>e=.returned (.bool r)∧Below w.heap.size w w':=by
 have hm:=Mem.start w
 have HN:Hid (∀_:Unit,n=l.length):=fun _=>hn
 have HCN:Hid (∀x∈l,cnt x≤100000):=hc
 have HLL:Hid (SlT F w (.slice p n c) l):=hl
 have HS:Hid (SlT G w s u.l):=hs
 have HIN:Hid (r=true↔u∈l):=hr
 clear hn hc hl hs hr
 go_enter Tryz.func20,Tryz.ntmps20
 go_wp2_with (first
  | ((with_reducible refine af (some 3) (.box 24 (.tmp 1)) ?_);go_must (refine ax (tcs u s) rfl hm ?_);clear hm;intro w1 g1 hm))
 have HMM0:Hid (Mem w [] w1 [(g1,tcs u s,24)]):=hm
 go_loopw [5] (fun vk wr=>∃k:Nat,vk=.int .i64 (k:Int)∧k≤n∧Hid (Mem w [] wr [(g1,tcs u s,24)])∧Hid (∀j,j<k→l[j]?≠some u)) (fun vk _=>n - (intOf vk).toNat)
 case atStart=>exact ⟨0,rfl,Nat.zero_le _,hm,fun j hj=>absurd hj (by omega)⟩
 case round =>
  clear hm HMM0
  obtain ⟨k,rfl,hkm,HMM,HNO⟩:=hrel
  by_cases hlt:k<n
  ·obtain ⟨x,hx⟩:∃x,l[k]?=some x:=⟨_,List.getElem?_eq_getElem (by rw [←HN.out ()];exact hlt)⟩
   obtain ⟨b1,o1,hp1⟩:=HLL.out.at (by omega)
   subst hp1
   obtain ⟨px,mx,cx,a0,a1,a2,hmx,hsx⟩:=HLL.out.cells hx
   have HA:Hid (∀W,Below w.heap.size w W→W.cell? ⟨b1,o1+k * 3,none⟩=some (.int .i64 x.k)∧W.cell? ⟨b1,o1+k * 3+1,none⟩=some (.int .i64 x.n)∧W.cell? ⟨b1,o1+k * 3+2,none⟩=some (.slice px mx cx)):=fun W hW=>⟨(hW.cell (p:=⟨b1,_,none⟩) (block_lt_of_cell a0)).trans a0,(hW.cell (p:=⟨b1,_,none⟩) (block_lt_of_cell a1)).trans a1,(hW.cell (p:=⟨b1,_,none⟩) (block_lt_of_cell a2)).trans a2⟩
   have HSX:Hid (SlT F w (.slice px mx cx) x.l):=hsx
   have HMX:Hid (x∈l):=List.mem_of_getElem? hx
   have HX:Hid (l[k]?=some x):=hx
   have HLT:Hid (k<n):=hlt
   have hki:(k:Int)<(n:Int):=by omega
   have hkb:k≤100000:=by omega
   have hm:=HMM.out
   clear hx a0 a1 a2 hmx hsx HMM
   by_cases hxu:x=u
   ·have HCALL:Hid (∀W,Below w.heap.size w W→Calls Tryz.prog 32 #[.agg (tcs x (.slice px mx cx)).toArray,.agg (tcs u s).toArray] W fun e w'=>e=.returned (.bool true)∧Below W.heap.size W w'):=fun W hW=>same_any x (HCN.out x HMX.out) u _ _ true W (HSX.out.below hW) (HS.out.below hW) (by simp [hxu])
    have HRT:Hid (r=true):=HIN.out.2 (hxu▸HMX.out)
    clear hxu
    go_wp2_with fail
    refine aq ?_
    refine am (T:=fun W=>Mem w [] W [(g1,tcs u s,24)]) (by kernel_rfl) hm ?_
    intro wc hbw hmw
    replace hm:Mem w [] wc [(g1,tcs u s,24)]:=hmw
    clear hbw hmw
    refine aT 0 (v:=.slice (some ⟨b1,o1,none⟩) n c) rfl (by kernel_rfl) rfl (fun W _=>by go_simp) hm ?_
    go_simp
    refine aT 1 (v:=.int .i64 (k:Int)) rfl (by kernel_rfl) rfl (fun W _=>by go_simp) hm ?_
    go_simp
    refine aT 2 (v:=.pointer (some ⟨b1,o1+k * 3,none⟩)) rfl (by kernel_rfl) rfl (fun W _=>au k rfl rfl rfl HLT.out) hm ?_
    go_simp
    refine aT 3 (v:=.agg (tcs x (.slice px mx cx)).toArray) rfl (by kernel_rfl) rfl (fun W hW=>av rfl (HA.out W hW.below).1 (HA.out W hW.below).2.1 (HA.out W hW.below).2.2) hm ?_
    go_simp
    refine aT 4 (v:=.agg (tcs u s).toArray) rfl (by kernel_rfl) rfl (fun W hW=>aN 0 (tcs u s) (Mem.get hW 0 rfl) rfl _ Tryz.underlying24 rfl 3 ak (Nat.le_refl _) rfl) hm ?_
    go_simp
    refine aO 5 (by kernel_rfl) rfl rfl ?_
    intro K hK
    go_wp2_with (go_at_call 32;refine (HCALL.out _ hm.below).mono ?_;rintro e w' ⟨he,hb⟩;subst he;replace hm:=hm.call hb;clear hb)
    refine hK _ _ hm ?_
    clear hK K
    go_simp
    refine wpAnyH_done (by kernel_rfl) ?_ _
    simp only [endsIn]
    go_wp2_with fail
    go_ret
    exact ⟨by rw [HRT.out];rfl,hm.below⟩
   ·have HCALL:Hid (∀W,Below w.heap.size w W→Calls Tryz.prog 32 #[.agg (tcs x (.slice px mx cx)).toArray,.agg (tcs u s).toArray] W fun e w'=>e=.returned (.bool false)∧Below W.heap.size W w'):=fun W hW=>same_any x (HCN.out x HMX.out) u _ _ false W (HSX.out.below hW) (HS.out.below hW) (by simp [hxu])
    have HNO2:Hid (∀j,j<k+1→l[j]?≠some u):=fun j hj=>by
     by_cases h:j=k
     ·subst h;rw [HX.out];intro he;exact hxu (Option.some.inj he)
     ·exact HNO.out j (by omega)
    clear hxu
    go_wp2_with fail
    refine aq ?_
    refine am (T:=fun W=>Mem w [] W [(g1,tcs u s,24)]) (by kernel_rfl) hm ?_
    intro wc hbw hmw
    replace hm:Mem w [] wc [(g1,tcs u s,24)]:=hmw
    clear hbw hmw
    refine aT 0 (v:=.slice (some ⟨b1,o1,none⟩) n c) rfl (by kernel_rfl) rfl (fun W _=>by go_simp) hm ?_
    go_simp
    refine aT 1 (v:=.int .i64 (k:Int)) rfl (by kernel_rfl) rfl (fun W _=>by go_simp) hm ?_
    go_simp
    refine aT 2 (v:=.pointer (some ⟨b1,o1+k * 3,none⟩)) rfl (by kernel_rfl) rfl (fun W _=>au k rfl rfl rfl HLT.out) hm ?_
    go_simp
    refine aT 3 (v:=.agg (tcs x (.slice px mx cx)).toArray) rfl (by kernel_rfl) rfl (fun W hW=>av rfl (HA.out W hW.below).1 (HA.out W hW.below).2.1 (HA.out W hW.below).2.2) hm ?_
    go_simp
    refine aT 4 (v:=.agg (tcs u s).toArray) rfl (by kernel_rfl) rfl (fun W hW=>aN 0 (tcs u s) (Mem.get hW 0 rfl) rfl _ Tryz.underlying24 rfl 3 ak (Nat.le_refl _) rfl) hm ?_
    go_simp
    refine aO 5 (by kernel_rfl) rfl rfl ?_
    intro K hK
    go_wp2_with (go_at_call 32;refine (HCALL.out _ hm.below).mono ?_;rintro e w' ⟨he,hb⟩;subst he;replace hm:=hm.call hb;clear hb)
    refine hK _ _ hm ?_
    clear hK K
    go_simp
    refine wpAnyH_done (by kernel_rfl) ?_ _
    simp only [endsIn]
    go_wp2_with fail
    go_roundw
    case rel=>exact ⟨k+1,by go_num,by omega,hm,HNO2.out⟩
    case measure=>simp [intOf];omega
  ·obtain rfl:k=n:=by omega
   have hki:¬(k:Int)<(k:Int):=by omega
   have HRF:Hid (r=false):=by
    show r=false
    cases hr:r with
    | false=>rfl
    | true =>
     obtain ⟨j,hj,he⟩:=List.getElem_of_mem (HIN.out.1 hr)
     exact absurd (by rw [List.getElem?_eq_getElem hj,he]) (HNO.out j (by rw [HN.out ()];exact hj))
   have hm:=HMM.out
   clear HMM HNO
   go_wp2_with fail
   go_ret
   exact ⟨by rw [HRF.out];rfl,hm.below⟩
open Go Go.RowKit Classical
def chN:Tm:=mkT 1 3 []
def chS (i:Nat):Tm:=mkT 3 0 [chT i,chN]
def chB (f q:Nat):List Tm:=[chT f,chS q]
def chL (m:Nat):List Tm:=(List.range (m+1)).map chT
open Go Go.RowKit Classical
def bitK (z:Int) (i:Nat):Bool:=bits BinOp.and IntKind.u8 (z / 2 ^ i) 1==1
def slSel (p:Nat→Bool):Nat→List Tm
 | 0=>[]
 | j+1=>if p j then slSel p j++[slK j] else slSel p j
def slAll (p:Nat→Bool):Nat→Bool
 | 0=>true
 | j+1=>slAll p j&&p j
def slKs (j:Nat):List Tm:=(List.range j).map slK
def FG (g:Nat) (w:World) (v:Value):Nat→Prop:=fun b=>FO w v b∧b≠g
open Go Go.RowKit Classical
open Go Go.RowKit Classical
def turnL (l:List Tm) (k:Nat):List Tm:=l.drop k++l.take k
theorem all_len {l d:List Tm} (h:AllIs l d):d.length≤(webWs (l.filter isT) []).length :=
 dz d _ (List.Pairwise.imp (fun {a b} hlt he=>by rw [he] at hlt;exact List.lt_irrefl _ hlt) h.2) fun t ht=>((h.1 t).1 ht).1
theorem few_web {l:List Tm} (h:Few l):(webWs (l.filter isT) []).length≤380:=web1_le (by
 have h1:=few_sum h.2
 have h2:=Nat.mul_le_mul_right 20 h.1
 omega)
theorem knows_eq {F G:Nat→Prop} {bl:List Tm} {gt:Tm} {v s:Value} {w:World} {b:Bool} (hk:decide (Kn bl gt)=b) (hbs:SlT F w v bl) (hgs:SlT G w s gt.l) (hT:(webW gt (webWs (bl.filter isT) [])).length≤380) (hbl:bl.length≤1000) :
  Calls Tryz.prog 11 #[v,.agg (tcs gt s).toArray] w fun e w'=>e=.returned (.bool b)∧Below w.heap.size w w':=by
 have h:=cj bl gt v s w hbs hgs (fun _=>hT) hbl
 rw [hk] at h
 exact h
end Go.Proofs.YtcibhfcjbokdlaaGreatDoor
