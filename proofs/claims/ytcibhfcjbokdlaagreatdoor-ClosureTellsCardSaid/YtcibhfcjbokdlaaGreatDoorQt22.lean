import Derived.Test.YtcibhfcjbokdlaaGreatDoorQt12
import Derived.Test.YtcibhfcjbokdlaaGreatDoorQt21
import Derived.Sort.Walk0
import Derived.Test.YtcibhfcjbokdlaaGreatDoorQt17
import Derived.Deep.LoopGhost
import Derived.Test.YtcibhfcjbokdlaaGreatDoorQt18
set_option maxRecDepth 100000
set_option maxHeartbeats 4000000
namespace Go.Proofs.YtcibhfcjbokdlaaGreatDoor
open Go Go.RowKit
theorem eM:Tryz.prog.underlying 90=some (.slice 5):=Tryz.underlying90
theorem dig_one {n:Int} (h0:0≤n) (h:n<10):strOf [48+n]=mkS (dig n):=by
 unfold dig strOf mkS
 rw [if_pos h]
 simp only [List.map_cons,List.map_nil]
 congr 4
 omega
theorem dig_two {n:Int} (h:¬n<10):strOf [48+n / 10,48+n % 10]=mkS (dig n):=by
 unfold dig strOf mkS
 rw [if_neg h]
 simp only [List.map_cons,List.map_nil]
 rw [show (48+n / 10).toNat=48+n.toNat / 10 by omega,show (48+n % 10).toNat=48+n.toNat % 10 by omega]
theorem num_any (n:Int) (h0:0≤n) (h9:n≤99) (w:World) :
  Calls Tryz.prog 49 #[.int .i64 n] w fun e w'=>e=.returned (.string (mkS (dig n)))∧Below w.heap.size w w':=by
 have hm:=Mem.start w
 by_cases h:n<10
 ·have hd:decide (9<n)=false:=decide_eq_false (by omega)
  have HD:Hid (strOf [48+n]=mkS (dig n)):=dig_one h0 h
  have hw1:IntKind.i64.wrap (48+n)=48+n:=bm _ (by omega) (by omega)
  have hw2:IntKind.u8.wrap (48+n)=48+n:=by simp [IntKind.wrap,IntKind.bits,IntKind.signed];omega
  have hng:¬9<n:=by omega
  go_enter Tryz.func49,Tryz.ntmps49
  go_wp2_with (first
   | ((with_reducible refine af (some 18) (.buildSlice 90 1 #[(0,.tmp 17)]) ?_);go_must (refine bL rfl (.int .u8 0) (.int .u8 (48+n)) eM info_u8 rfl rfl rfl hm ?_);clear hm;intro w1 g1 hb1 hm;clear hb1)
   | ((with_reducible refine af (some 19) (.convert 90 9 (.tmp 18)) ?_);go_must (refine wpl_tostr eM un_u8 eG [48+n] 1 (hm.get 0 rfl) rfl rfl ?_)))
  go_ret
  exact ⟨by rw [←HD.out];rfl,hm.below⟩
 ·have hd:decide (9<n)=true:=decide_eq_true (by omega)
  have HD:Hid (strOf [48+n / 10,48+n % 10]=mkS (dig n)):=dig_two h
  have hw1:IntKind.i64.wrap (48+n / 10)=48+n / 10:=bm _ (by omega) (by omega)
  have hw2:IntKind.u8.wrap (48+n / 10)=48+n / 10:=by simp [IntKind.wrap,IntKind.bits,IntKind.signed];omega
  have hw3:IntKind.i64.wrap (48+n % 10)=48+n % 10:=bm _ (by omega) (by omega)
  have hw4:IntKind.u8.wrap (48+n % 10)=48+n % 10:=by simp [IntKind.wrap,IntKind.bits,IntKind.signed];omega
  have hng:9<n:=by omega
  have hw5:IntKind.i64.wrap (n / 10)=n / 10:=bm _ (by omega) (by omega)
  go_enter Tryz.func49,Tryz.ntmps49
  go_wp2_with (first
   | ((with_reducible refine af (some 13) (.buildSlice 90 2 #[(0,.tmp 8),(1,.tmp 12)]) ?_);go_must (refine wpl_bsl2 (.int .u8 0) (.int .u8 (48+n / 10)) (.int .u8 (48+n % 10)) eM info_u8 rfl rfl rfl rfl rfl hm ?_);clear hm;intro w1 g1 hb1 hm;clear hb1)
   | ((with_reducible refine af (some 14) (.convert 90 9 (.tmp 13)) ?_);go_must (refine wpl_tostr eM un_u8 eG [48+n / 10,48+n % 10] 2 (hm.get 0 rfl) rfl rfl ?_)))
  go_ret
  exact ⟨by rw [←HD.out];rfl,hm.below⟩
theorem txt_1 {t:Tm} (h:t.k=1):txt t=[110]++dig t.n:=by rw [cF,h];simp [hdT,wd,nb,kn]
theorem txt_2 {t:Tm} (h:t.k=2):txt t=[107]++dig t.n:=by rw [cF,h];simp [hdT,wd,nb,kn]
theorem txt_3 {t x y:Tm} (h:t.k=3) (hl:t.l=[x,y]):txt t=[115,101,97,108,40]++txt x++[44]++txt y++[41]:=by rw [cF,h,hl];simp [hdT,wd,nb,kn,jnB]
theorem txt_4 {t x y:Tm} (h:t.k=4) (hl:t.l=[x,y]):txt t=[40]++txt x++[44]++txt y++[41]:=by rw [cF,h,hl];simp [hdT,wd,nb,kn,jnB]
theorem txt_5 {t x:Tm} (h:t.k=5) (hl:t.l=[x]):txt t=[100]++dig t.n++[40]++txt x++[41]:=by rw [cF,h,hl];simp [hdT,wd,nb,kn,jnB]
theorem dj (a b:List UInt8):mkS (a++b)=mkS a++mkS b:=bh a b
theorem eJ {l:List Tm} (h:l.length=2):∃x y,l=[x,y]:=by
 match l,h with
 | [x,y],_=>exact ⟨x,y,rfl⟩
theorem len_one {l:List Tm} (h:l.length=1):∃x,l=[x]:=by
 match l,h with
 | [x],_=>exact ⟨x,rfl⟩
theorem print_1 {F:Nat→Prop} (t:Tm) (s:Value) (w:World) (hs:SlT F w s t.l) (hok:okT t=true) (hk:t.k=1) :
  Calls Tryz.prog 36 #[.agg (tcs t s).toArray] w fun e w'=>e=.returned (.string (mkS (txt t)))∧Below w.heap.size w w':=by
 have hn99:=okF_n (aS hok)
 have hml:t.l.length=0:=by have:=bg (aS hok);rw [this,hk];rfl
 obtain ⟨n,hnn⟩:∃n,n=t.n:=⟨_,rfl⟩
 rw [←hnn] at hn99
 have HX:Hid (∀_:Unit,mkS (txt t)=mkS ([110]++dig n)):=fun _=>by rw [txt_1 hk,hnn]
 obtain ⟨p,c,rfl,_⟩:=hs.len
 rw [hml]
 have HNU:Hid (∀W,Below w.heap.size w W→Calls Tryz.prog 49 #[.int .i64 n] W fun e w'=>e=.returned (.string (mkS (dig n)))∧Below W.heap.size W w'):=fun W _=>num_any n hn99.1 hn99.2 W
 have HDL:Hid ((mkS (dig n)).size≤10):=by show _≤_;rw [ay];have:=(dS n).2;omega
 have HE:Hid (tcs t (.slice p 0 c)=[.int .i64 1,.int .i64 n,.slice p 0 c]):=by show _=_;rw [tcs,hk,←hnn]
 rw [HE.out]
 obtain ⟨R,hR⟩:∃R,R=mkS ([110]++dig n):=⟨_,rfl⟩
 have HRA:Hid (∀_:Unit,R=⟨#[110]⟩++mkS (dig n)):=fun _=>by rw [hR,dj];rfl
 have HXR:Hid (∀_:Unit,mkS (txt t)=R):=fun _=>by rw [HX.out (),hR]
 obtain ⟨D,hD⟩:∃D,D=mkS (dig n):=⟨_,rfl⟩
 rw [←hD] at HNU HDL HRA
 clear hs hml hk hnn hR HX hD hok HE
 have hm:=Mem.start w
 go_enter Tryz.func36,Tryz.ntmps36
 go_wp2_with (first
  | ((with_reducible refine af (some 1) (.box 24 (.tmp 0)) ?_);go_must (refine aw [.int .i64 1,.int .i64 n,.slice p 0 c] rfl hm ?_);clear hm;intro w1 g1 hm)
  | ((with_reducible refine af (some 4) (.load 3 (.tmp 3)) ?_);go_must (refine aa (.int .i64 1) rfl (ad (.int .i64 1) (Mem.cell hm 0 rfl 0) rfl ag) ?_))
  | ((with_reducible refine af (some 8) (.load 3 (.tmp 7)) ?_);go_must (refine aa (.int .i64 n) rfl (ad (.int .i64 n) (Mem.cell hm 0 rfl 1) rfl ag) ?_))
  | (go_at_call 49;go_must (refine (HNU.out _ hm.below).mono ?_);rintro e w9 ⟨he,hb⟩;subst he;replace hm:=hm.call hb;clear hb)
  | ((with_reducible refine af (some 10) (.binOp .add 9 (.const (.string {data:=#[110]})) (.tmp 9) 9) ?_);go_must (refine aa (.string R) rfl (aH ⟨#[110]⟩ D R (HRA.out ()) rfl rfl (by exact Nat.le_trans (Nat.add_le_add_left HDL.out 1) (by omega))) ?_)))
 go_ret
 exact ⟨by rw [HXR.out ()];rfl,hm.below⟩
theorem print_2 {F:Nat→Prop} (t:Tm) (s:Value) (w:World) (hs:SlT F w s t.l) (hok:okT t=true) (hk:t.k=2) :
  Calls Tryz.prog 36 #[.agg (tcs t s).toArray] w fun e w'=>e=.returned (.string (mkS (txt t)))∧Below w.heap.size w w':=by
 have hn99:=okF_n (aS hok)
 have hml:t.l.length=0:=by have:=bg (aS hok);rw [this,hk];rfl
 obtain ⟨n,hnn⟩:∃n,n=t.n:=⟨_,rfl⟩
 rw [←hnn] at hn99
 have HX:Hid (∀_:Unit,mkS (txt t)=mkS ([107]++dig n)):=fun _=>by rw [txt_2 hk,hnn]
 obtain ⟨p,c,rfl,_⟩:=hs.len
 rw [hml]
 have HNU:Hid (∀W,Below w.heap.size w W→Calls Tryz.prog 49 #[.int .i64 n] W fun e w'=>e=.returned (.string (mkS (dig n)))∧Below W.heap.size W w'):=fun W _=>num_any n hn99.1 hn99.2 W
 have HDL:Hid ((mkS (dig n)).size≤10):=by show _≤_;rw [ay];have:=(dS n).2;omega
 have HE:Hid (tcs t (.slice p 0 c)=[.int .i64 2,.int .i64 n,.slice p 0 c]):=by show _=_;rw [tcs,hk,←hnn]
 rw [HE.out]
 obtain ⟨R,hR⟩:∃R,R=mkS ([107]++dig n):=⟨_,rfl⟩
 have HRA:Hid (∀_:Unit,R=⟨#[107]⟩++mkS (dig n)):=fun _=>by rw [hR,dj];rfl
 have HXR:Hid (∀_:Unit,mkS (txt t)=R):=fun _=>by rw [HX.out (),hR]
 obtain ⟨D,hD⟩:∃D,D=mkS (dig n):=⟨_,rfl⟩
 rw [←hD] at HNU HDL HRA
 clear hs hml hk hnn hR HX hD hok HE
 have hm:=Mem.start w
 go_enter Tryz.func36,Tryz.ntmps36
 go_wp2_with (first
  | ((with_reducible refine af (some 1) (.box 24 (.tmp 0)) ?_);go_must (refine aw [.int .i64 2,.int .i64 n,.slice p 0 c] rfl hm ?_);clear hm;intro w1 g1 hm)
  | ((with_reducible refine af (some 4) (.load 3 (.tmp 3)) ?_);go_must (refine aa (.int .i64 2) rfl (ad (.int .i64 2) (Mem.cell hm 0 rfl 0) rfl ag) ?_))
  | ((with_reducible refine af (some 14) (.load 3 (.tmp 13)) ?_);go_must (refine aa (.int .i64 n) rfl (ad (.int .i64 n) (Mem.cell hm 0 rfl 1) rfl ag) ?_))
  | (go_at_call 49;go_must (refine (HNU.out _ hm.below).mono ?_);rintro e w9 ⟨he,hb⟩;subst he;replace hm:=hm.call hb;clear hb)
  | ((with_reducible refine af (some 16) (.binOp .add 9 (.const (.string {data:=#[107]})) (.tmp 15) 9) ?_);go_must (refine aa (.string R) rfl (aH ⟨#[107]⟩ D R (HRA.out ()) rfl rfl (by exact Nat.le_trans (Nat.add_le_add_left HDL.out 1) (by omega))) ?_)))
 go_ret
 exact ⟨by rw [HXR.out ()];rfl,hm.below⟩
theorem print_3 {F:Nat→Prop} (t:Tm) (ih:∀x∈t.l,∀(s:Value) (w:World),SlT F w s x.l→okT x=true→cnt x≤1000→Calls Tryz.prog 36 #[.agg (tcs x s).toArray] w fun e w'=>e=.returned (.string (mkS (txt x)))∧Below w.heap.size w w') (s:Value) (w:World) (hs:SlT F w s t.l) (hok:okT t=true) (hc:cnt t≤1000) (hk:t.k=3) :
  Calls Tryz.prog 36 #[.agg (tcs t s).toArray] w fun e w'=>e=.returned (.string (mkS (txt t)))∧Below w.heap.size w w':=by
 have hn99:=okF_n (aS hok)
 have hml:t.l.length=2:=by have:=bg (aS hok);rw [this,hk];rfl
 obtain ⟨n,hnn⟩:∃n,n=t.n:=⟨_,rfl⟩
 rw [←hnn] at hn99
 obtain ⟨x,y,hl⟩:=eJ hml
 obtain ⟨Xx,hXx⟩:∃X,X=mkS (txt x):=⟨_,rfl⟩
 obtain ⟨Xy,hXy⟩:∃X,X=mkS (txt y):=⟨_,rfl⟩
 obtain ⟨p,c,rfl,_⟩:=hs.len
 rw [hml] at hs ⊢
 obtain ⟨b,o,rfl⟩:=hs.at (by omega)
 have hs2:=hs
 obtain ⟨px,mx,cx,ax0,ax1,ax2,ex,hsx⟩:=hs2.cells (show t.l[0]?=some x by rw [hl];rfl)
 have HCx:Hid (∀W,Below w.heap.size w W→W.cell? ⟨b,o+0 * 3,none⟩=some (.int .i64 x.k)∧W.cell? ⟨b,o+0 * 3+1,none⟩=some (.int .i64 x.n)∧W.cell? ⟨b,o+0 * 3+2,none⟩=some (.slice px mx cx)):=fun W hW=>⟨(hW.cell (p:=⟨b,_,none⟩) (block_lt_of_cell ax0)).trans ax0,(hW.cell (p:=⟨b,_,none⟩) (block_lt_of_cell ax1)).trans ax1,(hW.cell (p:=⟨b,_,none⟩) (block_lt_of_cell ax2)).trans ax2⟩
 have HPx:Hid (∀W,Below w.heap.size w W→Calls Tryz.prog 36 #[.agg (tcs x (.slice px mx cx)).toArray] W fun e w'=>e=.returned (.string Xx)∧Below W.heap.size W w'):=fun W hW=>by rw [hXx];exact ih x (by rw [hl];simp) _ W (hsx.below hW) (aM hok (by rw [hl];simp)) (Nat.le_trans (Nat.le_of_lt (bE (t:=t) (by rw [hl];simp))) hc)
 have HLx:Hid (Xx.size≤8000):=by show _≤_;rw [hXx,ay];have h1:=dt x (aM hok (by rw [hl];simp));have h2:=bE (t:=t) (x:=x) (by rw [hl];simp);omega
 obtain ⟨py,my,cy,ay0,ay1,ay2,ey,hsy⟩:=hs2.cells (show t.l[1]?=some y by rw [hl];rfl)
 have HCy:Hid (∀W,Below w.heap.size w W→W.cell? ⟨b,o+1 * 3,none⟩=some (.int .i64 y.k)∧W.cell? ⟨b,o+1 * 3+1,none⟩=some (.int .i64 y.n)∧W.cell? ⟨b,o+1 * 3+2,none⟩=some (.slice py my cy)):=fun W hW=>⟨(hW.cell (p:=⟨b,_,none⟩) (block_lt_of_cell ay0)).trans ay0,(hW.cell (p:=⟨b,_,none⟩) (block_lt_of_cell ay1)).trans ay1,(hW.cell (p:=⟨b,_,none⟩) (block_lt_of_cell ay2)).trans ay2⟩
 have HPy:Hid (∀W,Below w.heap.size w W→Calls Tryz.prog 36 #[.agg (tcs y (.slice py my cy)).toArray] W fun e w'=>e=.returned (.string Xy)∧Below W.heap.size W w'):=fun W hW=>by rw [hXy];exact ih y (by rw [hl];simp) _ W (hsy.below hW) (aM hok (by rw [hl];simp)) (Nat.le_trans (Nat.le_of_lt (bE (t:=t) (by rw [hl];simp))) hc)
 have HLy:Hid (Xy.size≤8000):=by show _≤_;rw [hXy,ay];have h1:=dt y (aM hok (by rw [hl];simp));have h2:=bE (t:=t) (x:=y) (by rw [hl];simp);omega
 obtain ⟨A1,hA1⟩:∃A,A=⟨#[115,101,97,108,40]⟩++Xx:=⟨_,rfl⟩
 obtain ⟨A2,hA2⟩:∃A,A=A1++⟨#[44]⟩:=⟨_,rfl⟩
 obtain ⟨A3,hA3⟩:∃A,A=A2++Xy:=⟨_,rfl⟩
 obtain ⟨A4,hA4⟩:∃A,A=A3++⟨#[41]⟩:=⟨_,rfl⟩
 have HX:Hid (∀_:Unit,mkS (txt t)=A4):=fun _=>by
  rw [txt_3 hk hl,hA4,hA3,hA2,hA1,hXx,hXy]
  simp only [dj]
  rfl
 have hz1:A1.size=5+Xx.size:=by rw [hA1,ByteArray.size_append];rfl
 have hz2:A2.size=A1.size+1:=by rw [hA2,ByteArray.size_append];rfl
 have hz3:A3.size=A2.size+Xy.size:=by rw [hA3,ByteArray.size_append]
 have HZ:Hid (A1.size≤10000∧A2.size≤10000∧A3.size≤20000):=by
  have h1:=HLx.out
  have h2:=HLy.out
  exact ⟨by omega,by omega,by omega⟩
 have HA1:Hid (∀_:Unit,A1=⟨#[115,101,97,108,40]⟩++Xx):=fun _=>hA1
 have HA2:Hid (∀_:Unit,A2=A1++⟨#[44]⟩):=fun _=>hA2
 have HA3:Hid (∀_:Unit,A3=A2++Xy):=fun _=>hA3
 have HA4:Hid (∀_:Unit,A4=A3++⟨#[41]⟩):=fun _=>hA4
 have HE:Hid (tcs t (.slice (some ⟨b,o,none⟩) 2 c)=[.int .i64 3,.int .i64 n,.slice (some ⟨b,o,none⟩) 2 c]):=by show _=_;rw [tcs,hk,←hnn]
 rw [HE.out]
 clear hs hs2 hml hk hnn hl hok hc hXx hXy hA1 hA2 hA3 hA4 hz1 hz2 hz3 HE ih hn99 ax0 ax1 ax2 ay0 ay1 ay2 ex ey hsx hsy
 have hm:=Mem.start w
 go_enter Tryz.func36,Tryz.ntmps36
 go_wp2_with (first
  | ((with_reducible refine af (some 1) (.box 24 (.tmp 0)) ?_);go_must (refine aw [.int .i64 3,.int .i64 n,.slice (some ⟨b,o,none⟩) 2 c] rfl hm ?_);clear hm;intro w1 g1 hm)
  | ((with_reducible refine af (some 4) (.load 3 (.tmp 3)) ?_);go_must (refine aa (.int .i64 3) rfl (ad (.int .i64 3) (Mem.cell hm 0 rfl 0) rfl ag) ?_)))
 refine aq ?_
 refine ao (T:=fun W=>Mem w [] W [(g1,[.int .i64 3,.int .i64 n,.slice (some ⟨b,o,none⟩) 2 c],24)]) (by kernel_rfl) hm ?_
 intro wc hbw hmw
 replace hm:Mem w [] wc [(g1,[.int .i64 3,.int .i64 n,.slice (some ⟨b,o,none⟩) 2 c],24)]:=hmw
 clear hbw hmw
 refine aT 0 (v:=.pointer (some ⟨g1,2,none⟩)) rfl (by kernel_rfl) rfl (fun W _=>by go_simp) hm ?_
 go_simp
 refine aT 1 (v:=.slice (some ⟨b,o,none⟩) 2 c) rfl (by kernel_rfl) rfl (fun W hW=>ad (.slice (some ⟨b,o,none⟩) 2 c) (((Mem.get hW 0 rfl).cell 2).trans rfl) rfl ah) hm ?_
 go_simp
 refine aT 2 (v:=.pointer (some ⟨b,o+0 * 3,none⟩)) rfl (by kernel_rfl) rfl (fun W _=>ak 0 rfl rfl rfl (by omega)) hm ?_
 go_simp
 refine aT 3 (v:=.agg (tcs x (.slice px mx cx)).toArray) rfl (by kernel_rfl) rfl (fun W hW=>am rfl (HCx.out W hW.below).1 (HCx.out W hW.below).2.1 (HCx.out W hW.below).2.2) hm ?_
 go_simp
 refine aT 7 (v:=.pointer (some ⟨g1,2,none⟩)) rfl (by kernel_rfl) rfl (fun W _=>by go_simp) hm ?_
 go_simp
 refine aT 8 (v:=.slice (some ⟨b,o,none⟩) 2 c) rfl (by kernel_rfl) rfl (fun W hW=>ad (.slice (some ⟨b,o,none⟩) 2 c) (((Mem.get hW 0 rfl).cell 2).trans rfl) rfl ah) hm ?_
 go_simp
 refine aT 9 (v:=.pointer (some ⟨b,o+1 * 3,none⟩)) rfl (by kernel_rfl) rfl (fun W _=>ak 1 rfl rfl rfl (by omega)) hm ?_
 go_simp
 refine aT 10 (v:=.agg (tcs y (.slice py my cy)).toArray) rfl (by kernel_rfl) rfl (fun W hW=>am rfl (HCy.out W hW.below).1 (HCy.out W hW.below).2.1 (HCy.out W hW.below).2.2) hm ?_
 go_simp
 refine aO 4 (by kernel_rfl) rfl rfl ?_
 intro K hK
 go_wp2_with (go_at_call 36;refine (HPx.out _ hm.below).mono ?_;rintro e wpx ⟨he,hb⟩;subst he;replace hm:=hm.call hb;clear hb)
 refine hK _ _ hm ?_
 clear hK K
 go_simp
 refine aT 5 (v:=.string A1) rfl (by kernel_rfl) rfl (fun W _=>aH ⟨#[115,101,97,108,40]⟩ Xx A1 (HA1.out ()) rfl rfl (by have:=HLx.out;exact Nat.le_trans (Nat.add_le_add_left this 5) (by omega))) hm ?_
 go_simp
 refine aT 6 (v:=.string A2) rfl (by kernel_rfl) rfl (fun W _=>aH A1 ⟨#[44]⟩ A2 (HA2.out ()) rfl rfl (by have:=HZ.out.1;exact Nat.le_trans (Nat.add_le_add_right this 1) (by omega))) hm ?_
 go_simp
 refine aO 11 (by kernel_rfl) rfl rfl ?_
 intro K hK
 go_wp2_with (go_at_call 36;refine (HPy.out _ hm.below).mono ?_;rintro e wpy ⟨he,hb⟩;subst he;replace hm:=hm.call hb;clear hb)
 refine hK _ _ hm ?_
 clear hK K
 go_simp
 refine aT 12 (v:=.string A3) rfl (by kernel_rfl) rfl (fun W _=>aH A2 Xy A3 (HA3.out ()) rfl rfl (by have h1:=HZ.out.2.1;have h2:=HLy.out;omega)) hm ?_
 go_simp
 refine aT 13 (v:=.string A4) rfl (by kernel_rfl) rfl (fun W _=>aH A3 ⟨#[41]⟩ A4 (HA4.out ()) rfl rfl (by have:=HZ.out.2.2;exact Nat.le_trans (Nat.add_le_add_right this 1) (by omega))) hm ?_
 go_simp
 refine aT 14 (v:=.string A4) rfl (by kernel_rfl) rfl (fun W _=>by go_simp) hm ?_
 go_simp
 refine wpAnyH_done (by kernel_rfl) ?_ _
 simp only [endsIn]
 go_wp2_with fail
 go_ret
 exact ⟨by rw [HX.out ()];rfl,hm.below⟩
theorem print_4 {F:Nat→Prop} (t:Tm) (ih:∀x∈t.l,∀(s:Value) (w:World),SlT F w s x.l→okT x=true→cnt x≤1000→Calls Tryz.prog 36 #[.agg (tcs x s).toArray] w fun e w'=>e=.returned (.string (mkS (txt x)))∧Below w.heap.size w w') (s:Value) (w:World) (hs:SlT F w s t.l) (hok:okT t=true) (hc:cnt t≤1000) (hk:t.k=4) :
  Calls Tryz.prog 36 #[.agg (tcs t s).toArray] w fun e w'=>e=.returned (.string (mkS (txt t)))∧Below w.heap.size w w':=by
 have hn99:=okF_n (aS hok)
 have hml:t.l.length=2:=by have:=bg (aS hok);rw [this,hk];rfl
 obtain ⟨n,hnn⟩:∃n,n=t.n:=⟨_,rfl⟩
 rw [←hnn] at hn99
 obtain ⟨x,y,hl⟩:=eJ hml
 obtain ⟨Xx,hXx⟩:∃X,X=mkS (txt x):=⟨_,rfl⟩
 obtain ⟨Xy,hXy⟩:∃X,X=mkS (txt y):=⟨_,rfl⟩
 obtain ⟨p,c,rfl,_⟩:=hs.len
 rw [hml] at hs ⊢
 obtain ⟨b,o,rfl⟩:=hs.at (by omega)
 have hs2:=hs
 obtain ⟨px,mx,cx,ax0,ax1,ax2,ex,hsx⟩:=hs2.cells (show t.l[0]?=some x by rw [hl];rfl)
 have HCx:Hid (∀W,Below w.heap.size w W→W.cell? ⟨b,o+0 * 3,none⟩=some (.int .i64 x.k)∧W.cell? ⟨b,o+0 * 3+1,none⟩=some (.int .i64 x.n)∧W.cell? ⟨b,o+0 * 3+2,none⟩=some (.slice px mx cx)):=fun W hW=>⟨(hW.cell (p:=⟨b,_,none⟩) (block_lt_of_cell ax0)).trans ax0,(hW.cell (p:=⟨b,_,none⟩) (block_lt_of_cell ax1)).trans ax1,(hW.cell (p:=⟨b,_,none⟩) (block_lt_of_cell ax2)).trans ax2⟩
 have HPx:Hid (∀W,Below w.heap.size w W→Calls Tryz.prog 36 #[.agg (tcs x (.slice px mx cx)).toArray] W fun e w'=>e=.returned (.string Xx)∧Below W.heap.size W w'):=fun W hW=>by rw [hXx];exact ih x (by rw [hl];simp) _ W (hsx.below hW) (aM hok (by rw [hl];simp)) (Nat.le_trans (Nat.le_of_lt (bE (t:=t) (by rw [hl];simp))) hc)
 have HLx:Hid (Xx.size≤8000):=by show _≤_;rw [hXx,ay];have h1:=dt x (aM hok (by rw [hl];simp));have h2:=bE (t:=t) (x:=x) (by rw [hl];simp);omega
 obtain ⟨py,my,cy,ay0,ay1,ay2,ey,hsy⟩:=hs2.cells (show t.l[1]?=some y by rw [hl];rfl)
 have HCy:Hid (∀W,Below w.heap.size w W→W.cell? ⟨b,o+1 * 3,none⟩=some (.int .i64 y.k)∧W.cell? ⟨b,o+1 * 3+1,none⟩=some (.int .i64 y.n)∧W.cell? ⟨b,o+1 * 3+2,none⟩=some (.slice py my cy)):=fun W hW=>⟨(hW.cell (p:=⟨b,_,none⟩) (block_lt_of_cell ay0)).trans ay0,(hW.cell (p:=⟨b,_,none⟩) (block_lt_of_cell ay1)).trans ay1,(hW.cell (p:=⟨b,_,none⟩) (block_lt_of_cell ay2)).trans ay2⟩
 have HPy:Hid (∀W,Below w.heap.size w W→Calls Tryz.prog 36 #[.agg (tcs y (.slice py my cy)).toArray] W fun e w'=>e=.returned (.string Xy)∧Below W.heap.size W w'):=fun W hW=>by rw [hXy];exact ih y (by rw [hl];simp) _ W (hsy.below hW) (aM hok (by rw [hl];simp)) (Nat.le_trans (Nat.le_of_lt (bE (t:=t) (by rw [hl];simp))) hc)
 have HLy:Hid (Xy.size≤8000):=by show _≤_;rw [hXy,ay];have h1:=dt y (aM hok (by rw [hl];simp));have h2:=bE (t:=t) (x:=y) (by rw [hl];simp);omega
 obtain ⟨A1,hA1⟩:∃A,A=⟨#[40]⟩++Xx:=⟨_,rfl⟩
 obtain ⟨A2,hA2⟩:∃A,A=A1++⟨#[44]⟩:=⟨_,rfl⟩
 obtain ⟨A3,hA3⟩:∃A,A=A2++Xy:=⟨_,rfl⟩
 obtain ⟨A4,hA4⟩:∃A,A=A3++⟨#[41]⟩:=⟨_,rfl⟩
 have HX:Hid (∀_:Unit,mkS (txt t)=A4):=fun _=>by
  rw [txt_4 hk hl,hA4,hA3,hA2,hA1,hXx,hXy]
  simp only [dj]
  rfl
 have hz1:A1.size=1+Xx.size:=by rw [hA1,ByteArray.size_append];rfl
 have hz2:A2.size=A1.size+1:=by rw [hA2,ByteArray.size_append];rfl
 have hz3:A3.size=A2.size+Xy.size:=by rw [hA3,ByteArray.size_append]
 have HZ:Hid (A1.size≤10000∧A2.size≤10000∧A3.size≤20000):=by
  have h1:=HLx.out
  have h2:=HLy.out
  exact ⟨by omega,by omega,by omega⟩
 have HA1:Hid (∀_:Unit,A1=⟨#[40]⟩++Xx):=fun _=>hA1
 have HA2:Hid (∀_:Unit,A2=A1++⟨#[44]⟩):=fun _=>hA2
 have HA3:Hid (∀_:Unit,A3=A2++Xy):=fun _=>hA3
 have HA4:Hid (∀_:Unit,A4=A3++⟨#[41]⟩):=fun _=>hA4
 have HE:Hid (tcs t (.slice (some ⟨b,o,none⟩) 2 c)=[.int .i64 4,.int .i64 n,.slice (some ⟨b,o,none⟩) 2 c]):=by show _=_;rw [tcs,hk,←hnn]
 rw [HE.out]
 clear hs hs2 hml hk hnn hl hok hc hXx hXy hA1 hA2 hA3 hA4 hz1 hz2 hz3 HE ih hn99 ax0 ax1 ax2 ay0 ay1 ay2 ex ey hsx hsy
 have hm:=Mem.start w
 go_enter Tryz.func36,Tryz.ntmps36
 go_wp2_with (first
  | ((with_reducible refine af (some 1) (.box 24 (.tmp 0)) ?_);go_must (refine aw [.int .i64 4,.int .i64 n,.slice (some ⟨b,o,none⟩) 2 c] rfl hm ?_);clear hm;intro w1 g1 hm)
  | ((with_reducible refine af (some 4) (.load 3 (.tmp 3)) ?_);go_must (refine aa (.int .i64 4) rfl (ad (.int .i64 4) (Mem.cell hm 0 rfl 0) rfl ag) ?_)))
 refine aq ?_
 refine ao (T:=fun W=>Mem w [] W [(g1,[.int .i64 4,.int .i64 n,.slice (some ⟨b,o,none⟩) 2 c],24)]) (by kernel_rfl) hm ?_
 intro wc hbw hmw
 replace hm:Mem w [] wc [(g1,[.int .i64 4,.int .i64 n,.slice (some ⟨b,o,none⟩) 2 c],24)]:=hmw
 clear hbw hmw
 refine aT 0 (v:=.pointer (some ⟨g1,2,none⟩)) rfl (by kernel_rfl) rfl (fun W _=>by go_simp) hm ?_
 go_simp
 refine aT 1 (v:=.slice (some ⟨b,o,none⟩) 2 c) rfl (by kernel_rfl) rfl (fun W hW=>ad (.slice (some ⟨b,o,none⟩) 2 c) (((Mem.get hW 0 rfl).cell 2).trans rfl) rfl ah) hm ?_
 go_simp
 refine aT 2 (v:=.pointer (some ⟨b,o+0 * 3,none⟩)) rfl (by kernel_rfl) rfl (fun W _=>ak 0 rfl rfl rfl (by omega)) hm ?_
 go_simp
 refine aT 3 (v:=.agg (tcs x (.slice px mx cx)).toArray) rfl (by kernel_rfl) rfl (fun W hW=>am rfl (HCx.out W hW.below).1 (HCx.out W hW.below).2.1 (HCx.out W hW.below).2.2) hm ?_
 go_simp
 refine aT 7 (v:=.pointer (some ⟨g1,2,none⟩)) rfl (by kernel_rfl) rfl (fun W _=>by go_simp) hm ?_
 go_simp
 refine aT 8 (v:=.slice (some ⟨b,o,none⟩) 2 c) rfl (by kernel_rfl) rfl (fun W hW=>ad (.slice (some ⟨b,o,none⟩) 2 c) (((Mem.get hW 0 rfl).cell 2).trans rfl) rfl ah) hm ?_
 go_simp
 refine aT 9 (v:=.pointer (some ⟨b,o+1 * 3,none⟩)) rfl (by kernel_rfl) rfl (fun W _=>ak 1 rfl rfl rfl (by omega)) hm ?_
 go_simp
 refine aT 10 (v:=.agg (tcs y (.slice py my cy)).toArray) rfl (by kernel_rfl) rfl (fun W hW=>am rfl (HCy.out W hW.below).1 (HCy.out W hW.below).2.1 (HCy.out W hW.below).2.2) hm ?_
 go_simp
 refine aO 4 (by kernel_rfl) rfl rfl ?_
 intro K hK
 go_wp2_with (go_at_call 36;refine (HPx.out _ hm.below).mono ?_;rintro e wpx ⟨he,hb⟩;subst he;replace hm:=hm.call hb;clear hb)
 refine hK _ _ hm ?_
 clear hK K
 go_simp
 refine aT 5 (v:=.string A1) rfl (by kernel_rfl) rfl (fun W _=>aH ⟨#[40]⟩ Xx A1 (HA1.out ()) rfl rfl (by have:=HLx.out;exact Nat.le_trans (Nat.add_le_add_left this 1) (by omega))) hm ?_
 go_simp
 refine aT 6 (v:=.string A2) rfl (by kernel_rfl) rfl (fun W _=>aH A1 ⟨#[44]⟩ A2 (HA2.out ()) rfl rfl (by have:=HZ.out.1;exact Nat.le_trans (Nat.add_le_add_right this 1) (by omega))) hm ?_
 go_simp
 refine aO 11 (by kernel_rfl) rfl rfl ?_
 intro K hK
 go_wp2_with (go_at_call 36;refine (HPy.out _ hm.below).mono ?_;rintro e wpy ⟨he,hb⟩;subst he;replace hm:=hm.call hb;clear hb)
 refine hK _ _ hm ?_
 clear hK K
 go_simp
 refine aT 12 (v:=.string A3) rfl (by kernel_rfl) rfl (fun W _=>aH A2 Xy A3 (HA3.out ()) rfl rfl (by have h1:=HZ.out.2.1;have h2:=HLy.out;omega)) hm ?_
 go_simp
 refine aT 13 (v:=.string A4) rfl (by kernel_rfl) rfl (fun W _=>aH A3 ⟨#[41]⟩ A4 (HA4.out ()) rfl rfl (by have:=HZ.out.2.2;exact Nat.le_trans (Nat.add_le_add_right this 1) (by omega))) hm ?_
 go_simp
 refine aT 14 (v:=.string A4) rfl (by kernel_rfl) rfl (fun W _=>by go_simp) hm ?_
 go_simp
 refine wpAnyH_done (by kernel_rfl) ?_ _
 simp only [endsIn]
 go_wp2_with fail
 go_ret
 exact ⟨by rw [HX.out ()];rfl,hm.below⟩
theorem print_5 {F:Nat→Prop} (t:Tm) (ih:∀x∈t.l,∀(s:Value) (w:World),SlT F w s x.l→okT x=true→cnt x≤1000→Calls Tryz.prog 36 #[.agg (tcs x s).toArray] w fun e w'=>e=.returned (.string (mkS (txt x)))∧Below w.heap.size w w') (s:Value) (w:World) (hs:SlT F w s t.l) (hok:okT t=true) (hc:cnt t≤1000) (hk:t.k=5) :
  Calls Tryz.prog 36 #[.agg (tcs t s).toArray] w fun e w'=>e=.returned (.string (mkS (txt t)))∧Below w.heap.size w w':=by
 have hn99:=okF_n (aS hok)
 have hml:t.l.length=1:=by have:=bg (aS hok);rw [this,hk];rfl
 obtain ⟨n,hnn⟩:∃n,n=t.n:=⟨_,rfl⟩
 rw [←hnn] at hn99
 obtain ⟨x,hl⟩:=len_one hml
 obtain ⟨Xx,hXx⟩:∃X,X=mkS (txt x):=⟨_,rfl⟩
 obtain ⟨p,c,rfl,_⟩:=hs.len
 rw [hml] at hs ⊢
 obtain ⟨b,o,rfl⟩:=hs.at (by omega)
 have hs2:=hs
 obtain ⟨px,mx,cx,ax0,ax1,ax2,ex,hsx⟩:=hs2.cells (show t.l[0]?=some x by rw [hl];rfl)
 have HCx:Hid (∀W,Below w.heap.size w W→W.cell? ⟨b,o+0 * 3,none⟩=some (.int .i64 x.k)∧W.cell? ⟨b,o+0 * 3+1,none⟩=some (.int .i64 x.n)∧W.cell? ⟨b,o+0 * 3+2,none⟩=some (.slice px mx cx)):=fun W hW=>⟨(hW.cell (p:=⟨b,_,none⟩) (block_lt_of_cell ax0)).trans ax0,(hW.cell (p:=⟨b,_,none⟩) (block_lt_of_cell ax1)).trans ax1,(hW.cell (p:=⟨b,_,none⟩) (block_lt_of_cell ax2)).trans ax2⟩
 have HPx:Hid (∀W,Below w.heap.size w W→Calls Tryz.prog 36 #[.agg (tcs x (.slice px mx cx)).toArray] W fun e w'=>e=.returned (.string Xx)∧Below W.heap.size W w'):=fun W hW=>by rw [hXx];exact ih x (by rw [hl];simp) _ W (hsx.below hW) (aM hok (by rw [hl];simp)) (Nat.le_trans (Nat.le_of_lt (bE (t:=t) (by rw [hl];simp))) hc)
 have HLx:Hid (Xx.size≤8000):=by show _≤_;rw [hXx,ay];have h1:=dt x (aM hok (by rw [hl];simp));have h2:=bE (t:=t) (x:=x) (by rw [hl];simp);omega
 obtain ⟨D,hD⟩:∃D,D=mkS (dig n):=⟨_,rfl⟩
 have HNU:Hid (∀W,Below w.heap.size w W→Calls Tryz.prog 49 #[.int .i64 n] W fun e w'=>e=.returned (.string D)∧Below W.heap.size W w'):=fun W _=>by rw [hD];exact num_any n hn99.1 hn99.2 W
 have HDL:Hid (D.size≤10):=by show _≤_;rw [hD,ay];have:=(dS n).2;omega
 obtain ⟨A1,hA1⟩:∃A,A=⟨#[100]⟩++D:=⟨_,rfl⟩
 obtain ⟨A2,hA2⟩:∃A,A=A1++⟨#[40]⟩:=⟨_,rfl⟩
 obtain ⟨A3,hA3⟩:∃A,A=A2++Xx:=⟨_,rfl⟩
 obtain ⟨A4,hA4⟩:∃A,A=A3++⟨#[41]⟩:=⟨_,rfl⟩
 have HX:Hid (∀_:Unit,mkS (txt t)=A4):=fun _=>by
  rw [txt_5 hk hl,hA4,hA3,hA2,hA1,hXx,hD,hnn]
  simp only [dj]
  rfl
 have hz1:A1.size=1+D.size:=by rw [hA1,ByteArray.size_append];rfl
 have hz2:A2.size=A1.size+1:=by rw [hA2,ByteArray.size_append];rfl
 have hz3:A3.size=A2.size+Xx.size:=by rw [hA3,ByteArray.size_append]
 have HZ:Hid (A1.size≤100∧A2.size≤100∧A3.size≤20000):=by
  have h1:=HLx.out
  have h2:=HDL.out
  exact ⟨by omega,by omega,by omega⟩
 have HA1:Hid (∀_:Unit,A1=⟨#[100]⟩++D):=fun _=>hA1
 have HA2:Hid (∀_:Unit,A2=A1++⟨#[40]⟩):=fun _=>hA2
 have HA3:Hid (∀_:Unit,A3=A2++Xx):=fun _=>hA3
 have HA4:Hid (∀_:Unit,A4=A3++⟨#[41]⟩):=fun _=>hA4
 have HE:Hid (tcs t (.slice (some ⟨b,o,none⟩) 1 c)=[.int .i64 5,.int .i64 n,.slice (some ⟨b,o,none⟩) 1 c]):=by show _=_;rw [tcs,hk,←hnn]
 rw [HE.out]
 clear hs hs2 hml hk hnn hl hok hc hXx hD hA1 hA2 hA3 hA4 hz1 hz2 hz3 HE ih hn99 ax0 ax1 ax2 ex hsx
 have hm:=Mem.start w
 go_enter Tryz.func36,Tryz.ntmps36
 go_wp2_with (first
  | ((with_reducible refine af (some 1) (.box 24 (.tmp 0)) ?_);go_must (refine aw [.int .i64 5,.int .i64 n,.slice (some ⟨b,o,none⟩) 1 c] rfl hm ?_);clear hm;intro w1 g1 hm)
  | ((with_reducible refine af (some 4) (.load 3 (.tmp 3)) ?_);go_must (refine aa (.int .i64 5) rfl (ad (.int .i64 5) (Mem.cell hm 0 rfl 0) rfl ag) ?_)))
 refine aq ?_
 refine ao (T:=fun W=>Mem w [] W [(g1,[.int .i64 5,.int .i64 n,.slice (some ⟨b,o,none⟩) 1 c],24)]) (by kernel_rfl) hm ?_
 intro wc hbw hmw
 replace hm:Mem w [] wc [(g1,[.int .i64 5,.int .i64 n,.slice (some ⟨b,o,none⟩) 1 c],24)]:=hmw
 clear hbw hmw
 refine aT 0 (v:=.pointer (some ⟨g1,1,none⟩)) rfl (by kernel_rfl) rfl (fun W _=>by go_simp) hm ?_
 go_simp
 refine aT 1 (v:=.int .i64 n) rfl (by kernel_rfl) rfl (fun W hW=>ad (.int .i64 n) (((Mem.get hW 0 rfl).cell 1).trans rfl) rfl ag) hm ?_
 go_simp
 refine aT 5 (v:=.pointer (some ⟨g1,2,none⟩)) rfl (by kernel_rfl) rfl (fun W _=>by go_simp) hm ?_
 go_simp
 refine aT 6 (v:=.slice (some ⟨b,o,none⟩) 1 c) rfl (by kernel_rfl) rfl (fun W hW=>ad (.slice (some ⟨b,o,none⟩) 1 c) (((Mem.get hW 0 rfl).cell 2).trans rfl) rfl ah) hm ?_
 go_simp
 refine aT 7 (v:=.pointer (some ⟨b,o+0 * 3,none⟩)) rfl (by kernel_rfl) rfl (fun W _=>ak 0 rfl rfl rfl (by omega)) hm ?_
 go_simp
 refine aT 8 (v:=.agg (tcs x (.slice px mx cx)).toArray) rfl (by kernel_rfl) rfl (fun W hW=>am rfl (HCx.out W hW.below).1 (HCx.out W hW.below).2.1 (HCx.out W hW.below).2.2) hm ?_
 go_simp
 refine aO 2 (by kernel_rfl) rfl rfl ?_
 intro K hK
 go_wp2_with (go_at_call 49;refine (HNU.out _ hm.below).mono ?_;rintro e wn ⟨he,hb⟩;subst he;replace hm:=hm.call hb;clear hb)
 refine hK _ _ hm ?_
 clear hK K
 go_simp
 refine aT 3 (v:=.string A1) rfl (by kernel_rfl) rfl (fun W _=>aH ⟨#[100]⟩ D A1 (HA1.out ()) rfl rfl (by have:=HDL.out;exact Nat.le_trans (Nat.add_le_add_left this 1) (by omega))) hm ?_
 go_simp
 refine aT 4 (v:=.string A2) rfl (by kernel_rfl) rfl (fun W _=>aH A1 ⟨#[40]⟩ A2 (HA2.out ()) rfl rfl (by have:=HZ.out.1;exact Nat.le_trans (Nat.add_le_add_right this 1) (by omega))) hm ?_
 go_simp
 refine aO 9 (by kernel_rfl) rfl rfl ?_
 intro K hK
 go_wp2_with (go_at_call 36;refine (HPx.out _ hm.below).mono ?_;rintro e wpx ⟨he,hb⟩;subst he;replace hm:=hm.call hb;clear hb)
 refine hK _ _ hm ?_
 clear hK K
 go_simp
 refine aT 10 (v:=.string A3) rfl (by kernel_rfl) rfl (fun W _=>aH A2 Xx A3 (HA3.out ()) rfl rfl (by have h1:=HZ.out.2.1;have h2:=HLx.out;omega)) hm ?_
 go_simp
 refine aT 11 (v:=.string A4) rfl (by kernel_rfl) rfl (fun W _=>aH A3 ⟨#[41]⟩ A4 (HA4.out ()) rfl rfl (by have:=HZ.out.2.2;exact Nat.le_trans (Nat.add_le_add_right this 1) (by omega))) hm ?_
 go_simp
 refine aT 12 (v:=.string A4) rfl (by kernel_rfl) rfl (fun W _=>by go_simp) hm ?_
 go_simp
 refine wpAnyH_done (by kernel_rfl) ?_ _
 simp only [endsIn]
 go_wp2_with fail
 go_ret
 exact ⟨by rw [HX.out ()];rfl,hm.below⟩
theorem fe {F:Nat→Prop} (t:Tm):∀(s:Value) (w:World),SlT F w s t.l→okT t=true→cnt t≤1000 →
  Calls Tryz.prog 36 #[.agg (tcs t s).toArray] w fun e w'=>e=.returned (.string (mkS (txt t)))∧Below w.heap.size w w':=by
 induction t using Tm.ind with
 | h t ih =>
 intro s w hs hok hc
 have hk:=okF_k (aS hok)
 rcases (show t.k=1∨t.k=2∨t.k=3∨t.k=4∨t.k=5 by omega) with h|h|h|h|h
 ·exact print_1 t s w hs hok h
 ·exact print_2 t s w hs hok h
 ·exact print_3 t ih s w hs hok hc h
 ·exact print_4 t ih s w hs hok hc h
 ·exact print_5 t ih s w hs hok hc h
open Go Go.RowKit
theorem exec_ltS {P:Program} {a:Act} {w:World} {dst:Option Tmp} {typ:TypeId} {pos:String} {aft:Array Edge} {gd:Option (Nat×Bool)} {t rt:TypeId} {x y:Operand} (s s':ByteArray) (v:Bool) (hv:decide (bs s<bs s')=v) (hx:a.eval x=.string s) (hy:a.eval y=.string s') :
  (execOp a.eval {dst:=dst,op:=.binOp .lss t x y rt,type:=typ,pos:=pos,after:=aft,guard:=gd}).run P w=.ok (.value (.bool v)) w:=by
 subst hv
 unfold execOp
 simp only [hx,hy]
 simp [eqGuard,binOp,Op.stringOp,Go.Proofs.bytesLess_eq,ByteArray.toList_eq,bs]
theorem dF {F G:Nat→Prop} (l:List Tm) (u:Tm) (p:Option Addr) (n c:Nat) (s:Value) (w:World) (r:Bool) (hr:r=true↔u∈l) (hn:n=l.length) (hn4:n≤100000) (hc:∀x∈l,cnt x≤100000) (hl:SlT F w (.slice p n c) l) (hs:SlT G w s u.l) :
  Calls Tryz.prog 20 #[.slice p n c,.agg (tcs u s).toArray] w fun e w'=>e=.returned (.bool r)∧Below w.heap.size w w':=by
 have hm:=Mem.start w
 have HN:Hid (∀_:Unit,n=l.length):=fun _=>hn
 have HCN:Hid (∀x∈l,cnt x≤100000):=hc
 have HLL:Hid (SlT F w (.slice p n c) l):=hl
 have HS:Hid (SlT G w s u.l):=hs
 have HIN:Hid (r=true↔u∈l):=hr
 clear hn hc hl hs hr
 go_enter Tryz.func20,Tryz.ntmps20
 go_wp2_with (first
  | ((with_reducible refine af (some 3) (.box 24 (.tmp 1)) ?_);go_must (refine aw (tcs u s) rfl hm ?_);clear hm;intro w1 g1 hm))
 have HMM0:Hid (Mem w [] w1 [(g1,tcs u s,24)]):=hm
 go_loopw [5] (fun vk wr=>∃k:Nat,vk=.int .i64 (k:Int)∧k≤n∧Hid (Mem w [] wr [(g1,tcs u s,24)])∧Hid (∀j,j<k→l[j]?≠some u)) (fun vk _=>n - (intOf vk).toNat)
 case atStart=>exact ⟨0,rfl,Nat.zero_le _,hm,fun j hj=>absurd hj (by omega)⟩
 case round =>
  clear hm HMM0
  obtain ⟨k,rfl,hkm,HMM,HNO⟩:=hrel
  by_cases hlt:k<n
  ·obtain ⟨x,hx⟩:∃x,l[k]?=some x:=⟨_,List.getElem?_eq_getElem (by rw [←HN.out ()];exact hlt)⟩
   obtain ⟨b1,o1,hp1⟩:=HLL.out.at (by omega)
   subst hp1
   obtain ⟨px,mx,cx,a0,a1,a2,hmx,hsx⟩:=HLL.out.cells hx
   have HA:Hid (∀W,Below w.heap.size w W→W.cell? ⟨b1,o1+k * 3,none⟩=some (.int .i64 x.k)∧W.cell? ⟨b1,o1+k * 3+1,none⟩=some (.int .i64 x.n)∧W.cell? ⟨b1,o1+k * 3+2,none⟩=some (.slice px mx cx)):=fun W hW=>⟨(hW.cell (p:=⟨b1,_,none⟩) (block_lt_of_cell a0)).trans a0,(hW.cell (p:=⟨b1,_,none⟩) (block_lt_of_cell a1)).trans a1,(hW.cell (p:=⟨b1,_,none⟩) (block_lt_of_cell a2)).trans a2⟩
   have HSX:Hid (SlT F w (.slice px mx cx) x.l):=hsx
   have HMX:Hid (x∈l):=List.mem_of_getElem? hx
   have HX:Hid (l[k]?=some x):=hx
   have HLT:Hid (k<n):=hlt
   have hki:(k:Int)<(n:Int):=by omega
   have hkb:k≤100000:=by omega
   have hm:=HMM.out
   clear hx a0 a1 a2 hmx hsx HMM
   by_cases hxu:x=u
   ·have HCALL:Hid (∀W,Below w.heap.size w W→Calls Tryz.prog 32 #[.agg (tcs x (.slice px mx cx)).toArray,.agg (tcs u s).toArray] W fun e w'=>e=.returned (.bool true)∧Below W.heap.size W w'):=fun W hW=>fj x (HCN.out x HMX.out) u _ _ true W (HSX.out.below hW) (HS.out.below hW) (by simp [hxu])
    have HRT:Hid (r=true):=HIN.out.2 (hxu▸HMX.out)
    clear hxu
    go_wp2_with fail
    refine aq ?_
    refine ao (T:=fun W=>Mem w [] W [(g1,tcs u s,24)]) (by kernel_rfl) hm ?_
    intro wc hbw hmw
    replace hm:Mem w [] wc [(g1,tcs u s,24)]:=hmw
    clear hbw hmw
    refine aT 0 (v:=.slice (some ⟨b1,o1,none⟩) n c) rfl (by kernel_rfl) rfl (fun W _=>by go_simp) hm ?_
    go_simp
    refine aT 1 (v:=.int .i64 (k:Int)) rfl (by kernel_rfl) rfl (fun W _=>by go_simp) hm ?_
    go_simp
    refine aT 2 (v:=.pointer (some ⟨b1,o1+k * 3,none⟩)) rfl (by kernel_rfl) rfl (fun W _=>ak k rfl rfl rfl HLT.out) hm ?_
    go_simp
    refine aT 3 (v:=.agg (tcs x (.slice px mx cx)).toArray) rfl (by kernel_rfl) rfl (fun W hW=>am rfl (HA.out W hW.below).1 (HA.out W hW.below).2.1 (HA.out W hW.below).2.2) hm ?_
    go_simp
    refine aT 4 (v:=.agg (tcs u s).toArray) rfl (by kernel_rfl) rfl (fun W hW=>aB 0 (tcs u s) (Mem.get hW 0 rfl) rfl _ Tryz.underlying24 rfl 3 aj (Nat.le_refl _) rfl) hm ?_
    go_simp
    refine aO 5 (by kernel_rfl) rfl rfl ?_
    intro K hK
    go_wp2_with (go_at_call 32;refine (HCALL.out _ hm.below).mono ?_;rintro e w' ⟨he,hb⟩;subst he;replace hm:=hm.call hb;clear hb)
    refine hK _ _ hm ?_
    clear hK K
    go_simp
    refine wpAnyH_done (by kernel_rfl) ?_ _
    simp only [endsIn]
    go_wp2_with fail
    go_ret
    exact ⟨by rw [HRT.out];rfl,hm.below⟩
   ·have HCALL:Hid (∀W,Below w.heap.size w W→Calls Tryz.prog 32 #[.agg (tcs x (.slice px mx cx)).toArray,.agg (tcs u s).toArray] W fun e w'=>e=.returned (.bool false)∧Below W.heap.size W w'):=fun W hW=>fj x (HCN.out x HMX.out) u _ _ false W (HSX.out.below hW) (HS.out.below hW) (by simp [hxu])
    have HNO2:Hid (∀j,j<k+1→l[j]?≠some u):=fun j hj=>by
     by_cases h:j=k
     ·subst h;rw [HX.out];intro he;exact hxu (Option.some.inj he)
     ·exact HNO.out j (by omega)
    clear hxu
    go_wp2_with fail
    refine aq ?_
    refine ao (T:=fun W=>Mem w [] W [(g1,tcs u s,24)]) (by kernel_rfl) hm ?_
    intro wc hbw hmw
    replace hm:Mem w [] wc [(g1,tcs u s,24)]:=hmw
    clear hbw hmw
    refine aT 0 (v:=.slice (some ⟨b1,o1,none⟩) n c) rfl (by kernel_rfl) rfl (fun W _=>by go_simp) hm ?_
    go_simp
    refine aT 1 (v:=.int .i64 (k:Int)) rfl (by kernel_rfl) rfl (fun W _=>by go_simp) hm ?_
    go_simp
    refine aT 2 (v:=.pointer (some ⟨b1,o1+k * 3,none⟩)) rfl (by kernel_rfl) rfl (fun W _=>ak k rfl rfl rfl HLT.out) hm ?_
    go_simp
    refine aT 3 (v:=.agg (tcs x (.slice px mx cx)).toArray) rfl (by kernel_rfl) rfl (fun W hW=>am rfl (HA.out W hW.below).1 (HA.out W hW.below).2.1 (HA.out W hW.below).2.2) hm ?_
    go_simp
    refine aT 4 (v:=.agg (tcs u s).toArray) rfl (by kernel_rfl) rfl (fun W hW=>aB 0 (tcs u s) (Mem.get hW 0 rfl) rfl _ Tryz.underlying24 rfl 3 aj (Nat.le_refl _) rfl) hm ?_
    go_simp
    refine aO 5 (by kernel_rfl) rfl rfl ?_
    intro K hK
    go_wp2_with (go_at_call 32;refine (HCALL.out _ hm.below).mono ?_;rintro e w' ⟨he,hb⟩;subst he;replace hm:=hm.call hb;clear hb)
    refine hK _ _ hm ?_
    clear hK K
    go_simp
    refine wpAnyH_done (by kernel_rfl) ?_ _
    simp only [endsIn]
    go_wp2_with fail
    go_roundw
    case rel=>exact ⟨k+1,by go_num,by omega,hm,HNO2.out⟩
    case measure=>simp [intOf];omega
  ·obtain rfl:k=n:=by omega
   have hki:¬(k:Int)<(k:Int):=by omega
   have HRF:Hid (r=false):=by
    show r=false
    cases hr:r with
    | false=>rfl
    | true =>
     obtain ⟨j,hj,he⟩:=List.getElem_of_mem (HIN.out.1 hr)
     exact absurd (by rw [List.getElem?_eq_getElem hj,he]) (HNO.out j (by rw [HN.out ()];exact hj))
   have hm:=HMM.out
   clear HMM HNO
   go_wp2_with fail
   go_ret
   exact ⟨by rw [HRF.out];rfl,hm.below⟩
open Go Go.RowKit Classical
theorem dy {F:Nat→Prop} {G:Nat→Prop} (K:List Tm) (p:Option Addr) (n c:Nat) (hn:n=K.length) (hn4:n≤100000) (hcK:∀x∈K,cnt x≤100000) (t:Tm):∀(s:Value) (w:World) (r:Bool),(r=true↔Syn (· ∈ K) t)→t.l.length≤1000→(∀x∈t.l,okT x=true)→SlT F w (.slice p n c) K→SlT G w s t.l →
  Calls Tryz.prog 30 #[.slice p n c,.agg (tcs t s).toArray] w fun e w'=>e=.returned (.bool r)∧Below w.heap.size w w':=by
 induction t using Tm.ind with
 | h t ih =>
 intro s w r hr hl4 hko hK hs
 have HIH:Hid _:=ih
 have HKL:Hid (SlT F w (.slice p n c) K):=hK
 have HN:Hid (∀_:Unit,n=K.length):=fun _=>hn
 have HN4:Hid (n≤100000∧∀x∈K,cnt x≤100000):=⟨hn4,hcK⟩
 have HKO:Hid (∀x∈t.l,okT x=true):=hko
 obtain ⟨q,cq,rfl,_⟩:=hs.len
 obtain ⟨m,hml⟩:∃m,m=t.l.length:=⟨_,rfl⟩
 have HM:Hid (∀_:Unit,m=t.l.length):=fun _=>hml
 have HS:Hid (SlT G w (.slice q m cq) t.l):=by rw [hml];exact hs
 have HR:Hid (r=true↔Syn (· ∈ K) t):=hr
 rw [←hml] at hl4 ⊢
 have hin:∀b:Bool,(b=true↔t∈K)→Hid (∀W,Below w.heap.size w W→Calls Tryz.prog 20 #[.slice p n c,.agg (tcs t (.slice q m cq)).toArray] W fun e w'=>e=.returned (.bool b)∧Below W.heap.size W w'):=fun b hb W hW=>dF K t p n c _ W b hb (HN.out ()) HN4.out.1 HN4.out.2 (HKL.out.below hW) (HS.out.below hW)
 by_cases hmem:t∈K
 ·have HIN:=hin true ⟨fun _=>hmem,fun _=>rfl⟩
  have HRT:Hid (r=true):=HR.out.2 (.of hmem)
  clear ih hr hK hn hn4 hcK hs hml hin hmem hko
  have hm:=Mem.start w
  go_enter Tryz.func30,Tryz.ntmps30
  go_wp2_with (first
   | ((with_reducible refine af (some 3) (.box 24 (.tmp 1)) ?_);go_must (refine aw (tcs t (.slice q m cq)) rfl hm ?_);clear hm;intro w1 g3 hm)
   | ((with_reducible refine af (some 7) (.load 24 (.tmp 3)) ?_);go_must (refine aE 0 hm rfl rfl _ Tryz.underlying24 rfl 3 aj rfl ?_))
   | (go_at_call 20;go_must (refine (HIN.out _ hm.below).mono ?_);rintro e w8 ⟨he,hb⟩;subst he;replace hm:=hm.call hb;clear hb))
  go_ret
  exact ⟨by rw [HRT.out];rfl,hm.below⟩
 ·have HIN:=hin false ⟨(fun h=>by cases h),fun h=>absurd h hmem⟩
  have HNM:Hid (¬t∈K):=hmem
  clear ih hr hK hn hn4 hcK hs hml hin hmem hko
  have hm:=Mem.start w
  by_cases hm0:m=0
  ·have HRF:Hid (r=false):=by
    show r=false
    cases hh:r with
    | false=>rfl
    | true =>
     rcases (HR.out.1 hh).cs with h1|⟨h1,_⟩
     ·exact absurd h1 HNM.out
     ·exact absurd (List.eq_nil_of_length_eq_zero (by rw [←HM.out (),hm0])) h1
   subst hm0
   go_enter Tryz.func30,Tryz.ntmps30
   go_wp2_with (first
    | ((with_reducible refine af (some 3) (.box 24 (.tmp 1)) ?_);go_must (refine aw (tcs t (.slice q 0 cq)) rfl hm ?_);clear hm;intro w1 g3 hm)
    | ((with_reducible refine af (some 7) (.load 24 (.tmp 3)) ?_);go_must (refine aE 0 hm rfl rfl _ Tryz.underlying24 rfl 3 aj rfl ?_))
    | (go_at_call 20;go_must (refine (HIN.out _ hm.below).mono ?_);rintro e w8 ⟨he,hb⟩;subst he;replace hm:=hm.call hb;clear hb)
    | ((with_reducible refine af (some 10) (.load 22 (.tmp 9)) ?_);go_must (refine aa (.slice q 0 cq) rfl (ad (.slice q 0 cq) (Mem.cell hm 0 rfl 2) rfl ah) ?_)))
   go_ret
   exact ⟨by rw [HRF.out];rfl,hm.below⟩
  ·have hmi:((m:Int)==0)=false:=beq_eq_false_iff_ne.2 (by omega)
   have hmi2:¬(m:Int)=0:=by omega
   go_enter Tryz.func30,Tryz.ntmps30
   go_wp2_with (first
    | ((with_reducible refine af (some 3) (.box 24 (.tmp 1)) ?_);go_must (refine aw (tcs t (.slice q m cq)) rfl hm ?_);clear hm;intro w1 g3 hm)
    | ((with_reducible refine af (some 7) (.load 24 (.tmp 3)) ?_);go_must (refine aE 0 hm rfl rfl _ Tryz.underlying24 rfl 3 aj rfl ?_))
    | (go_at_call 20;go_must (refine (HIN.out _ hm.below).mono ?_);rintro e w8 ⟨he,hb⟩;subst he;replace hm:=hm.call hb;clear hb)
    | ((with_reducible refine af (some 10) (.load 22 (.tmp 9)) ?_);go_must (refine aa (.slice q m cq) rfl (ad (.slice q m cq) (Mem.cell hm 0 rfl 2) rfl ah) ?_)))
   have HM0:Hid (Mem w [] w8 [(g3,tcs t (.slice q m cq),24)]):=hm
   clear hmi hmi2
   go_loopw [5] (fun vi wr=>∃i:Nat,vi=.int .i64 (i:Int)∧i≤m∧Hid (∀j x,j<i→t.l[j]?=some x→Syn (· ∈ K) x)∧Hid (Mem w [] wr [(g3,tcs t (.slice q m cq),24)])) (fun vi _=>m - (intOf vi).toNat)
   case atStart=>exact ⟨0,rfl,Nat.zero_le _,fun j x hj=>absurd hj (by omega),hm⟩
   case round =>
    clear hm HM0
    obtain ⟨i,rfl,him,HA,HMM⟩:=hrel
    have hm:=HMM.out
    by_cases hlt:i<m
    ·have hki:(i:Int)<(m:Int):=by omega
     obtain ⟨b,o,rfl⟩:=HS.out.at (show 0<m by omega)
     obtain ⟨x,hx⟩:=aX (HM.out ()) hlt
     obtain ⟨px,mx,cx,a0,a1,a2,hmx,hsx⟩:=(HS.out.below hm.below).cells hx
     have HX:Hid (SlT G wr (.slice px mx cx) x.l):=hsx
     have HGX:Hid (t.l[i]?=some x):=hx
     have HMX:Hid (x∈t.l):=List.mem_of_getElem? hx
     have HBW:Hid (Below wr.heap.size wr wr):=Below.refl _ _
     have HKW:Hid (SlT F wr (.slice p n c) K):=HKL.out.below hm.below
     have HB:∀b:Bool,(b=true↔Syn (· ∈ K) x)→Hid (∀W,Below wr.heap.size wr W→Calls Tryz.prog 30 #[.slice p n c,.agg (tcs x (.slice px mx cx)).toArray] W fun e w'=>e=.returned (.bool b)∧Below W.heap.size W w'):=fun b hb W hW=>by
      have hox:=HKO.out x HMX.out
      exact HIH.out x HMX.out _ W b hb (by rw [bg (aS hox)];unfold kn;split<;>(try split)<;>omega) (fun y hy=>aM hox hy) (HKW.out.below hW) (HX.out.below hW)
     clear hx hsx hmx HMM
     by_cases hsy:Syn (· ∈ K) x
     ·have HC:=HB true ⟨fun _=>hsy,fun _=>rfl⟩
      have HA2:Hid (∀j x,j<i+1→t.l[j]?=some x→Syn (· ∈ K) x):=fun j y hj hy=>by
       by_cases h:j=i
       ·subst h;rw [HGX.out] at hy;rw [←Option.some.inj hy];exact hsy
       ·exact HA.out j y (by omega) hy
      clear HB hsy HA
      go_wp2_with (first
       | ((with_reducible refine af (some 15) (.load 22 (.tmp 14)) ?_);go_must (refine aa (.slice (some ⟨b,o,none⟩) m cq) rfl (ad (.slice (some ⟨b,o,none⟩) m cq) (Mem.cell hm 0 rfl 2) rfl ah) ?_))
       | ((with_reducible refine af (some 22) (.load 22 (.tmp 21)) ?_);go_must (refine aa (.slice (some ⟨b,o,none⟩) m cq) rfl (ad (.slice (some ⟨b,o,none⟩) m cq) (Mem.cell hm 0 rfl 2) rfl ah) ?_))
       | ((with_reducible refine af (some 24) (.indexAddr 22 (.tmp 22) (.tmp 23)) ?_);go_must (refine aa (.pointer (some ⟨b,o+i * 3,none⟩)) rfl (ak i rfl rfl rfl hlt) ?_))
       | ((with_reducible refine af (some 25) (.load 24 (.tmp 24)) ?_);go_must (refine aa (.agg (tcs x (.slice px mx cx)).toArray) rfl (am rfl a0 a1 a2) ?_))
       | (go_at_call 30;go_must (refine (HC.out _ HBW.out).mono ?_);rintro e w26 ⟨he,hb⟩;subst he;replace hm:=hm.call hb;clear hb))
      go_roundw
      case rel=>exact ⟨i+1,by go_num,by omega,HA2.out,hm⟩
      case measure=>simp [intOf];omega
     ·have HC:=HB false ⟨(fun h=>by cases h),fun h=>absurd h hsy⟩
      have HRF:Hid (r=false):=by
       show r=false
       cases hh:r with
       | false=>rfl
       | true =>
        rcases (HR.out.1 hh).cs with h1|⟨_,h1⟩
        ·exact absurd h1 HNM.out
        ·exact absurd (h1 x HMX.out) hsy
      clear HB hsy HA
      go_wp2_with (first
       | ((with_reducible refine af (some 15) (.load 22 (.tmp 14)) ?_);go_must (refine aa (.slice (some ⟨b,o,none⟩) m cq) rfl (ad (.slice (some ⟨b,o,none⟩) m cq) (Mem.cell hm 0 rfl 2) rfl ah) ?_))
       | ((with_reducible refine af (some 22) (.load 22 (.tmp 21)) ?_);go_must (refine aa (.slice (some ⟨b,o,none⟩) m cq) rfl (ad (.slice (some ⟨b,o,none⟩) m cq) (Mem.cell hm 0 rfl 2) rfl ah) ?_))
       | ((with_reducible refine af (some 24) (.indexAddr 22 (.tmp 22) (.tmp 23)) ?_);go_must (refine aa (.pointer (some ⟨b,o+i * 3,none⟩)) rfl (ak i rfl rfl rfl hlt) ?_))
       | ((with_reducible refine af (some 25) (.load 24 (.tmp 24)) ?_);go_must (refine aa (.agg (tcs x (.slice px mx cx)).toArray) rfl (am rfl a0 a1 a2) ?_))
       | (go_at_call 30;go_must (refine (HC.out _ HBW.out).mono ?_);rintro e w26 ⟨he,hb⟩;subst he;replace hm:=hm.call hb;clear hb))
      go_ret
      exact ⟨by rw [HRF.out];rfl,hm.below⟩
    ·obtain rfl:i=m:=by omega
     have hki:¬(i:Int)<(i:Int):=by omega
     have HRT:Hid (r=true):=HR.out.2 (.made (fun h=>hm0 (by rw [HM.out (),h];rfl)) fun x hx=>by
      obtain ⟨j,hj,he⟩:=List.getElem_of_mem hx
      exact HA.out j x (by rw [HM.out ()];exact hj) (by rw [List.getElem?_eq_getElem hj,he]))
     clear HMM HA hm0
     go_wp2_with (first
      | ((with_reducible refine af (some 15) (.load 22 (.tmp 14)) ?_);go_must (refine aa (.slice q i cq) rfl (ad (.slice q i cq) (Mem.cell hm 0 rfl 2) rfl ah) ?_)))
     go_ret
     exact ⟨by rw [HRT.out];rfl,hm.below⟩
open Go Go.RowKit Classical
def chN:Tm:=mkT 1 3 []
def chS (i:Nat):Tm:=mkT 3 0 [chT i,chN]
def chB (f q:Nat):List Tm:=[chT f,chS q]
def chL (m:Nat):List Tm:=(List.range (m+1)).map chT
open Go Go.RowKit Classical
def bitK (z:Int) (i:Nat):Bool:=bits BinOp.and IntKind.u8 (z / 2 ^ i) 1==1
def slSel (p:Nat→Bool):Nat→List Tm
 | 0=>[]
 | j+1=>if p j then slSel p j++[slK j] else slSel p j
def slAll (p:Nat→Bool):Nat→Bool
 | 0=>true
 | j+1=>slAll p j&&p j
def slKs (j:Nat):List Tm:=(List.range j).map slK
theorem Below.updN {B g:Nat} {w w1 w2:World} (hb:Below B w w1) (hu:Upd g w1 w2) (hg:B≤g) (hs:B≤w1.heap.size):Below B w w2 :=
 ⟨hu.os.trans hb.os,hu.tape.trans hb.tape,hu.output.trans hb.output,Nat.le_trans hb.size hu.size,fun k hk=>(hu.block k (by omega) (by omega)).trans (hb.block k hk)⟩
def FG (g:Nat) (w:World) (v:Value):Nat→Prop:=fun b=>FO w v b∧b≠g
theorem a6 {v:Value}:∀r∈([]:List (Nat×List Value×TypeId)),some r.1≠v.ownBlock:=fun _ h=>by cases h
theorem bx {v:Value} {r:Nat×List Value×TypeId} {rows:List (Nat×List Value×TypeId)} (h:some r.1≠v.ownBlock) (h2:∀r∈rows,some r.1≠v.ownBlock):∀q∈r::rows,some q.1≠v.ownBlock:=fun q hq=>by
 rcases List.mem_cons.1 hq with rfl|hq
 ·exact h
 ·exact h2 q hq
theorem Below.grownN {B:Nat} {w w1 w2:World} {x:Option Nat} (hb:Below B w w1) (hg:w1.grownBy w2 x) (hx:∀b,x=some b→B≤b) (hs:B≤w1.heap.size):Below B w w2 :=
 ⟨hg.os.trans hb.os,hg.tape.trans hb.tape,hg.output.trans hb.output,Nat.le_trans hb.size hg.size,fun k hk=>(hg.block k (by omega) (fun he=>by have:=hx k he.symm;omega)).trans (hb.block k hk)⟩
open Go Go.RowKit Classical
theorem min_eq {bl:List Tm} {gt:Tm} (h:Kn bl gt):minT bl gt=(leastR (fun K=>Der K gt) (fun _=>False) (bl.filter isT).reverse).reverse:=by
 unfold minT
 rw [if_pos h]
 rfl
theorem min_sub {bl:List Tm} {gt t:Tm} (ht:t∈minT bl gt):t∈bl∧isT t=true:=by
 by_cases h:Kn bl gt
 ·rw [min_eq h,List.mem_reverse] at ht
  have h1:=leastR_sub _ _ t ht
  rw [List.mem_reverse] at h1
  exact List.mem_filter.1 h1
 ·unfold minT at ht
  rw [if_neg h] at ht
  cases ht
theorem min_len (bl:List Tm) (gt:Tm):(minT bl gt).length≤bl.length:=by
 unfold minT
 split
 ·exact Nat.le_trans (cD _ _ _) (List.length_filter_le _ _)
 ·exact Nat.zero_le _
theorem few_le {l:List Tm} {gt:Tm} (h:Few l) (hg:cnt gt≤20):cnt gt+(l.map cnt).sum≤380:=by
 have h1:=few_sum h.2
 have h2:=Nat.mul_le_mul_right 20 h.1
 omega
theorem eO {l l2:List Tm} (h:Few l) (hs:∀t∈l2,t∈l) (hl:l2.length≤10):Few l2:=⟨hl,fun t ht=>h.2 t (hs t ht)⟩
theorem few_one {t:Tm}:Few [t]↔cnt t≤20:=⟨fun h=>h.2 t (List.mem_cons_self ..),fun h=>⟨by simp,fun x hx=>by rw [List.mem_singleton.1 hx];exact h⟩⟩
open Go Go.RowKit Classical
def turnL (l:List Tm) (k:Nat):List Tm:=l.drop k++l.take k
theorem all_len {l d:List Tm} (h:AllIs l d):d.length≤(webWs (l.filter isT) []).length :=
 dM d _ (List.Pairwise.imp (fun {a b} hlt he=>by rw [he] at hlt;exact List.lt_irrefl _ hlt) h.2) fun t ht=>((h.1 t).1 ht).1
theorem few_web {l:List Tm} (h:Few l):(webWs (l.filter isT) []).length≤380:=web1_le (by
 have h1:=few_sum h.2
 have h2:=Nat.mul_le_mul_right 20 h.1
 omega)
open Go Go.RowKit Classical
structure KI (bl K:List Tm):Prop where
 nd:K.Nodup
 inT:∀x∈K,x∈webWs (bl.filter isT) []
 der:∀x∈K,Der (inB bl) x
theorem KI.nil {bl:List Tm}:KI bl []:=⟨List.nodup_nil,fun x hx=>(by cases hx),fun x hx=>(by cases hx)⟩
theorem KI.len {bl K:List Tm} (h:KI bl K) (hf:Few bl):K.length≤380:=Nat.le_trans (dM K _ h.nd h.inT) (few_web hf)
theorem KI.is9 {bl K:List Tm} (h:KI bl K) {x:Tm} (hx:x∈K):isT x=true:=d7 bl x (h.inT x hx)
theorem KI.add {bl K:List Tm} (h:KI bl K) {x:Tm} (hx:x ∉ K) (hT:x∈webWs (bl.filter isT) []) (hd:Der (inB bl) x):KI bl (K++[x]) :=
 ⟨List.nodup_append.2 ⟨h.nd,by simp,fun a ha b hb he=>hx (by rw [List.mem_singleton.1 hb] at he;exact he▸ha)⟩,
  fun y hy=>by
  rcases List.mem_append.1 hy with h1|h1
  ·exact h.inT y h1
  ·rw [List.mem_singleton.1 h1];exact hT,
  fun y hy=>by
  rcases List.mem_append.1 hy with h1|h1
  ·exact h.der y h1
  ·rw [List.mem_singleton.1 h1];exact hd⟩
def Ext (K K':List Tm):Prop:=∃s,K'=K++s
theorem Ext.refl (K:List Tm):Ext K K:=⟨[],(List.append_nil K).symm⟩
theorem Ext.trans {K K' K'':List Tm} (h:Ext K K') (h2:Ext K' K''):Ext K K'':=by
 obtain ⟨s,rfl⟩:=h
 obtain ⟨s2,rfl⟩:=h2
 exact ⟨s++s2,List.append_assoc ..⟩
theorem Ext.one (K:List Tm) (x:Tm):Ext K (K++[x]):=⟨[x],rfl⟩
theorem Ext.len {K K':List Tm} (h:Ext K K'):K.length≤K'.length:=by obtain ⟨s,rfl⟩:=h;rw [List.length_append];omega
theorem Ext.eq {K K':List Tm} (h:Ext K K') (hl:K'.length=K.length):K'=K:=by
 obtain ⟨s,rfl⟩:=h
 rw [List.length_append] at hl
 rw [List.eq_nil_of_length_eq_zero (show s.length=0 by omega),List.append_nil]
theorem Ext.sub {K K':List Tm} (h:Ext K K') {x:Tm} (hx:x∈K):x∈K':=by obtain ⟨s,rfl⟩:=h;exact List.mem_append.2 (Or.inl hx)
theorem Ext.get {K K':List Tm} (h:Ext K K') {i:Nat} (hi:i<K.length):K'[i]?=K[i]?:=by obtain ⟨s,rfl⟩:=h;exact List.getElem?_append_left hi
theorem web_kid {bl:List Tm} {x y:Tm} (hx:x∈webWs (bl.filter isT) []) (hy:y∈x.l):y∈webWs (bl.filter isT) []:=(dh bl).1.kids x hx y hy
/-- A list of which one more may be known. -/
theorem okd_of4 {K:List Tm} {x a b:Tm} (hk:x.k=4) (hl:x.l=[a,b]) (ha:a∈K) (hb:b∈K):Okd K x:=⟨fun _ y hy=>by
 rw [hl] at hy
 simp only [List.mem_cons,List.not_mem_nil,or_false] at hy
 rcases hy with rfl|rfl
 ·exact ha
 ·exact hb,(fun h=>by rw [hk] at h;cases h)⟩
theorem okd_of3 {K:List Tm} {x a b:Tm} (hk:x.k=3) (hl:x.l=[a,b]) (h:Syn (· ∈ K) a→b∈K):Okd K x:=⟨(fun h=>by rw [hk] at h;cases h),fun _ a' b' hl' hs=>by
 rw [hl] at hl'
 simp only [List.cons.injEq,and_true] at hl'
 obtain ⟨rfl,rfl⟩:=hl'
 exact h hs⟩
theorem okd_else {K:List Tm} {x:Tm} (h3:x.k≠3) (h4:x.k≠4):Okd K x:=⟨fun h=>absurd h h4,fun h=>absurd h h3⟩
end Go.Proofs.YtcibhfcjbokdlaaGreatDoor
