import Derived.Test.YtcibhfcjbokdlaaGreatDoorQt16
import Derived.ProofKit
import Derived.ChangeArms
import Derived.Deep.Slices
import Derived.Maps.AppendAt
set_option maxRecDepth 100000
set_option maxHeartbeats 4000000
namespace Go.Proofs.YtcibhfcjbokdlaaGreatDoor
open Go Go.RowKit
theorem same_k (t u:Tm) (m m2:Nat) (p1 p2:Option Addr) (c1 c2:Nat) (w:World) (hk:¬t.k=u.k) :
  Calls Tryz.prog 32 #[.agg (tcs t (.slice p1 m c1)).toArray,.agg (tcs u (.slice p2 m2 c2)).toArray] w fun e w'=>e=.returned (.bool false)∧Below w.heap.size w w':=by
 have hm:=Mem.start w
 have ek:(t.k != u.k)=true:=by rw [bne,aD _ _ hk];rfl
 clear hk
 go_enter Tryz.func32,Tryz.ntmps32
 go_wp2_with (first
  | ((with_reducible refine af (some 2) (.box 24 (.tmp 0)) ?_);go_must (refine aw (tcs t (.slice p1 m c1)) rfl hm ?_);clear hm;intro w1 g1 hm)
  | ((with_reducible refine af (some 3) (.box 24 (.tmp 1)) ?_);go_must (refine aw (tcs u (.slice p2 m2 c2)) rfl hm ?_);clear hm;intro w2 g2 hm)
  | ((with_reducible refine af (some 7) (.load 3 (.tmp 6)) ?_);go_must (refine aa (.int .i64 t.k) rfl (ad (.int .i64 t.k) (Mem.cell hm 1 rfl 0) rfl ag) ?_))
  | ((with_reducible refine af (some 9) (.load 3 (.tmp 8)) ?_);go_must (refine aa (.int .i64 u.k) rfl (ad (.int .i64 u.k) (Mem.cell hm 0 rfl 0) rfl ag) ?_))
  | ((with_reducible refine aC (some 13) (.load 3 (.tmp 12)) (some (5,false)) ?_);go_must (refine aa (.int .i64 t.n) rfl (ad (.int .i64 t.n) (Mem.cell hm 1 rfl 1) rfl ag) ?_))
  | ((with_reducible refine aC (some 15) (.load 3 (.tmp 14)) (some (5,false)) ?_);go_must (refine aa (.int .i64 u.n) rfl (ad (.int .i64 u.n) (Mem.cell hm 0 rfl 1) rfl ag) ?_))
  | ((with_reducible refine aC (some 20) (.load 22 (.tmp 19)) (some (12,false)) ?_);go_must (refine aa (.slice p1 m c1) rfl (ad (.slice p1 m c1) (Mem.cell hm 1 rfl 2) rfl ah) ?_))
  | ((with_reducible refine aC (some 23) (.load 22 (.tmp 22)) (some (12,false)) ?_);go_must (refine aa (.slice p2 m2 c2) rfl (ad (.slice p2 m2 c2) (Mem.cell hm 0 rfl 2) rfl ah) ?_)))
 go_ret
 exact ⟨rfl,hm.below⟩
theorem same_n (t u:Tm) (m m2:Nat) (p1 p2:Option Addr) (c1 c2:Nat) (w:World) (hk:t.k=u.k) (hn:¬t.n=u.n) :
  Calls Tryz.prog 32 #[.agg (tcs t (.slice p1 m c1)).toArray,.agg (tcs u (.slice p2 m2 c2)).toArray] w fun e w'=>e=.returned (.bool false)∧Below w.heap.size w w':=by
 have hm:=Mem.start w
 have ek:(t.k != u.k)=false:=by rw [hk];exact bne_self_eq_false _
 have en:(t.n != u.n)=true:=by rw [bne,aD _ _ hn];rfl
 clear hk hn
 go_enter Tryz.func32,Tryz.ntmps32
 go_wp2_with (first
  | ((with_reducible refine af (some 2) (.box 24 (.tmp 0)) ?_);go_must (refine aw (tcs t (.slice p1 m c1)) rfl hm ?_);clear hm;intro w1 g1 hm)
  | ((with_reducible refine af (some 3) (.box 24 (.tmp 1)) ?_);go_must (refine aw (tcs u (.slice p2 m2 c2)) rfl hm ?_);clear hm;intro w2 g2 hm)
  | ((with_reducible refine af (some 7) (.load 3 (.tmp 6)) ?_);go_must (refine aa (.int .i64 t.k) rfl (ad (.int .i64 t.k) (Mem.cell hm 1 rfl 0) rfl ag) ?_))
  | ((with_reducible refine af (some 9) (.load 3 (.tmp 8)) ?_);go_must (refine aa (.int .i64 u.k) rfl (ad (.int .i64 u.k) (Mem.cell hm 0 rfl 0) rfl ag) ?_))
  | ((with_reducible refine aC (some 13) (.load 3 (.tmp 12)) (some (5,false)) ?_);go_must (refine aa (.int .i64 t.n) rfl (ad (.int .i64 t.n) (Mem.cell hm 1 rfl 1) rfl ag) ?_))
  | ((with_reducible refine aC (some 15) (.load 3 (.tmp 14)) (some (5,false)) ?_);go_must (refine aa (.int .i64 u.n) rfl (ad (.int .i64 u.n) (Mem.cell hm 0 rfl 1) rfl ag) ?_))
  | ((with_reducible refine aC (some 20) (.load 22 (.tmp 19)) (some (12,false)) ?_);go_must (refine aa (.slice p1 m c1) rfl (ad (.slice p1 m c1) (Mem.cell hm 1 rfl 2) rfl ah) ?_))
  | ((with_reducible refine aC (some 23) (.load 22 (.tmp 22)) (some (12,false)) ?_);go_must (refine aa (.slice p2 m2 c2) rfl (ad (.slice p2 m2 c2) (Mem.cell hm 0 rfl 2) rfl ah) ?_)))
 go_ret
 exact ⟨rfl,hm.below⟩
theorem same_l (t u:Tm) (m m2:Nat) (p1 p2:Option Addr) (c1 c2:Nat) (w:World) (hk:t.k=u.k) (hn:t.n=u.n) (hl:¬m=m2) :
  Calls Tryz.prog 32 #[.agg (tcs t (.slice p1 m c1)).toArray,.agg (tcs u (.slice p2 m2 c2)).toArray] w fun e w'=>e=.returned (.bool false)∧Below w.heap.size w w':=by
 have hm:=Mem.start w
 have ek:(t.k != u.k)=false:=by rw [hk];exact bne_self_eq_false _
 have en:(t.n != u.n)=false:=by rw [hn];exact bne_self_eq_false _
 have el:((m:Int) != (m2:Int))=true:=by rw [bne,aD _ _ (by omega)];rfl
 clear hk hn hl
 go_enter Tryz.func32,Tryz.ntmps32
 go_wp2_with (first
  | ((with_reducible refine af (some 2) (.box 24 (.tmp 0)) ?_);go_must (refine aw (tcs t (.slice p1 m c1)) rfl hm ?_);clear hm;intro w1 g1 hm)
  | ((with_reducible refine af (some 3) (.box 24 (.tmp 1)) ?_);go_must (refine aw (tcs u (.slice p2 m2 c2)) rfl hm ?_);clear hm;intro w2 g2 hm)
  | ((with_reducible refine af (some 7) (.load 3 (.tmp 6)) ?_);go_must (refine aa (.int .i64 t.k) rfl (ad (.int .i64 t.k) (Mem.cell hm 1 rfl 0) rfl ag) ?_))
  | ((with_reducible refine af (some 9) (.load 3 (.tmp 8)) ?_);go_must (refine aa (.int .i64 u.k) rfl (ad (.int .i64 u.k) (Mem.cell hm 0 rfl 0) rfl ag) ?_))
  | ((with_reducible refine aC (some 13) (.load 3 (.tmp 12)) (some (5,false)) ?_);go_must (refine aa (.int .i64 t.n) rfl (ad (.int .i64 t.n) (Mem.cell hm 1 rfl 1) rfl ag) ?_))
  | ((with_reducible refine aC (some 15) (.load 3 (.tmp 14)) (some (5,false)) ?_);go_must (refine aa (.int .i64 u.n) rfl (ad (.int .i64 u.n) (Mem.cell hm 0 rfl 1) rfl ag) ?_))
  | ((with_reducible refine aC (some 20) (.load 22 (.tmp 19)) (some (12,false)) ?_);go_must (refine aa (.slice p1 m c1) rfl (ad (.slice p1 m c1) (Mem.cell hm 1 rfl 2) rfl ah) ?_))
  | ((with_reducible refine aC (some 23) (.load 22 (.tmp 22)) (some (12,false)) ?_);go_must (refine aa (.slice p2 m2 c2) rfl (ad (.slice p2 m2 c2) (Mem.cell hm 0 rfl 2) rfl ah) ?_)))
 go_ret
 exact ⟨rfl,hm.below⟩
theorem same_loop (t u:Tm) (r:Bool) (m:Nat) (p1 p2:Option Addr) (c1 c2:Nat) (w:World) (hm1:m=t.l.length) (hm2:m=u.l.length) (hmm:m≤100000) (hk:t.k=u.k) (hn:t.n=u.n) (hr:r=true↔t=u) {F G:Nat→Prop} (hs:SlT F w (.slice p1 m c1) t.l) (hv:SlT G w (.slice p2 m c2) u.l)
  (HIH:∀x∈t.l,∀(y:Tm) (s v:Value) (r:Bool) (w:World),SlT F w s x.l→SlT G w v y.l→(r=true↔x=y)→Calls Tryz.prog 32 #[.agg (tcs x s).toArray,.agg (tcs y v).toArray] w fun e w'=>e=.returned (.bool r)∧Below w.heap.size w w') :
  Calls Tryz.prog 32 #[.agg (tcs t (.slice p1 m c1)).toArray,.agg (tcs u (.slice p2 m c2)).toArray] w fun e w'=>e=.returned (.bool r)∧Below w.heap.size w w':=by
 have hm:=Mem.start w
 have ek:(t.k != u.k)=false:=by rw [hk];exact bne_self_eq_false _
 have en:(t.n != u.n)=false:=by rw [hn];exact bne_self_eq_false _
 have el:((m:Int) != (m:Int))=false:=bne_self_eq_false _
 have HI:Hid _:=HIH
 have HRR:Hid (r=true↔t=u):=hr
 have HS:Hid (SlT F w (.slice p1 m c1) t.l):=hs
 have HV:Hid (SlT G w (.slice p2 m c2) u.l):=hv
 have HM1:Hid (∀_:Unit,m=t.l.length):=fun _=>hm1
 have HM2:Hid (∀_:Unit,m=u.l.length):=fun _=>hm2
 have HTU:Hid (∀_:Unit,t.l=u.l→t=u):=fun _ h=>Tm.eq_of hk hn h
 clear HIH hr hs hv hm1 hm2 hk hn
 go_enter Tryz.func32,Tryz.ntmps32
 go_wp2_with (first
  | ((with_reducible refine af (some 2) (.box 24 (.tmp 0)) ?_);go_must (refine aw (tcs t (.slice p1 m c1)) rfl hm ?_);clear hm;intro w1 g1 hm)
  | ((with_reducible refine af (some 3) (.box 24 (.tmp 1)) ?_);go_must (refine aw (tcs u (.slice p2 m c2)) rfl hm ?_);clear hm;intro w2 g2 hm)
  | ((with_reducible refine af (some 7) (.load 3 (.tmp 6)) ?_);go_must (refine aa (.int .i64 t.k) rfl (ad (.int .i64 t.k) (Mem.cell hm 1 rfl 0) rfl ag) ?_))
  | ((with_reducible refine af (some 9) (.load 3 (.tmp 8)) ?_);go_must (refine aa (.int .i64 u.k) rfl (ad (.int .i64 u.k) (Mem.cell hm 0 rfl 0) rfl ag) ?_))
  | ((with_reducible refine aC (some 13) (.load 3 (.tmp 12)) (some (5,false)) ?_);go_must (refine aa (.int .i64 t.n) rfl (ad (.int .i64 t.n) (Mem.cell hm 1 rfl 1) rfl ag) ?_))
  | ((with_reducible refine aC (some 15) (.load 3 (.tmp 14)) (some (5,false)) ?_);go_must (refine aa (.int .i64 u.n) rfl (ad (.int .i64 u.n) (Mem.cell hm 0 rfl 1) rfl ag) ?_))
  | ((with_reducible refine aC (some 20) (.load 22 (.tmp 19)) (some (12,false)) ?_);go_must (refine aa (.slice p1 m c1) rfl (ad (.slice p1 m c1) (Mem.cell hm 1 rfl 2) rfl ah) ?_))
  | ((with_reducible refine aC (some 23) (.load 22 (.tmp 22)) (some (12,false)) ?_);go_must (refine aa (.slice p2 m c2) rfl (ad (.slice p2 m c2) (Mem.cell hm 0 rfl 2) rfl ah) ?_)))
 have HMM0:Hid (Mem w [] w2 [(g2,tcs u (.slice p2 m c2),24),(g1,tcs t (.slice p1 m c1),24)]):=hm
 go_loopw [5] (fun vk wr=>∃k:Nat,vk=.int .i64 (k:Int)∧k≤m∧Hid (Mem w [] wr [(g2,tcs u (.slice p2 m c2),24),(g1,tcs t (.slice p1 m c1),24)])∧Hid (∀j,j<k→t.l[j]?=u.l[j]?)) (fun vk _=>m - (intOf vk).toNat)
 case atStart=>exact ⟨0,rfl,Nat.zero_le _,hm,fun j hj=>absurd hj (by omega)⟩
 case round =>
  clear hm HMM0
  obtain ⟨k,rfl,hkm,HMM,HEQ⟩:=hrel
  by_cases hlt:k<m
  ·obtain ⟨x,hx⟩:∃x,t.l[k]?=some x:=⟨_,List.getElem?_eq_getElem (by rw [←HM1.out ()];exact hlt)⟩
   obtain ⟨y,hy⟩:∃y,u.l[k]?=some y:=⟨_,List.getElem?_eq_getElem (by rw [←HM2.out ()];exact hlt)⟩
   obtain ⟨b1,o1,hp1⟩:=HS.out.at (by omega)
   obtain ⟨b2,o2,hp2⟩:=HV.out.at (by omega)
   subst hp1 hp2
   obtain ⟨px,mx,cx,a0,a1,a2,hmx,hsx⟩:=HS.out.cells hx
   obtain ⟨py,my,cy,d0,d1,d2,hmy,hsy⟩:=HV.out.cells hy
   have HA:Hid (∀W,Below w.heap.size w W→W.cell? ⟨b1,o1+k * 3,none⟩=some (.int .i64 x.k)∧W.cell? ⟨b1,o1+k * 3+1,none⟩=some (.int .i64 x.n)∧W.cell? ⟨b1,o1+k * 3+2,none⟩=some (.slice px mx cx)):=fun W hW=>⟨(hW.cell (p:=⟨b1,_,none⟩) (block_lt_of_cell a0)).trans a0,(hW.cell (p:=⟨b1,_,none⟩) (block_lt_of_cell a1)).trans a1,(hW.cell (p:=⟨b1,_,none⟩) (block_lt_of_cell a2)).trans a2⟩
   have HB:Hid (∀W,Below w.heap.size w W→W.cell? ⟨b2,o2+k * 3,none⟩=some (.int .i64 y.k)∧W.cell? ⟨b2,o2+k * 3+1,none⟩=some (.int .i64 y.n)∧W.cell? ⟨b2,o2+k * 3+2,none⟩=some (.slice py my cy)):=fun W hW=>⟨(hW.cell (p:=⟨b2,_,none⟩) (block_lt_of_cell d0)).trans d0,(hW.cell (p:=⟨b2,_,none⟩) (block_lt_of_cell d1)).trans d1,(hW.cell (p:=⟨b2,_,none⟩) (block_lt_of_cell d2)).trans d2⟩
   have HSX:Hid (SlT F w (.slice px mx cx) x.l):=hsx
   have HSY:Hid (SlT G w (.slice py my cy) y.l):=hsy
   have HMX:Hid (x∈t.l):=List.mem_of_getElem? hx
   have HX:Hid (t.l[k]?=some x∧u.l[k]?=some y):=⟨hx,hy⟩
   have HLT:Hid (k<m):=hlt
   have hki:(k:Int)<(m:Int):=by omega
   have hkb:k≤100000:=by omega
   have hm:=HMM.out
   clear hx hy a0 a1 a2 d0 d1 d2 hmx hmy hsx hsy HMM
   by_cases hxy:x=y
   ·have HCALL:Hid (∀W,Below w.heap.size w W→Calls Tryz.prog 32 #[.agg (tcs x (.slice px mx cx)).toArray,.agg (tcs y (.slice py my cy)).toArray] W fun e w'=>e=.returned (.bool true)∧Below W.heap.size W w'):=fun W hW=>HI.out x HMX.out y _ _ true W (HSX.out.below hW) (HSY.out.below hW) (by simp [hxy])
    have HEQ2:Hid (∀j,j<k+1→t.l[j]?=u.l[j]?):=fun j hj=>by
     by_cases h:j=k
     ·subst h;rw [HX.out.1,HX.out.2,hxy]
     ·exact HEQ.out j (by omega)
    clear hxy
    go_wp2_with (first
     | ((with_reducible refine af (some 29) (.load 22 (.tmp 28)) ?_);go_must (refine aa (.slice (some ⟨b1,o1,none⟩) m c1) rfl (ad (.slice (some ⟨b1,o1,none⟩) m c1) (Mem.cell hm 1 rfl 2) rfl ah) ?_)))
    refine aq ?_
    refine ao (T:=fun W=>Mem w [] W [(g2,tcs u (.slice (some ⟨b2,o2,none⟩) m c2),24),(g1,tcs t (.slice (some ⟨b1,o1,none⟩) m c1),24)]) (by kernel_rfl) hm ?_
    intro wc hbw hmw
    replace hm:Mem w [] wc [(g2,tcs u (.slice (some ⟨b2,o2,none⟩) m c2),24),(g1,tcs t (.slice (some ⟨b1,o1,none⟩) m c1),24)]:=hmw
    clear hbw hmw
    refine aT 0 (v:=.pointer (some ⟨g1,2,none⟩)) rfl (by kernel_rfl) rfl (fun W _=>by go_simp) hm ?_
    go_simp
    refine aT 1 (v:=.slice (some ⟨b1,o1,none⟩) m c1) rfl (by kernel_rfl) rfl (fun W hW=>ad (.slice (some ⟨b1,o1,none⟩) m c1) (Mem.cell hW 1 rfl 2) rfl ah) hm ?_
    go_simp
    refine aT 2 (v:=.int .i64 (k:Int)) rfl (by kernel_rfl) rfl (fun W _=>by go_simp) hm ?_
    go_simp
    refine aT 3 (v:=.pointer (some ⟨b1,o1+k * 3,none⟩)) rfl (by kernel_rfl) rfl (fun W _=>ak k rfl rfl rfl HLT.out) hm ?_
    go_simp
    refine aT 4 (v:=.agg (tcs x (.slice px mx cx)).toArray) rfl (by kernel_rfl) rfl (fun W hW=>am rfl (HA.out W hW.below).1 (HA.out W hW.below).2.1 (HA.out W hW.below).2.2) hm ?_
    go_simp
    refine aT 5 (v:=.pointer (some ⟨g2,2,none⟩)) rfl (by kernel_rfl) rfl (fun W _=>by go_simp) hm ?_
    go_simp
    refine aT 6 (v:=.slice (some ⟨b2,o2,none⟩) m c2) rfl (by kernel_rfl) rfl (fun W hW=>ad (.slice (some ⟨b2,o2,none⟩) m c2) (Mem.cell hW 0 rfl 2) rfl ah) hm ?_
    go_simp
    refine aT 7 (v:=.int .i64 (k:Int)) rfl (by kernel_rfl) rfl (fun W _=>by go_simp) hm ?_
    go_simp
    refine aT 8 (v:=.pointer (some ⟨b2,o2+k * 3,none⟩)) rfl (by kernel_rfl) rfl (fun W _=>ak k rfl rfl rfl HLT.out) hm ?_
    go_simp
    refine aT 9 (v:=.agg (tcs y (.slice py my cy)).toArray) rfl (by kernel_rfl) rfl (fun W hW=>am rfl (HB.out W hW.below).1 (HB.out W hW.below).2.1 (HB.out W hW.below).2.2) hm ?_
    go_simp
    refine aO 10 (by kernel_rfl) rfl rfl ?_
    intro K hK
    go_wp2_with (go_at_call 32;refine (HCALL.out _ hm.below).mono ?_;rintro e w' ⟨he,hb⟩;subst he;replace hm:=hm.call hb;clear hb)
    refine hK _ _ hm ?_
    clear hK K
    go_simp
    refine aT 11 (v:=.bool false) rfl (by kernel_rfl) rfl (fun W _=>by go_simp) hm ?_
    go_simp
    refine wpAnyH_done (by kernel_rfl) ?_ _
    simp only [endsIn]
    go_wp2_with fail
    go_roundw
    case rel=>exact ⟨k+1,by go_num,by omega,hm,HEQ2.out⟩
    case measure=>simp [intOf];omega
   ·have HCALL:Hid (∀W,Below w.heap.size w W→Calls Tryz.prog 32 #[.agg (tcs x (.slice px mx cx)).toArray,.agg (tcs y (.slice py my cy)).toArray] W fun e w'=>e=.returned (.bool false)∧Below W.heap.size W w'):=fun W hW=>HI.out x HMX.out y _ _ false W (HSX.out.below hW) (HSY.out.below hW) (by simp [hxy])
    have HRF:Hid (r=false):=by
     show r=false
     cases r with
     | false=>rfl
     | true =>
      have:=HRR.out.1 rfl
      subst this
      have h1:=HX.out.1.symm.trans HX.out.2
      simp only [Option.some.injEq] at h1
      exact absurd h1 hxy
    clear hxy
    go_wp2_with (first
     | ((with_reducible refine af (some 29) (.load 22 (.tmp 28)) ?_);go_must (refine aa (.slice (some ⟨b1,o1,none⟩) m c1) rfl (ad (.slice (some ⟨b1,o1,none⟩) m c1) (Mem.cell hm 1 rfl 2) rfl ah) ?_)))
    refine aq ?_
    refine ao (T:=fun W=>Mem w [] W [(g2,tcs u (.slice (some ⟨b2,o2,none⟩) m c2),24),(g1,tcs t (.slice (some ⟨b1,o1,none⟩) m c1),24)]) (by kernel_rfl) hm ?_
    intro wc hbw hmw
    replace hm:Mem w [] wc [(g2,tcs u (.slice (some ⟨b2,o2,none⟩) m c2),24),(g1,tcs t (.slice (some ⟨b1,o1,none⟩) m c1),24)]:=hmw
    clear hbw hmw
    refine aT 0 (v:=.pointer (some ⟨g1,2,none⟩)) rfl (by kernel_rfl) rfl (fun W _=>by go_simp) hm ?_
    go_simp
    refine aT 1 (v:=.slice (some ⟨b1,o1,none⟩) m c1) rfl (by kernel_rfl) rfl (fun W hW=>ad (.slice (some ⟨b1,o1,none⟩) m c1) (Mem.cell hW 1 rfl 2) rfl ah) hm ?_
    go_simp
    refine aT 2 (v:=.int .i64 (k:Int)) rfl (by kernel_rfl) rfl (fun W _=>by go_simp) hm ?_
    go_simp
    refine aT 3 (v:=.pointer (some ⟨b1,o1+k * 3,none⟩)) rfl (by kernel_rfl) rfl (fun W _=>ak k rfl rfl rfl HLT.out) hm ?_
    go_simp
    refine aT 4 (v:=.agg (tcs x (.slice px mx cx)).toArray) rfl (by kernel_rfl) rfl (fun W hW=>am rfl (HA.out W hW.below).1 (HA.out W hW.below).2.1 (HA.out W hW.below).2.2) hm ?_
    go_simp
    refine aT 5 (v:=.pointer (some ⟨g2,2,none⟩)) rfl (by kernel_rfl) rfl (fun W _=>by go_simp) hm ?_
    go_simp
    refine aT 6 (v:=.slice (some ⟨b2,o2,none⟩) m c2) rfl (by kernel_rfl) rfl (fun W hW=>ad (.slice (some ⟨b2,o2,none⟩) m c2) (Mem.cell hW 0 rfl 2) rfl ah) hm ?_
    go_simp
    refine aT 7 (v:=.int .i64 (k:Int)) rfl (by kernel_rfl) rfl (fun W _=>by go_simp) hm ?_
    go_simp
    refine aT 8 (v:=.pointer (some ⟨b2,o2+k * 3,none⟩)) rfl (by kernel_rfl) rfl (fun W _=>ak k rfl rfl rfl HLT.out) hm ?_
    go_simp
    refine aT 9 (v:=.agg (tcs y (.slice py my cy)).toArray) rfl (by kernel_rfl) rfl (fun W hW=>am rfl (HB.out W hW.below).1 (HB.out W hW.below).2.1 (HB.out W hW.below).2.2) hm ?_
    go_simp
    refine aO 10 (by kernel_rfl) rfl rfl ?_
    intro K hK
    go_wp2_with (go_at_call 32;refine (HCALL.out _ hm.below).mono ?_;rintro e w' ⟨he,hb⟩;subst he;replace hm:=hm.call hb;clear hb)
    refine hK _ _ hm ?_
    clear hK K
    go_simp
    refine aT 11 (v:=.bool true) rfl (by kernel_rfl) rfl (fun W _=>by go_simp) hm ?_
    go_simp
    refine wpAnyH_done (by kernel_rfl) ?_ _
    simp only [endsIn]
    go_wp2_with fail
    go_ret
    exact ⟨(by rw [HRF.out];rfl),hm.below⟩
  ·have hkn:k=m:=by omega
   subst hkn
   have hki:¬(k:Int)<(k:Int):=by omega
   have hm:=HMM.out
   have HRT:Hid (r=true):=by
    show r=true
    refine HRR.out.2 (HTU.out () (List.ext_getElem? fun j=>?_))
    by_cases h:j<k
    ·exact HEQ.out j h
    ·rw [List.getElem?_eq_none (by rw [←HM1.out ()];omega),List.getElem?_eq_none (by rw [←HM2.out ()];omega)]
   clear HMM
   go_wp2_with (first
    | ((with_reducible refine af (some 29) (.load 22 (.tmp 28)) ?_);go_must (refine aa (.slice p1 k c1) rfl (ad (.slice p1 k c1) (Mem.cell hm 1 rfl 2) rfl ah) ?_)))
   go_ret
   exact ⟨(by rw [HRT.out];rfl),hm.below⟩
theorem len_lt_cnt (t:Tm):t.l.length<cnt t:=by
 rw [bQ]
 have:∀l:List Tm,l.length≤(l.map cnt).sum:=by
  intro l
  induction l with
  | nil=>exact Nat.le_refl _
  | cons x l ih=>have:=eH x;simp only [List.map_cons,List.sum_cons,List.length_cons];omega
 have:=this t.l
 omega
theorem fj {F G:Nat→Prop} (t:Tm):cnt t≤100000→∀(u:Tm) (s v:Value) (r:Bool) (w:World),SlT F w s t.l→SlT G w v u.l→(r=true↔t=u) →
  Calls Tryz.prog 32 #[.agg (tcs t s).toArray,.agg (tcs u v).toArray] w fun e w'=>e=.returned (.bool r)∧Below w.heap.size w w':=by
 induction t using Tm.ind with
 | h t ih =>
 intro hc u s v r w hs hv hr
 obtain ⟨p1,c1,rfl,_⟩:=hs.len
 obtain ⟨p2,c2,rfl,_⟩:=hv.len
 have hno:t≠u→r=false:=fun h=>by
  cases r with
  | false=>rfl
  | true=>exact absurd (hr.1 rfl) h
 by_cases hk:t.k=u.k
 ·by_cases hn:t.n=u.n
  ·by_cases hl:t.l.length=u.l.length
   ·rw [←hl] at hv ⊢
    exact same_loop t u r _ p1 p2 c1 c2 w rfl hl (by have:=len_lt_cnt t;omega) hk hn hr hs hv (fun x hx=>ih x hx (by have:=bE hx;omega))
   ·rw [hno (fun h=>hl (by rw [h]))]
    exact same_l t u _ _ p1 p2 c1 c2 w hk hn hl
  ·rw [hno (fun h=>hn (by rw [h]))]
   exact same_n t u _ _ p1 p2 c1 c2 w hk hn
 ·rw [hno (fun h=>hk (by rw [h]))]
  exact same_k t u _ _ p1 p2 c1 c2 w hk
open Go Go.RowKit
theorem dG:Tryz.prog.cellsOf 24=3:=by kernel_rfl
theorem fk:Tryz.prog.cellsOf 3=1:=by kernel_rfl
theorem cells_terms:Tryz.prog.cellsOf 22=1:=by kernel_rfl
/-- As many elements as are read, one after another. -/
theorem open_run {W:World} {b o len:Nat} (h:∀i,i<len→∃(t:Tm) (s:Value),(∀j u,(tcs t s)[j]?=some u→W.cell? ⟨b,o+i * 3+j,none⟩=some u)∧SlT (fun _=>True) W s t.l):∀m,m≤len→∃(l:List Tm) (cs:List Value),l.length=m∧TC (fun _=>True) W l cs∧∀j u,cs[j]?=some u→W.cell? ⟨b,o+j,none⟩=some u:=by
 intro m
 induction m with
 | zero=>intro _;exact ⟨[],[],rfl,rfl,fun j u hu=>by simp at hu⟩
 | succ m ih =>
  intro hm
  obtain ⟨l,cs,hl,htc,hc⟩:=ih (by omega)
  obtain ⟨t,s,h1,h2⟩:=h m (by omega)
  refine ⟨l++[t],cs++tcs t s,by simp [hl],htc.snoc ((bH t s).2 h2),fun j u hu=>?_⟩
  have hlen:=htc.len
  by_cases hj:j<cs.length
  ·rw [List.getElem?_append_left hj] at hu
   exact hc j u hu
  ·rw [List.getElem?_append_right (by omega)] at hu
   have h3:=h1 (j - cs.length) u hu
   rw [show o+m * 3+(j - cs.length)=o+j by rw [hlen,hl];rw [hlen,hl] at hj;omega] at h3
   exact h3
theorem addT (b o i:Nat):(⟨b,o,none⟩:Addr).add i=⟨b,o+i,none⟩:=by
 unfold Addr.add
 by_cases h:i=0
 ·subst h;rfl
 ·simp [h]
theorem fh {H:Type} {enc:TypeId×Value→H} {W:World}:∀(fuel:Nat) (cs:List Value) (x:DataW H×List MemPlace),DataW.trod enc Tryz.prog W 0 (fun _=>true) true fuel 24 cs=some x→∃(t:Tm) (s:Value),cs=tcs t s∧SlT (fun _=>True) W s t.l:=by
 intro fuel
 induction fuel using Nat.strongRecOn with
 | ind fuel ih =>
 intro cs x hf
 have hu:Tryz.prog.underlying 24=some (.struct (Tryz.prog.fieldsOf 24)):=by kernel_rfl
 have h0:((Tryz.prog.fieldsOf 24)[0]?).map (fun f=>(f.type,f.offset))=some (3,0):=by kernel_rfl
 have h1:((Tryz.prog.fieldsOf 24)[1]?).map (fun f=>(f.type,f.offset))=some (3,1):=by kernel_rfl
 have h2:((Tryz.prog.fieldsOf 24)[2]?).map (fun f=>(f.type,f.offset))=some (22,2):=by kernel_rfl
 have hsz:(Tryz.prog.fieldsOf 24).size=3:=by kernel_rfl
 generalize Tryz.prog.fieldsOf 24=fs at hu h0 h1 h2 hsz
 obtain ⟨xs,m,rfl,hxe,hl,hxl,hget⟩:=DataW.trod_struct hu hf
 rw [dG] at hl
 have key:∀(i:Nat) (T:TypeId),(fs[i]?).map (fun f=>(f.type,f.offset))=some (T,i)→Tryz.prog.cellsOf T=1→i<3→∃y c,cs[i]?=some c∧DataW.trod enc Tryz.prog W 0 (fun _=>true) true m T [c]=some y:=by
  intro i T hi hc hi5
  obtain ⟨f,hf1,hf2⟩:=Option.map_eq_some_iff.1 hi
  simp only [Prod.mk.injEq] at hf2
  obtain ⟨rfl,hfo⟩:=hf2
  have hg:=hget i f hf1
  rw [hc,hfo] at hg
  have hx:xs[i]?=some (xs[i]'(by omega)):=by simp [show i<xs.length by omega]
  rw [hx] at hg
  have hc1:cs[i]?=some (cs[i]'(by omega)):=by simp [show i<cs.length by omega]
  have hd:(cs.drop i).take 1=[cs[i]'(by omega)]:=by
   rw [List.drop_eq_getElem_cons (show i<cs.length by omega)]
   rfl
  rw [hd] at hg
  exact ⟨_,_,hc1,hg⟩
 obtain ⟨y0,c0,e0,t0⟩:=key 0 _ h0 fk (by omega)
 obtain ⟨y1,c1,e1,t1⟩:=key 1 _ h1 fk (by omega)
 obtain ⟨y2,c2,e2,t2⟩:=key 2 _ h2 cells_terms (by omega)
 obtain ⟨k,g0,_,_⟩:=DataW.trod_int un_int t0
 obtain ⟨n,g1,_,_⟩:=DataW.trod_int un_int t1
 simp only [List.cons.injEq,and_true] at g0 g1
 subst g0 g1
 have hcs:cs=[.int .i64 k,.int .i64 n,c2]:=by
  match cs,hl,e0,e1,e2 with
  | [a,b,c],_,e0,e1,e2 =>
   simp only [List.getElem?_cons_zero,List.getElem?_cons_succ,Option.some.injEq] at e0 e1 e2
   rw [e0,e1,e2]
 suffices hs:∃l:List Tm,SlT (fun _=>True) W c2 l by
  obtain ⟨l,hs⟩:=hs
  exact ⟨mkT k n l,c2,hcs,by rw [aV];exact hs⟩
 rcases DataW.trod_slice aZ t2 with ⟨hc,_⟩|⟨a,len,cap,elems,rest,m2,rfl,hc,_,_,hlc,_,hel,hall,_,_⟩
 ·simp only [List.cons.injEq,and_true] at hc
  subst hc
  exact ⟨[],SlT.nil⟩
 ·simp only [List.cons.injEq,and_true] at hc
  subst hc
  rw [dG] at hall
  by_cases h0:0<len
  ·obtain ⟨b,o,spot⟩:=a
   have step:∀i,i<len→∃cs',W.cells? 0 ((⟨b,o,spot⟩:Addr).add (i * 3)) 3=some cs'∧∃y,DataW.trod enc Tryz.prog W 0 (fun _=>true) true m2 24 cs'=some y:=by
    intro i hi
    have hk:=hall i hi
    rw [List.getElem?_eq_getElem (by omega)] at hk
    obtain ⟨cs',h3,h4⟩:=Option.bind_eq_some_iff.1 hk
    exact ⟨cs',h3,_,h4⟩
   have hspot:spot=none:=by
    obtain ⟨cs',h3,_⟩:=step 0 h0
    obtain ⟨_,h4,h5⟩:=World.cells?_some h3
    have h6:=h5 0 (by omega)
    rw [List.getElem?_eq_getElem (by omega)] at h6
    simpa [Addr.add] using World.cell?_spot h6
   subst hspot
   obtain ⟨l,cs9,hl9,htc,hc9⟩:=open_run (W:=W) (b:=b) (o:=o) (len:=len) (fun i hi=>by
    obtain ⟨cs',h3,y,h4⟩:=step i hi
    obtain ⟨t,s,he,hst⟩:=ih m2 (by omega) cs' y h4
    subst he
    obtain ⟨_,_,h5⟩:=World.cells?_some h3
    refine ⟨t,s,fun j u hu=>?_,hst⟩
    have hj:j<3:=(List.getElem?_eq_some_iff.1 hu).1
    have h6:=h5 j hj
    rw [hu] at h6
    rw [addT,addT] at h6
    exact h6) len (Nat.le_refl _)
   subst hl9
   exact ⟨l,_,cap,cs9,rfl,hlc,htc,fun _=>⟨b,o,rfl,trivial,hc9⟩⟩
  ·obtain rfl:len=0:=by omega
   exact ⟨[],some a,cap,[],rfl,Nat.zero_le _,rfl,fun h=>absurd h (by simp)⟩
/-- An argument of that type. -/
theorem open_term {H:Type} {enc:TypeId×Value→H} {W:World} {v:Value} {d:DataW H} {ps:List MemPlace} (hok:Value.okWide Tryz.prog W .any 0 24 v) (h:DataW.Trod enc Tryz.prog W 0 (fun _=>true) true 24 v d ps):∃(t:Tm) (s:Value),v=.agg (tcs t s).toArray∧SlT (fun _=>True) W s t.l:=by
 obtain ⟨fuel,hf⟩:=h
 obtain ⟨t,s,hc,hs⟩:=fh fuel _ _ hf
 obtain ⟨a,rfl,_⟩:=Go.WideShapes.okWide_struct Tryz.underlying24 hok
 refine ⟨t,s,?_,hs⟩
 have h2:a.toList=tcs t s:=hc
 rw [←h2]
theorem open_termsC {H:Type} {enc:TypeId×Value→H} {W:World} {fuel:Nat} {c2:Value} {y:DataW H×List MemPlace} (t2:DataW.trod enc Tryz.prog W 0 (fun _=>true) true fuel 22 [c2]=some y):∃l:List Tm,SlT (fun _=>True) W c2 l∧l.length≤maxLen:=by
 rcases DataW.trod_slice aZ t2 with ⟨hc,_⟩|⟨a,len,cap,elems,rest,m2,rfl,hc,_,_,hlc,hcm,hel,hall,_,_⟩
 ·simp only [List.cons.injEq,and_true] at hc
  subst hc
  exact ⟨[],SlT.nil,Nat.zero_le _⟩
 ·simp only [List.cons.injEq,and_true] at hc
  subst hc
  rw [dG] at hall
  by_cases h0:0<len
  ·obtain ⟨b,o,spot⟩:=a
   have step:∀i,i<len→∃cs',W.cells? 0 ((⟨b,o,spot⟩:Addr).add (i * 3)) 3=some cs'∧∃y,DataW.trod enc Tryz.prog W 0 (fun _=>true) true m2 24 cs'=some y:=by
    intro i hi
    have hk:=hall i hi
    rw [List.getElem?_eq_getElem (by omega)] at hk
    obtain ⟨cs',h3,h4⟩:=Option.bind_eq_some_iff.1 hk
    exact ⟨cs',h3,_,h4⟩
   have hspot:spot=none:=by
    obtain ⟨cs',h3,_⟩:=step 0 h0
    obtain ⟨_,h4,h5⟩:=World.cells?_some h3
    have h6:=h5 0 (by omega)
    rw [List.getElem?_eq_getElem (by omega)] at h6
    simpa [Addr.add] using World.cell?_spot h6
   subst hspot
   obtain ⟨l,cs9,hl9,htc,hc9⟩:=open_run (W:=W) (b:=b) (o:=o) (len:=len) (fun i hi=>by
    obtain ⟨cs',h3,y,h4⟩:=step i hi
    obtain ⟨t,s,he,hst⟩:=fh m2 cs' y h4
    subst he
    obtain ⟨_,_,h5⟩:=World.cells?_some h3
    refine ⟨t,s,fun j u hu=>?_,hst⟩
    have hj:j<3:=(List.getElem?_eq_some_iff.1 hu).1
    have h6:=h5 j hj
    rw [hu] at h6
    rw [addT,addT] at h6
    exact h6) len (Nat.le_refl _)
   subst hl9
   exact ⟨l,⟨_,cap,cs9,rfl,hlc,htc,fun _=>⟨b,o,rfl,trivial,hc9⟩⟩,Nat.le_trans hlc hcm⟩
  ·obtain rfl:len=0:=by omega
   exact ⟨[],⟨some a,cap,[],rfl,Nat.zero_le _,rfl,fun h=>absurd h (by simp)⟩,Nat.zero_le _⟩
theorem open_terms {H:Type} {enc:TypeId×Value→H} {W:World} {v:Value} {d:DataW H} {ps:List MemPlace} (hok:Value.okWide Tryz.prog W .any 0 22 v) (h:DataW.Trod enc Tryz.prog W 0 (fun _=>true) true 22 v d ps):∃l:List Tm,SlT (fun _=>True) W v l∧l.length≤maxLen:=by
 obtain ⟨a,len,cap,rfl⟩:=Go.WideShapes.okWide_slice aZ hok
 obtain ⟨fuel,hf⟩:=h
 exact open_termsC hf
open Go Go.RowKit
theorem eQ {F:Nat→Prop} (t:Tm):∀(n:Nat) (s:Value) (w:World),n≤100→SlT F w s t.l →
  Calls Tryz.prog 22 #[.agg (tcs t s).toArray,.int .i64 (n:Int)] w fun e w'=>e=.returned (.int .i64 ((min (n+1) (cnt t):Nat):Int))∧Below w.heap.size w w':=by
 induction t using Tm.ind with
 | h t ih =>
 intro n s w hn2 hs
 obtain ⟨p,cap,rfl,hcap⟩:=hs.len
 obtain ⟨m,hml⟩:∃m,m=t.l.length:=⟨_,rfl⟩
 have HIH:Hid _:=ih
 have HM:Hid (∀_:Unit,m=t.l.length):=fun _=>hml
 have HS:Hid (SlT F w (.slice p m cap) t.l):=by rw [hml];exact hs
 have HTK:Hid (∀_:Unit,((t.l.take m).map cnt).sum+1=cnt t):=fun _=>by rw [hml,List.take_length,bQ];omega
 rw [←hml]
 clear ih hs hml hcap
 have hm:=Mem.start w
 go_enter Tryz.func22,Tryz.ntmps22
 go_wp2_with (first
  | ((with_reducible refine af (some 2) (.box 24 (.tmp 0)) ?_);go_must (refine aw (tcs t (.slice p m cap)) rfl hm ?_);clear hm;intro w1 g1 hm))
 have hmB:Hid (Mem w [] w1 [(g1,tcs t (.slice p m cap),24)]):=hm
 go_loopw [6,5] (fun vi vc wr=>∃k c:Nat,k≤m∧vi=.int .i64 (k:Int)∧vc=.int .i64 (c:Int)∧Hid (c=min (n+1) (1+((t.l.take k).map cnt).sum))∧Hid (Mem w [] wr [(g1,tcs t (.slice p m cap),24)])) (fun vi _ _=>m - (intOf vi).toNat)
 case atStart=>exact ⟨0,1,by omega,rfl,rfl,by show _=_;simp,hm⟩
 case round =>
  clear hm hmB
  obtain ⟨k,c,hk,rfl,rfl,HC,HMM⟩:=hrel
  by_cases hlt:k<m
  ·have hki:(k:Int)<(m:Int):=by omega
   obtain ⟨b,o,rfl⟩:=HS.out.at (show 0<m by omega)
   obtain ⟨x,hx⟩:=aX (HM.out ()) hlt
   have hm:=HMM.out
   obtain ⟨px,mx,cx,c0,c1,c2,rfl,hsx⟩:=(HS.out.below hm.below).cells hx
   have HX:Hid (SlT F wr (.slice px x.l.length cx) x.l):=hsx
   have HNX:Hid (1+((t.l.take (k+1)).map cnt).sum=1+((t.l.take k).map cnt).sum+cnt x):=by show _=_;rw [dQ hx];omega
   have HMX:Hid (x∈t.l):=List.mem_of_getElem? hx
   have hcn:c≤n+1:=by have:=HC.out;omega
   have HCN:=HC
   obtain ⟨mx,hmx⟩:∃mx,mx=x.l.length:=⟨_,rfl⟩
   have HX2:Hid (SlT F wr (.slice px mx cx) x.l):=by rw [hmx];exact HX.out
   rw [←hmx] at c2
   clear hsx hx HMM HX hmx
   by_cases hc:c=n+1
   ·have hci:¬(c:Int)≤(n:Int):=by omega
    have hci2:¬c≤n:=by omega
    have HR:Hid (∀_:Unit,min (n+1) (cnt t)=c):=fun _=>by
     have h1:=HCN.out;have h2:=HTK.out ()
     have h3:((t.l.take k).map cnt).sum≤((t.l.take m).map cnt).sum:=by
      have e:=List.take_append_drop k (t.l.take m)
      rw [List.take_take,Nat.min_eq_left (by omega)] at e
      rw [←e,List.map_append,List.sum_append];omega
     omega
    clear hc HC HCN HNX
    go_wp2_with (first
     | ((with_reducible refine af (some 9) (.load 22 (.tmp 8)) ?_);go_must (refine aa (.slice (some ⟨b,o,none⟩) m cap) rfl (ad (.slice (some ⟨b,o,none⟩) m cap) (Mem.cell hm 0 rfl 2) rfl ah) ?_)))
    go_ret
    exact ⟨by rw [HR.out ()];rfl,hm.below⟩
   ·have hci:(c:Int)≤(n:Int):=by omega
    have hci2:c≤n:=by omega
    obtain ⟨d,hd⟩:∃d,d=min (n - c+1) (cnt x):=⟨_,rfl⟩
    have hd1:d≤101:=by omega
    have hk100:k<101:=by
     have h1:=sum_ge (l:=t.l) (k:=k) (by have:=HM.out ();omega)
     have h2:=HCN.out
     omega
    have HND:Hid (c+d=min (n+1) (1+((t.l.take (k+1)).map cnt).sum)):=by show _=_;have h1:=HCN.out;have h2:=HNX.out;omega
    have hw:IntKind.i64.wrap ((n:Int) - (c:Int))=((n - c:Nat):Int):=(bm _ (by omega) (by omega)).trans (by omega)
    have hw2:IntKind.i64.wrap ((c:Int)+(d:Int))=((c+d:Nat):Int):=(bm _ (by omega) (by omega)).trans (by omega)
    have HCALL:Hid (∀W,Below wr.heap.size wr W→Calls Tryz.prog 22 #[.agg (tcs x (.slice px mx cx)).toArray,.int .i64 ((n - c:Nat):Int)] W fun e w'=>e=.returned (.int .i64 (d:Int))∧Below W.heap.size W w'):=fun W hW=>by
     have h9:=HIH.out x HMX.out (n - c) (.slice px mx cx) W (by omega) (HX2.out.below hW)
     rw [←hd] at h9
     exact h9
    have HB0:Hid (Mem w [] wr [(g1,tcs t (.slice (some ⟨b,o,none⟩) m cap),24)]):=hm
    have HBW:Hid (Below wr.heap.size wr wr):=Below.refl _ _
    clear hc hd HC HCN HNX
    go_wp2_with (first
     | ((with_reducible refine af (some 9) (.load 22 (.tmp 8)) ?_);go_must (refine aa (.slice (some ⟨b,o,none⟩) m cap) rfl (ad (.slice (some ⟨b,o,none⟩) m cap) (Mem.cell hm 0 rfl 2) rfl ah) ?_))
     | ((with_reducible refine af (some 21) (.load 22 (.tmp 20)) ?_);go_must (refine aa (.slice (some ⟨b,o,none⟩) m cap) rfl (ad (.slice (some ⟨b,o,none⟩) m cap) (Mem.cell hm 0 rfl 2) rfl ah) ?_))
     | ((with_reducible refine af (some 23) (.indexAddr 22 (.tmp 21) (.tmp 22)) ?_);go_must (refine aa (.pointer (some ⟨b,o+k * 3,none⟩)) rfl (ak k rfl rfl rfl hlt) ?_))
     | ((with_reducible refine af (some 24) (.load 24 (.tmp 23)) ?_);go_must (refine aa (.agg (tcs x (.slice px mx cx)).toArray) rfl (am rfl c0 c1 c2) ?_))
     | (go_at_call 22;go_must (refine (HCALL.out _ HBW.out).mono ?_);rintro e w4 ⟨he,hb⟩;subst he;replace hm:=hm.call hb;clear hb))
    go_roundw
    case rel=>exact ⟨k+1,c+d,by omega,by go_num,by first|rfl|(rw [hw2]),HND.out,hm⟩
    case measure=>simp [intOf];omega
  ·have hkn:m=k:=by omega
   subst hkn
   have hni:¬(m:Int)<(m:Int):=by omega
   have HR:Hid (∀_:Unit,min (n+1) (cnt t)=c):=fun _=>by have h1:=HC.out;have h2:=HTK.out ();omega
   have hm:=HMM.out
   clear HC
   go_wp2_with (first
    | ((with_reducible refine af (some 9) (.load 22 (.tmp 8)) ?_);go_must (refine aa (.slice p m cap) rfl (ad (.slice p m cap) (Mem.cell hm 0 rfl 2) rfl ah) ?_)))
   go_ret
   exact ⟨by rw [HR.out ()];rfl,hm.below⟩
open Go Go.RowKit
def FO (w:World) (v:Value):Nat→Prop:=fun b=>b<w.heap.size∧some b≠v.ownBlock
def OT (base:Nat) (w:World) (v:Value) (l:List Tm):Prop:=∃cs,w.ownsRow base 24 3 v l.length cs∧TC (FO w v) w l cs
theorem fo_push {w w':World} {v v':Value} (hg:w.grownBy w' v.ownBlock) (hb:v'.ownBlock=v.ownBlock∨v'.ownBlock=some w.heap.size):Keeps (FO w v) (FO w' v') w w':=by
 intro b hF
 refine ⟨⟨Nat.lt_of_lt_of_le hF.1 hg.size,?_⟩,fun o u h=>?_⟩
 ·rcases hb with hb|hb
  ·rw [hb];exact hF.2
  ·rw [hb];intro he;have:=Option.some.inj he;have:=hF.1;omega
 ·rw [World.cell?_of_block (w:=w) (hg.block b hF.1 hF.2)];exact h
theorem bA {w w':World} {v:Value} (hb:Below w.heap.size w w'):Keeps (FO w v) (FO w' v) w w':=by
 intro b hF
 refine ⟨⟨Nat.lt_of_lt_of_le hF.1 hb.size,hF.2⟩,fun o u h=>?_⟩
 rw [World.cell?_of_block (w:=w) (hb.block b hF.1)];exact h
section
variable {base:Nat} {w w':World} {v:Value} {l:List Tm}
theorem OT.nil:OT base w (.slice none 0 0) []:=⟨[],World.ownsRow_nil _ _ _ _,rfl⟩
theorem OT.below (h:OT base w v l) (hb:Below w.heap.size w w'):OT base w' v l:=by
 obtain ⟨cs,ho,ht⟩:=h
 exact ⟨cs,aK ho hb,ht.keeps (bA hb)⟩
theorem OT.len (h:OT base w v l):∃p c,v=.slice p l.length c∧l.length≤c:=by
 obtain ⟨cs,ho,_⟩:=h
 obtain ⟨p,cap,hv,hc,_,_⟩:=bK ho
 exact ⟨p,cap,hv,hc⟩
theorem OT.slt (h:OT base w v l):SlT (fun b=>b<w.heap.size) w v l:=by
 obtain ⟨cs,ho,ht⟩:=h
 obtain ⟨p,cap,hv,hc,_,hs⟩:=bK ho
 refine ⟨p,cap,cs,hv,hc,ht.keeps (Keeps.weak fun b hb=>hb.1),fun h0=>?_⟩
 obtain ⟨b,off,hp,hseg⟩:=hs h0
 have hb:v.ownBlock=some b:=by rw [hv,hp];rfl
 exact ⟨b,off,hp,(av ho hb).2,hseg⟩
theorem OT.lt (h:OT base w v l) {b:Nat} (hb:v.ownBlock=some b):base≤b∧b<w.heap.size:=by
 obtain ⟨cs,ho,_⟩:=h
 exact av ho hb
/-- Older ones lie apart. -/
theorem OT.old (h:OT base w v l) {F:Nat→Prop} (hF:∀b,F b→b<base) {x:Value} {l2:List Tm} (hs:SlT F w x l2) (hb:base≤w.heap.size):SlT (FO w v) w x l2:=hs.weak fun b hF'=>by
 have h1:=hF b hF'
 refine ⟨by omega,fun he=>?_⟩
 have:=(h.lt he.symm).1
 omega
theorem TC.app {F:Nat→Prop} {w:World} {l l2:List Tm} {cs cs2:List Value} (h:TC F w l cs) (h2:TC F w l2 cs2):TC F w (l++l2) (cs++cs2):=by
 induction l2 generalizing l cs cs2 with
 | nil =>
  have:cs2=[]:=List.eq_nil_of_length_eq_zero (by rw [h2.len];rfl)
  subst this
  rw [List.append_nil,List.append_nil];exact h
 | cons t l2 ih =>
  obtain ⟨s,cs3,rfl,hs,h3⟩:=h2
  have h4:=ih (h.snoc hs) h3
  rw [List.append_assoc,List.append_assoc] at h4
  exact h4
theorem tc_oneCell {F:Nat→Prop} {l:List Tm} {cs:List Value} (h:TC F w l cs):∀u∈cs,u.oneCell'=true:=by
 induction l generalizing cs with
 | nil =>
  have:cs=[]:=List.eq_nil_of_length_eq_zero (by rw [h.len];rfl)
  subst this
  intro u hu;cases hu
 | cons t l ih =>
  obtain ⟨s,cs3,rfl,hs,h3⟩:=h
  obtain ⟨p,c,hv,_⟩:=((bH t s).1 hs).len
  intro u hu
  rcases List.mem_append.1 (show u∈tcs t s++cs3 from hu) with hu|hu
  ·subst hv
   exact aY t _ _ _ u hu
  ·exact ih h3 u hu
theorem run_appOT {ty:TypeId} (h:OT base w v l) {l2:List Tm} {ps:Option Addr} {m c:Nat} (hm:m=l2.length) (hs:SlT (FO w v) w (.slice ps m c) l2) (hlen:l.length+m≤1000000) (hbase:base≤w.heap.size) :
  ∃v' w',(Builtin.append_ #[22,22] ty #[v,.slice ps m c]).run Tryz.prog w=.ok v' w'∧OT base w' v' (l++l2)∧w.grownBy w' v.ownBlock∧(v'.ownBlock=v.ownBlock∨v'.ownBlock=some w.heap.size):=by
 subst hm
 obtain ⟨cs,ho,ht⟩:=h
 cases hq:Tryz.prog.info? 24 with
 | none=>have:=bI;rw [hq] at this;cases this
 | some i =>
  have hi:=bI
  rw [hq] at hi
  simp only [Option.map_some,Option.some.injEq,Prod.mk.injEq] at hi
  obtain ⟨hz,h1,h2⟩:=hi
  obtain ⟨p2,c2,cs2,hv2,hc2,ht2,hsg⟩:=hs
  simp only [Value.slice.injEq] at hv2
  obtain ⟨rfl,_,rfl⟩:=hv2
  by_cases h0:0<l2.length
  ·obtain ⟨b,off,rfl,_,hseg⟩:=hsg h0
   obtain ⟨v',w',hr,hown,hgr,_,hb⟩:=run_append_own_at (P:=Tryz.prog) w base 22 ty 24 i _ 3 40 aZ hq hz h1 h2 rfl (by omega) v l.length cs ho ⟨b,off,none⟩ l2.length c cs2 ht2.len (fun j u hu=>by rw [aQ];exact hseg j u hu) (tc_oneCell ht2) (by unfold maxLen;omega) (by omega) hbase
   refine ⟨v',w',hr,⟨cs++cs2,by rw [List.length_append];exact hown,(ht.app ht2).keeps (fo_push hgr hb)⟩,hgr,hb⟩
  ·have hy:l2=[]:=List.eq_nil_of_length_eq_zero (by omega)
   subst hy
   refine ⟨v,w,?_,⟨cs,by rw [List.append_nil];exact ho,by rw [List.append_nil];exact ht⟩,⟨rfl,rfl,rfl,Nat.le_refl _,fun _ _ _=>rfl⟩,Or.inl rfl⟩
   obtain ⟨_,h3⟩:=ho
   have hld:∀a:Addr,(loadCells a 0).run Tryz.prog w=.ok #[] w:=fun a=>rfl
   rcases h3 with ⟨rfl,_⟩|⟨g,cap,cur,rfl,_,_,hn,_⟩
   ·cases ps<;>simp [Builtin.append_,run_underlying aZ,sizeOf,typeInfo,hq,Builtin.lenOf,Builtin.firstCells,hld]
   ·cases ps<;>simp [Builtin.append_,run_underlying aZ,sizeOf,typeInfo,hq,Builtin.lenOf,Builtin.firstCells,hld,hn,storeCells]
theorem Mem.grownX {w0:World} {S:List Nat} {rows:List (Nat×List Value×TypeId)} (hm:Mem w0 S w rows) {x:Option Nat} (h1:∀b,x=some b→w0.heap.size≤b) (h2:∀r∈rows,some r.1≠x) (hg:w.grownBy w' x):Mem w0 S w' rows:=by
 refine ⟨hg.os.trans hm.os,hg.tape.trans hm.tape,hg.output.trans hm.output,Nat.le_trans hm.size hg.size,fun k hk hn=>?_,fun r hr=>?_,hm.nodup,hm.fresh⟩
 ·refine (hg.block k (Nat.lt_of_lt_of_le hk hm.size) (fun he=>?_)).trans (hm.block k hk hn)
  have:=h1 k he.symm
  omega
 ·have hrow:=hm.row r hr
  unfold Row
  rw [hg.block r.1 hrow.lt (h2 r hr)]
  exact hrow
end
section
variable {ops:Array Oper} {rest:List Oper} {a:Act} {w w0:World} {Q:Exit→Act→World→Prop} {dst:Option Tmp} {typ:TypeId} {pos:String} {aft:Array Edge} {gd:Option (Nat×Bool)} {S:List Nat} {rows:List (Nat×List Value×TypeId)}
theorem aN {s x:Operand} {base:Nat} {v:Value} {l l2:List Tm} {ps:Option Addr} {m c:Nat} (hw:Region.wanted {dst:=dst,op:=.call {callee:=.builtin .append,args:=#[s,x],argTypes:=#[22,22]},type:=typ,pos:=pos,after:=aft,guard:=gd} (yielded ops a.tmps)=true)
  (hs:a.eval s=v) (hx:a.eval x=.slice ps m c) (hmw:Mem w0 S w rows) (h:OT base w v l) (hm:m=l2.length) (hsl:SlT (FO w v) w (.slice ps m c) l2) (hlen:l.length+m≤1000000) (hb0:w0.heap.size≤base) (hbase:base≤w.heap.size) (hne:∀r∈rows,some r.1≠v.ownBlock)
  (hk:∀v' w',OT base w' v' (l++l2)→w.grownBy w' v.ownBlock→(v'.ownBlock=v.ownBlock∨v'.ownBlock=some w.heap.size)→Mem w0 S w' rows→wpList Tryz.prog ops Q rest (a.put dst v') w') :
  wpList Tryz.prog ops Q ({dst:=dst,op:=.call {callee:=.builtin .append,args:=#[s,x],argTypes:=#[22,22]},type:=typ,pos:=pos,after:=aft,guard:=gd}::rest) a w:=by
 obtain ⟨v',w',hr,ho,hg,hb⟩:=run_appOT (ty:=typ) h hm hsl hlen hbase
 refine wpList_step fun K hK=>?_
 rw [if_pos hw]
 have hh:=hK _ _ (hk v' w' ho hg hb (hmw.grownX (fun b he=>Nat.le_trans hb0 (h.lt he).1) hne hg))
 unfold Oper.wp execOp
 simp only [resolve,invoke,builtin,Sem.run_bind,Sem.run_pure,Result.andThen_ok,List.map_toArray,List.map_cons,List.map_nil,hs,hx,hr]
 exact hh
end
theorem TC.drop {F:Nat→Prop} {w:World} {l:List Tm} {cs:List Value} (h:TC F w l cs) (k:Nat):TC F w (l.drop k) (cs.drop (k * 3)):=by
 induction k generalizing l cs with
 | zero=>simpa using h
 | succ k ih =>
  cases l with
  | nil =>
   have:cs=[]:=List.eq_nil_of_length_eq_zero (by rw [h.len];rfl)
   subst this
   simpa using h
  | cons t l =>
   obtain ⟨s,cs3,rfl,hs,h3⟩:=h
   have h4:=ih h3
   rw [List.drop_succ_cons,show (k+1) * 3=3+k * 3 by omega,←List.drop_drop]
   exact h4
theorem TC.take {F:Nat→Prop} {w:World} {l:List Tm} {cs:List Value} (h:TC F w l cs) (k:Nat):TC F w (l.take k) (cs.take (k * 3)):=by
 induction k generalizing l cs with
 | zero=>rw [Nat.zero_mul,List.take_zero,List.take_zero];rfl
 | succ k ih =>
  cases l with
  | nil =>
   have:cs=[]:=List.eq_nil_of_length_eq_zero (by rw [h.len];rfl)
   subst this
   simpa using h
  | cons t l =>
   obtain ⟨s,cs3,rfl,hs,h3⟩:=h
   have h4:=ih h3
   rw [List.take_succ_cons,show (k+1) * 3=k * 3+1+1+1 by omega]
   exact ⟨s,cs3.take (k * 3),rfl,hs,h4⟩
def offA (p:Option Addr) (cap k:Nat):Option Addr:=if cap=k then p else p.map (·.add (k * 3))
theorem SlT.drop {F:Nat→Prop} {w:World} {p:Option Addr} {n c k:Nat} {l:List Tm} (h:SlT F w (.slice p n c) l) (hk:k≤n):SlT F w (.slice (offA p c k) (n - k) (c - k)) (l.drop k):=by
 obtain ⟨q,c',cs,hv,hc,ht,hs⟩:=h
 simp only [Value.slice.injEq] at hv
 obtain ⟨rfl,rfl,rfl⟩:=hv
 refine ⟨_,_,_,by rw [List.length_drop],by rw [List.length_drop];omega,ht.drop k,fun h0=>?_⟩
 rw [List.length_drop] at h0
 obtain ⟨b,o,rfl,hF,hseg⟩:=hs (by omega)
 refine ⟨b,o+k * 3,by rw [offA,if_neg (by omega)];simp [aQ],hF,fun j u hu=>?_⟩
 rw [List.getElem?_drop] at hu
 have:=hseg _ u hu
 rw [←Nat.add_assoc] at this
 exact this
theorem SlT.take {F:Nat→Prop} {w:World} {p:Option Addr} {n c k:Nat} {l:List Tm} (h:SlT F w (.slice p n c) l) (hk:k≤n):SlT F w (.slice (cutHi p c) k c) (l.take k):=by
 obtain ⟨q,c',cs,hv,hc,ht,hs⟩:=h
 simp only [Value.slice.injEq] at hv
 obtain ⟨rfl,rfl,rfl⟩:=hv
 have hkl:min k l.length=k:=Nat.min_eq_left hk
 refine ⟨_,_,_,by rw [List.length_take,hkl],by rw [List.length_take,hkl];omega,ht.take k,fun h0=>?_⟩
 rw [List.length_take,hkl] at h0
 obtain ⟨b,o,rfl,hF,hseg⟩:=hs (by omega)
 refine ⟨b,o,by rw [cutHi,if_neg (by omega)];simp [aQ],hF,fun j u hu=>?_⟩
 rw [List.getElem?_take] at hu
 split at hu
 ·exact hseg j u hu
 ·cases hu
section
variable {a:Act} {w:World} {dst:Option Tmp} {typ:TypeId} {pos:String} {aft:Array Edge} {gd:Option (Nat×Bool)}
theorem eW {x hi:Operand} {p:Option Addr} {len cap:Nat} (m:Nat) {ih:Int} (hm:m≤cap) (hx:a.eval x=.slice p len cap) (hhi:a.eval hi=.int .i64 ih) (hih:ih=(m:Int)) :
  (execOp a.eval {dst:=dst,op:=.slice 22 x none (some hi) none,type:=typ,pos:=pos,after:=aft,guard:=gd}).run Tryz.prog w=.ok (.value (.slice (cutHi p cap) m cap)) w:=by
 subst hih
 cases hq:Tryz.prog.info? 24 with
 | none=>have:=aj;rw [hq] at this;cases this
 | some q =>
  have hs1:q.size=3:=by have:=aj;rw [hq] at this;simpa using this
  have bnd:∀code,(Instr.sliceBound (.int .i64 (m:Int)) cap code).run Tryz.prog w=.ok m w:=by
   intro code
   rw [run_sliceBound (P:=Tryz.prog) w .i64 (m:Int) cap code (by omega) (by omega)]
   simp
  have hb:(Instr.sliceBounds true len cap none (some (.int .i64 (m:Int))) none).run Tryz.prog w=.ok (0,m,cap) w:=by
   simp [Instr.sliceBounds,bnd]
  have hr:(Instr.sliceAt 22 (.slice p len cap) none (some (.int .i64 (m:Int))) none).run Tryz.prog w=.ok (.slice (cutHi p cap) m cap) w:=by
   simp [Instr.sliceAt,Instr.slice,run_underlying aZ,hb,cutHi]
  unfold execOp
  simp only [hx,hhi,Option.map_some,Option.map_none,hr,Sem.run_bind,Sem.run_pure,Result.andThen_ok]
theorem dm {x lo:Operand} {p:Option Addr} {len cap:Nat} (l:Nat) {il:Int} (hl:l≤len) (hx:a.eval x=.slice p len cap) (hlo:a.eval lo=.int .i64 il) (hil:il=(l:Int)) :
  (execOp a.eval {dst:=dst,op:=.slice 22 x (some lo) none none,type:=typ,pos:=pos,after:=aft,guard:=gd}).run Tryz.prog w=.ok (.value (.slice (offA p cap l) (len - l) (cap - l))) w:=by
 subst hil
 cases hq:Tryz.prog.info? 24 with
 | none=>have:=aj;rw [hq] at this;cases this
 | some q =>
  have hs1:q.size=3:=by have:=aj;rw [hq] at this;simpa using this
  have hb:(Instr.sliceBounds true len cap (some (.int .i64 (l:Int))) none none).run Tryz.prog w=.ok (l,len,cap) w:=by
   have:=run_sliceBound (P:=Tryz.prog) w .i64 (l:Int) len .sliceB (by omega) (by omega)
   simp [Instr.sliceBounds,this]
  have hr:(Instr.sliceAt 22 (.slice p len cap) (some (.int .i64 (l:Int))) none none).run Tryz.prog w=.ok (.slice (offA p cap l) (len - l) (cap - l)) w:=by
   simp [Instr.sliceAt,Instr.slice,run_underlying aZ,hb,offA,Nat.mul_comm]
  unfold execOp
  simp only [hx,hlo,Option.map_some,Option.map_none,hr,Sem.run_bind,Sem.run_pure,Result.andThen_ok]
end
open Go Go.RowKit
section
variable {ops:Array Oper} {rest:List Oper} {a:Act} {w w0:World} {Q:Exit→Act→World→Prop} {dst:Option Tmp} {typ:TypeId} {pos:String} {aft:Array Edge} {gd:Option (Nat×Bool)} {S:List Nat} {rows:List (Nat×List Value×TypeId)}
end
theorem tc_of_row {F:Nat→Prop} {w:World} {g n:Nat} {l:List Tm} {cs:List Value} (hr:Row w g cs 24) (ht:TC F w l cs) (hF:F g) (hn:l.length=n):SlT F w (.slice (some ⟨g,0,none⟩) n n) l:=by
 subst hn
 exact ⟨_,l.length,cs,rfl,Nat.le_refl _,ht,fun _=>⟨g,0,rfl,hF,fun j u hu=>by rw [Nat.zero_add,hr.cell j];exact hu⟩⟩
theorem bO {F:Nat→Prop} {w:World} {g:Nat} {t:Tm} {s:Value} (hr:Row w g (tcs t s) 24) (hs:SlT F w s t.l) (hF:F g):SlT F w (.slice (some ⟨g,0,none⟩) 1 1) [t] :=
 tc_of_row hr ⟨s,[],rfl,(bH t s).2 hs,rfl⟩ hF rfl
theorem set9 (cs:Array Value) (h:cs.size=9) (a b c d e f g i j:Value):((((((((cs.setIfInBounds 0 a).setIfInBounds 1 b).setIfInBounds 2 c).setIfInBounds 3 d).setIfInBounds 4 e).setIfInBounds 5 f).setIfInBounds 6 g).setIfInBounds 7 i).setIfInBounds 8 j=#[a,b,c,d,e,f,g,i,j]:=by
 apply Array.ext
 ·simp [h]
 ·intro k h1 h2
  have:k=0∨k=1∨k=2∨k=3∨k=4∨k=5∨k=6∨k=7∨k=8:=by simp at h2;omega
  rcases this with rfl|rfl|rfl|rfl|rfl|rfl|rfl|rfl|rfl<;>simp [h]
theorem run_bslT3 {P:Program} (w:World) {t elem:TypeId} (z:List Value) (a b c d e f g i j:Value) (hu:P.underlying t=some (.slice elem)) (hi:(P.info? elem).map (fun i=>(i.zero,i.size))=some (some (.agg z.toArray),3)) (hz:z.length=3) :
  (Instr.buildSlice t 3 #[(0,.agg [a,b,c].toArray),(1,.agg [d,e,f].toArray),(2,.agg [g,i,j].toArray)]).run P w=.ok (.slice (some ⟨w.heap.size,0,none⟩) 3 3) (w.alloc (.cells [a,b,c,d,e,f,g,i,j].toArray elem)):=by
 obtain ⟨hz1,hs1⟩:=zero_of_info hi
 cases hq:P.info? elem with
 | none=>simp [hq] at hi
 | some qq =>
  have hs:qq.size=3:=by simpa [hq] using hs1
  simp [Instr.buildSlice,run_underlying hu,sizeOf,typeInfo,hq,hs,hz1,Value.cells,Instr.fill,hz,newRow,newObj]
  rw [set9 _ (by simp)]
  rfl
section
variable {ops:Array Oper} {rest:List Oper} {a:Act} {w w0:World} {Q:Exit→Act→World→Prop} {dst:Option Tmp} {typ:TypeId} {pos:String} {aft:Array Edge} {gd:Option (Nat×Bool)} {S:List Nat} {rows:List (Nat×List Value×TypeId)}
theorem wpl_bslT3 {x y q:Operand} (t u p:Tm) (s v r:Value) (hw:Region.wanted {dst:=dst,op:=.buildSlice 22 3 #[(0,x),(1,y),(2,q)],type:=typ,pos:=pos,after:=aft,guard:=gd} (yielded ops a.tmps)=true) (hx:a.eval x=.agg (tcs t s).toArray) (hy:a.eval y=.agg (tcs u v).toArray) (hq:a.eval q=.agg (tcs p r).toArray) (hm:Mem w0 S w rows)
  (h:∀w' g,Below w.heap.size w w'→w.heap.size≤g→Mem w0 S w' ((g,tcs t s++(tcs u v++tcs p r),24)::rows)→wpList Tryz.prog ops Q rest (a.put dst (.slice (some ⟨g,0,none⟩) 3 3)) w') :
  wpList Tryz.prog ops Q ({dst:=dst,op:=.buildSlice 22 3 #[(0,x),(1,y),(2,q)],type:=typ,pos:=pos,after:=aft,guard:=gd}::rest) a w:=by
 refine wpList_step fun K hK=>?_
 rw [if_pos hw]
 have hh:=hK _ _ (h _ _ ((Below.refl _ _).alloc (Nat.le_refl _) _) (Nat.le_refl _) (hm.alloc (tcs t s++(tcs u v++tcs p r)) 24))
 unfold Oper.wp execOp
 have hr:=run_bslT3 (P:=Tryz.prog) w [Value.int .i64 0,.int .i64 0,.slice none 0 0] (.int .i64 t.k) (.int .i64 t.n) s (.int .i64 u.k) (.int .i64 u.n) v (.int .i64 p.k) (.int .i64 p.n) r aZ cM rfl
 simp only [List.map_toArray,List.map_cons,List.map_nil,hx,hy,hq,tcs,hr,Sem.run_bind,Sem.run_pure,Result.andThen_ok]
 exact hh
end
theorem slt_three {F:Nat→Prop} {w:World} {g:Nat} {t u p:Tm} {s v r:Value} (hr:Row w g (tcs t s++(tcs u v++tcs p r)) 24) (hs:SlT F w s t.l) (hv:SlT F w v u.l) (hp:SlT F w r p.l) (hF:F g):SlT F w (.slice (some ⟨g,0,none⟩) 3 3) [t,u,p] :=
 tc_of_row hr ⟨s,_,rfl,(bH t s).2 hs,v,_,rfl,(bH u v).2 hv,r,[],rfl,(bH p r).2 hp,rfl⟩ hF rfl
def Rdy (W:World):Prop:=Esx W∧10≤W.heap.size
theorem Rdy.below {w w':World} (h:Rdy w) (hb:Below w.heap.size w w'):Rdy w':=⟨h.1.below hb,Nat.le_trans h.2 hb.size⟩
theorem rd_of {t:Tm} {R:List UInt8} (h:isT t=true) (ht:txt t=R):∃r,rdT 60 60 R=some (t,[],r):=by
 obtain ⟨h1,h2⟩:=az.1 h
 have h3:=fd 60 t h2 60 [] h1 h1 noD_nil
 rw [List.append_nil,ht] at h3
 exact ⟨_,h3⟩
theorem cB (R:List UInt8) (w:World) (hRl:R.length≤100000) (hY:Rdy w) (t:Tm) (h:isT t=true) (ht:txt t=R) :
  Calls Tryz.prog 21 #[.string (mkS R)] w fun e w'=>∃s,e=.returned (.agg (tcs t s).toArray)∧SlT (fun _=>True) w' s t.l∧Below w.heap.size w w':=by
 obtain ⟨r1,hr1⟩:=rd_of h ht
 have hm:=Mem.start w
 have HP:Hid (∀W,Below w.heap.size w W→Calls Tryz.prog 40 #[.string (mkS R)] W fun e w'=>∃s,e=.returned (.tuple #[.agg (tcs t s).toArray,.int .i64 0])∧SlT (FN W.heap.size w'.heap.size) w' s t.l∧Below W.heap.size W w'):=fun W hW=>parse_yes R W hRl (hY.below hW).1 (hY.below hW).2 t r1 hr1
 obtain ⟨S,hS⟩:∃S,S=mkS R:=⟨_,rfl⟩
 rw [←hS] at HP ⊢
 clear hr1 hY h ht hRl hS
 go_enter Tryz.func21,Tryz.ntmps21
 go_wp2_with (first
  | ((with_reducible refine af (some 2) (.alloc 24) ?_);go_must (refine ap _ ax hm ?_);clear hm;intro w1 g1 hm)
  | (go_at_call 40;go_must (refine (HP.out _ hm.below).mono ?_);rintro e w2 ⟨s2,he,hs2,hb⟩;obtain ⟨p2,c2,hv2,_⟩:=hs2.len;obtain ⟨ml,hml⟩:∃m,m=t.l.length:=⟨_,rfl⟩;rw [←hml] at hv2;subst hv2;subst he;have HG1:Hid (g1<w1.heap.size):=(hm.get 0 rfl).lt;have HS2:Hid (SlT (FN w1.heap.size w2.heap.size) w2 (.slice p2 ml c2) t.l):=hs2;have HZ2:Hid (w.heap.size≤w1.heap.size∧w1.heap.size≤w2.heap.size):=⟨hm.size,hb.size⟩;replace hm:=hm.call hb;clear hb hs2 hml)
  | ((with_reducible refine af (some 3) (.alloc 24) ?_);go_must (refine bG _ ax hm ?_);clear hm;intro w3 g3 hb3 hg3 hm;have HS3:Hid (SlT (FN w1.heap.size w2.heap.size) w3 (.slice p2 ml c2) t.l):=HS2.out.below hb3;have HG3:Hid (w2.heap.size≤g3):=hg3;clear hb3 hg3)
  | ((with_reducible refine af none (.store 24 (.tmp 3) (.tmp 8)) ?_);go_must (refine bq 0 (tcs t (.slice p2 ml c2)) hm rfl rfl rfl 3 aj rfl rfl (aY _ _ _ _) ?_);clear hm;intro w4 hu4 hm;have HS4:Hid (SlT (FN w1.heap.size w2.heap.size) w4 (.slice p2 ml c2) t.l):=HS3.out.keep (Keeps.upd hu4 (fun b hb=>by have h9:=hb.2;have h8:=HG3.out;omega));clear hu4)
  | ((with_reducible refine af (some 10) (.load 24 (.tmp 3)) ?_);go_must (refine aE 0 hm rfl rfl _ Tryz.underlying24 rfl 3 aj rfl ?_))
  | ((with_reducible refine af none (.store 24 (.tmp 2) (.tmp 10)) ?_);go_must (refine bq 1 (tcs t (.slice p2 ml c2)) hm rfl rfl rfl 3 aj rfl rfl (aY _ _ _ _) ?_);clear hm;intro w5 hu5 hm;have HS5:Hid (SlT (FN w1.heap.size w2.heap.size) w5 (.slice p2 ml c2) t.l):=HS4.out.keep (Keeps.upd hu5 (fun b hb=>by have h9:=hb.1;have h8:=HG1.out;omega));clear hu5))
 refine ret_cell 1 hm rfl Tryz.results21 rfl _ Tryz.underlying24 rfl 3 aj rfl rfl ?_
 exact ⟨_,rfl,HS5.out.weak fun _ _=>trivial,hm.below⟩
end Go.Proofs.YtcibhfcjbokdlaaGreatDoor
