import Derived.Test.YtdmohffogfbnbaaGreatDoorQp14
import Derived.Test.YtdmohffogfbnbaaGreatDoorQp12
import Derived.Test.YtdmohffogfbnbaaGreatDoorQp13
set_option maxRecDepth 100000
set_option maxHeartbeats 4000000
namespace Go.Proofs.YtdmohffogfbnbaaGreatDoor
open Go Go.RowKit Go.Maps
theorem bR (x r:Int) (hr:r=heldC x) (w:World) :
  Calls Tryz.prog 31 #[.int .i64 x] w fun e w'=>e=.returned (.int .i64 r)∧Below w.heap.size w w':=by
 have hm:=Mem.start w
 have HR:Hid (r=heldC x):=hr
 clear hr
 go_enter Tryz.func31,Tryz.ntmps31
 go_wp2_with fail
 go_ret
 exact ⟨by rw [HR.out];rfl,hm.below⟩
theorem atN_tx {p:Nms} {s:ByteArray} {i:Nat} {x:Sp} (h:atN p s=(i:Int)) (hx:p[i]?=some x):tx x.1=s:=by
 unfold atN at h
 split at h
 ·next j hj =>
  have hji:j=i:=by omega
  subst hji
  obtain ⟨h1,h2,_⟩:=List.findIdx?_eq_some_iff_getElem.1 hj
  have e:p[j]=x:=by rw [List.getElem?_eq_getElem h1] at hx;simpa using hx
  rw [e] at h2
  simpa using h2
 ·omega
theorem cf (x:Sp):(spv x)[0]?=some (.string (tx x.1))∧(spv x)[3]?=some (.int .i64 (usB x))∧(spv x)[4]?=some (.int .i64 (usE x)):=⟨rfl,rfl,rfl⟩
theorem ownR_n {w:World} {B rb:Nat} {p:Nms} {oB oE:List ByteArray→Int} (h:RfAt B w rb p) (hQ:QtOk p oB oE) (hpl:p.length≤80000) (s:ByteArray) :
  Calls Tryz.prog 21 #[.pointer (some ⟨rb,0,none⟩),.string s] w fun e w'=>e=.returned (.tuple #[.int .i64 (owV oB p s),.int .i64 (owV oE p s),.bool (getB p s)])∧Below w.heap.size w w':=by
 have HR:Hid (RfAt B w rb p):=h
 have HOK:Hid (NmOk p):=hQ.tr.ok
 have HPAR:Hid (∀x∈p,∀W,Calls Tryz.prog 39 #[.string (tx x.1)] W fun e w'=>e=.returned (.tuple #[.string (tx x.1.dropLast),.bool (!decide (x.1=[]))])∧Below W.heap.size W w'):=fun x hx W=>by
  have h1:=bH (tx x.1) W (by have:=aX (hQ.tr.ok.ok x hx);omega)
  obtain ⟨e1,e2⟩:=par_all (hQ.tr.ok.ok x hx)
  rw [e1,e2] at h1
  exact h1
 obtain ⟨N,hN⟩:∃N,N=p.length:=⟨_,rfl⟩
 have HNP:Hid (N=p.length):=hN
 have hN9:N≤90000:=by omega
 obtain ⟨b,cap,hrow,hcap,hcell⟩:=h.cells
 rw [←hN] at hrow hcap
 have HROW:Hid (Row w rb [.slice (some ⟨b,0,none⟩) N cap] 71):=hrow
 have HCELL:Hid (∀i x,p[i]?=some x→∀j u,(spv x)[j]?=some u→b<w.heap.size∧w.cell? ⟨b,i * 5+j,none⟩=some u):=hcell
 obtain ⟨z1,hz1⟩:∃z,z=atN p s:=⟨_,rfl⟩
 have HAT:Hid (∀W,Below w.heap.size w W→Calls Tryz.prog 40 #[.pointer (some ⟨rb,0,none⟩),.string s] W fun e w'=>e=.returned (.int .i64 z1)∧Below W.heap.size W w'):=fun W hW=>atR_n (HR.out.below hW) (by omega) s z1 hz1
 have hm:=Mem.start w
 rcases cV hQ.tr.ok s with ⟨g1,g2⟩|⟨g1,i0,x0,hx0,g2,g3⟩
 ·have hz:z1 = -1:=by rw [hz1,g2]
  subst hz
  have e1:owV oB p s=0:=by unfold owV;rw [if_neg (by rw [g1];simp)]
  have e2:owV oE p s=0:=by unfold owV;rw [if_neg (by rw [g1];simp)]
  rw [e1,e2,g1]
  clear hz1 g1 g2 e1 e2 h hQ hpl hrow hcell hN
  go_enter Tryz.func21,Tryz.ntmps21
  go_wp2_with (first
   | (go_at_call 40;refine (HAT.out _ hm.below).mono ?_;rintro e w' ⟨he,hb⟩;subst he;replace hm:=hm.call hb;clear hb))
  go_ret3
  exact ⟨rfl,hm.below⟩
 ·have hzi:z1=(i0:Int):=by rw [hz1,g2]
  subst hzi
  have hm0:x0∈p:=List.mem_of_getElem? hx0
  have hst:tx x0.1=s:=atN_tx g2 hx0
  have ok0:=hQ.tr.ok.ok x0 hm0
  have hlt0:i0<N:=by rw [hN];exact (List.getElem?_eq_some_iff.1 hx0).1
  have hi0:¬(i0:Int)<0:=by omega
  obtain ⟨c3,hc3⟩:∃z,z=usB x0:=⟨_,rfl⟩
  obtain ⟨c4,hc4⟩:∃z,z=usE x0:=⟨_,rfl⟩
  have HC3:Hid (b<w.heap.size∧w.cell? ⟨b,i0 * 5+3,none⟩=some (.int .i64 c3)):=hcell i0 x0 hx0 3 _ (by rw [hc3];exact (cf x0).2.1)
  have HC4:Hid (b<w.heap.size∧w.cell? ⟨b,i0 * 5+4,none⟩=some (.int .i64 c4)):=hcell i0 x0 hx0 4 _ (by rw [hc4];exact (cf x0).2.2)
  have HZ:Hid (c3=leftK usB p x0 0∧c4=leftK usE p x0 0):=⟨by rw [fg,hc3],by rw [fg,hc4]⟩
  obtain ⟨w1',w2'⟩:=eL hQ s x0 hm0 hst
  obtain ⟨o1,o2⟩:=hQ.ow x0 hm0
  have HALL:Hid (leftK usB p x0 N=owV oB p s∧leftK usE p x0 N=owV oE p s):=by
   have h1:=hQ.leftAll hm0
   rw [←hN] at h1
   refine ⟨?_,?_⟩
   ·rw [h1.1,←o1];exact w2'.1
   ·rw [h1.2,←o2];exact w2'.2
  have HLB:Hid (∀k,(0≤leftK usB p x0 k∧leftK usB p x0 k≤1000000)∧0≤leftK usE p x0 k∧leftK usE p x0 k≤1000000):=fun k=>⟨hQ.leftB hm0 k,hQ.leftE hm0 k⟩
  have HUS:Hid (∀x∈p,(0≤usB x∧usB x≤1000000)∧0≤usE x∧usE x≤1000000):=hQ.use
  have HKI:Hid (∀y∈p,isKid y x0.1=(!decide (y.1=[])&&decide (tx y.1.dropLast=s))):=fun y hy=>by rw [isKid_tx (hQ.tr.ok.ok y hy) ok0,hst]
  obtain ⟨a9,ha9⟩:∃z,z=owV oB p s:=⟨_,rfl⟩
  obtain ⟨b9,hb9⟩:∃z,z=owV oE p s:=⟨_,rfl⟩
  rw [←ha9,←hb9] at HALL ⊢
  rw [g1]
  have HRW:Hid (Row w rb [.slice (some ⟨b,0,none⟩) N cap] 71):=HROW
  clear hz1 g1 g2 g3 h hQ hpl hrow hcell hN hm0 hst ok0 hc3 hc4 w1' w2' o1 o2 ha9 hb9 hx0
  go_enter Tryz.func21,Tryz.ntmps21
  go_wp2_with (first
   | (go_at_call 40;refine (HAT.out _ hm.below).mono ?_;rintro e w' ⟨he,hb⟩;subst he;replace hm:=hm.call hb;clear hb))
  refine am ?_
  refine ag (T:=fun W=>Mem w [] W []) (by kernel_rfl) hm ?_
  intro wc hbw hmw
  clear hm
  have hm:=hmw
  clear hbw hmw
  refine aT 0 (v:=.pointer (some ⟨rb,0,none⟩)) rfl (by kernel_rfl) rfl (fun W _=>by go_simp) hm ?_
  go_simp
  refine aT 1 (v:=.pointer (some ⟨rb,0,none⟩)) rfl (by kernel_rfl) rfl (fun W _=>by go_simp) hm ?_
  go_simp
  refine aT 2 (v:=.pointer (some ⟨rb,0,none⟩)) rfl (by kernel_rfl) rfl (fun W _=>by go_simp) hm ?_
  go_simp
  refine aT 3 (v:=.slice (some ⟨b,0,none⟩) N cap) rfl (by kernel_rfl) rfl (fun W hW=>ad 0 (.slice (some ⟨b,0,none⟩) N cap) (Row.bel HRW.out hW.below) rfl ak rfl) hm ?_
  go_simp
  refine aT 4 (v:=.int .i64 (i0:Int)) rfl (by kernel_rfl) rfl (fun W _=>by go_simp) hm ?_
  go_simp
  refine aT 5 (v:=.pointer (some ⟨b,i0 * 5,none⟩)) rfl (by kernel_rfl) rfl (fun W _=>ap 5 i0 ay ao rfl rfl rfl hlt0) hm ?_
  go_simp
  refine aT 6 (v:=.pointer (some ⟨b,i0 * 5+3,none⟩)) rfl (by kernel_rfl) rfl (fun W _=>by go_simp) hm ?_
  go_simp
  refine aT 7 (v:=.int .i64 c3) rfl (by kernel_rfl) rfl (fun W hW=>ar (.int .i64 c3) ((hW.below.cell (p:=⟨b,i0 * 5+3,none⟩) HC3.out.1).trans HC3.out.2) rfl ah) hm ?_
  go_simp
  refine aT 8 (v:=.pointer (some ⟨rb,0,none⟩)) rfl (by kernel_rfl) rfl (fun W _=>by go_simp) hm ?_
  go_simp
  refine aT 9 (v:=.pointer (some ⟨rb,0,none⟩)) rfl (by kernel_rfl) rfl (fun W _=>by go_simp) hm ?_
  go_simp
  refine aT 10 (v:=.pointer (some ⟨rb,0,none⟩)) rfl (by kernel_rfl) rfl (fun W _=>by go_simp) hm ?_
  go_simp
  refine aT 11 (v:=.slice (some ⟨b,0,none⟩) N cap) rfl (by kernel_rfl) rfl (fun W hW=>ad 0 (.slice (some ⟨b,0,none⟩) N cap) (Row.bel HRW.out hW.below) rfl ak rfl) hm ?_
  go_simp
  refine aT 12 (v:=.int .i64 (i0:Int)) rfl (by kernel_rfl) rfl (fun W _=>by go_simp) hm ?_
  go_simp
  refine aT 13 (v:=.pointer (some ⟨b,i0 * 5,none⟩)) rfl (by kernel_rfl) rfl (fun W _=>ap 5 i0 ay ao rfl rfl rfl hlt0) hm ?_
  go_simp
  refine aT 14 (v:=.pointer (some ⟨b,i0 * 5+4,none⟩)) rfl (by kernel_rfl) rfl (fun W _=>by go_simp) hm ?_
  go_simp
  refine aT 15 (v:=.int .i64 c4) rfl (by kernel_rfl) rfl (fun W hW=>ar (.int .i64 c4) ((hW.below.cell (p:=⟨b,i0 * 5+4,none⟩) HC4.out.1).trans HC4.out.2) rfl ah) hm ?_
  go_simp
  refine aT 16 (v:=.int .i64 c3) rfl (by kernel_rfl) rfl (fun W _=>by go_simp) hm ?_
  go_simp
  refine aT 17 (v:=.int .i64 c4) rfl (by kernel_rfl) rfl (fun W _=>by go_simp) hm ?_
  go_simp
  refine wpAnyH_done (by kernel_rfl) ?_ _
  simp only [endsIn]
  go_wp2_with fail
  have HB0:Hid (Below w.heap.size w _):=hm.below
  clear hm HAT HRW
  go_loopw [10,8,9] (fun vk vb ve wr=>∃k:Nat,k≤N∧vk=.int .i64 (k:Int)∧∃l1 l2:Int,vb=.int .i64 l1∧ve=.int .i64 l2∧Hid (l1=leftK usB p x0 k∧l2=leftK usE p x0 k)∧Hid (Below w.heap.size w wr)) (fun vk _ _ _=>match vk with | .int _ q=>N - q.toNat|_=>0)
  case atStart=>exact ⟨0,by omega,rfl,c3,c4,rfl,rfl,HZ,HB0⟩
  case round =>
   clear HB0
   obtain ⟨k,hk,rfl,l1,l2,rfl,rfl,HL,HB⟩:=hrel
   have hb1:=HLB.out k
   rw [←HL.out.1,←HL.out.2] at hb1
   by_cases hlt:k<N
   ·have hki:(k:Int)<(N:Int):=by omega
    have hw:IntKind.i64.wrap ((k:Int)+1)=(k:Int)+1:=bO _ (by omega) (by omega)
    obtain ⟨x,hx⟩:∃x,p[k]?=some x:=⟨p[k]'(by have:=HNP.out;omega),by simp [show k<p.length by have:=HNP.out;omega]⟩
    have HX:Hid (p[k]?=some x):=hx
    obtain ⟨y,hy⟩:∃y,y=tx x.1:=⟨_,rfl⟩
    have HYT:Hid (y=tx x.1):=hy
    have HY:Hid (wr.cell? ⟨b,k * 5,none⟩=some (.string y)):=by
     have h1:=HCELL.out k x hx 0 (.string y) (by rw [hy];rfl)
     exact (HB.out.cell (p:=⟨b,k * 5,none⟩) h1.1).trans h1.2
    have HRW:Hid (Row wr rb [.slice (some ⟨b,0,none⟩) N cap] 71):=Row.bel HROW.out HB.out
    have hxm:x∈p:=List.mem_of_getElem? hx
    obtain ⟨u3,hu3⟩:∃z,z=usB x:=⟨_,rfl⟩
    obtain ⟨u4,hu4⟩:∃z,z=usE x:=⟨_,rfl⟩
    have hub:=HUS.out x hxm
    rw [←hu3,←hu4] at hub
    have HU3:Hid (b<wr.heap.size∧wr.cell? ⟨b,k * 5+3,none⟩=some (.int .i64 u3)):=by
     have h1:=HCELL.out k x hx 3 (.int .i64 u3) (by rw [hu3];exact (cf x).2.1)
     exact ⟨Nat.lt_of_lt_of_le h1.1 HB.out.size,(HB.out.cell (p:=⟨b,k * 5+3,none⟩) h1.1).trans h1.2⟩
    have HU4:Hid (b<wr.heap.size∧wr.cell? ⟨b,k * 5+4,none⟩=some (.int .i64 u4)):=by
     have h1:=HCELL.out k x hx 4 (.int .i64 u4) (by rw [hu4];exact (cf x).2.2)
     exact ⟨Nat.lt_of_lt_of_le h1.1 HB.out.size,(HB.out.cell (p:=⟨b,k * 5+4,none⟩) h1.1).trans h1.2⟩
    obtain ⟨n1,hn1⟩:∃z,z=l1 - u3:=⟨_,rfl⟩
    obtain ⟨n2,hn2⟩:∃z,z=l2 - u4:=⟨_,rfl⟩
    have hw1:IntKind.i64.wrap (l1 - u3)=n1:=(bt _ (by omega) (by omega)).trans hn1.symm
    have hw2:IntKind.i64.wrap (l2 - u4)=n2:=(bt _ (by omega) (by omega)).trans hn2.symm
    obtain ⟨d,hd⟩:∃z,z=tx x.1.dropLast:=⟨_,rfl⟩
    obtain ⟨q,hq⟩:∃z,z = !decide (x.1=[]):=⟨_,rfl⟩
    have HPA:Hid (Calls Tryz.prog 39 #[.string y] wr fun e w'=>e=.returned (.tuple #[.string d,.bool q])∧Below wr.heap.size wr w'):=by
     rw [hy,hd,hq];exact HPAR.out x hxm wr
    have hkid:isKid x x0.1=(q&&decide (d=s)):=by rw [hq,hd];exact HKI.out x hxm
    have hm:=Mem.start wr
    cases q with
    | false =>
     have HNX:Hid (l1=leftK usB p x0 (k+1)∧l2=leftK usE p x0 (k+1)):=by
      have h1:isKid x x0.1=false:=by rw [hkid,Bool.false_and]
      rw [dL hx h1,dL hx h1];exact HL.out
     clear hx hy hu3 hu4 hn1 hn2 hw1 hw2 hd hq hkid hxm hub HU3 HU4
     go_wp2_with (first
      | ((with_reducible refine ab (some 38) (.load 46 (.tmp 37)) ?_);go_must (refine aa (.slice (some ⟨b,0,none⟩) N cap) rfl (ad 0 (.slice (some ⟨b,0,none⟩) N cap) HRW.out rfl ak rfl) ?_))
      | ((with_reducible refine ab (some 47) (.load 46 (.tmp 46)) ?_);go_must (refine aa (.slice (some ⟨b,0,none⟩) N cap) rfl (ad 0 (.slice (some ⟨b,0,none⟩) N cap) HRW.out rfl ak rfl) ?_))
      | ((with_reducible refine ab (some 49) (.indexAddr 46 (.tmp 47) (.tmp 48)) ?_);go_must (refine aa (.pointer (some ⟨b,k * 5,none⟩)) rfl (ap 5 k ay ao rfl rfl rfl hlt) ?_))
      | ((with_reducible refine ab (some 51) (.load 9 (.tmp 50)) ?_);go_must (refine aa (.string y) rfl (ar (.string y) HY.out rfl aj) ?_))
      | (go_at_call 39;refine (HPA.out).mono ?_;rintro e w' ⟨he,hb⟩;subst he;replace hm:=hm.call hb;clear hb))
     go_roundw
     case rel=>exact ⟨k+1,by omega,by go_num,l1,l2,rfl,rfl,HNX,HB.out.trans (hm.below.mono HB.out.size)⟩
     case measure=>show N - ((k:Int)+1).toNat<N - (k:Int).toNat;omega
    | true =>
     by_cases hds:d=s
     ·have HE:Hid ((d==s)=true):=by rw [hds];exact ci s
      have HNX:Hid (n1=leftK usB p x0 (k+1)∧n2=leftK usE p x0 (k+1)):=by
       have h1:isKid x x0.1=true:=by rw [hkid,decide_eq_true hds];rfl
       rw [left_kid hx h1,left_kid hx h1,←HL.out.1,←HL.out.2,←hu3,←hu4];exact ⟨hn1,hn2⟩
      clear hx hy hu3 hu4 hn1 hn2 hd hq hkid hxm hub hds
      go_wp2_with (first
       | ((with_reducible refine ab (some 38) (.load 46 (.tmp 37)) ?_);go_must (refine aa (.slice (some ⟨b,0,none⟩) N cap) rfl (ad 0 (.slice (some ⟨b,0,none⟩) N cap) HRW.out rfl ak rfl) ?_))
       | ((with_reducible refine ab (some 47) (.load 46 (.tmp 46)) ?_);go_must (refine aa (.slice (some ⟨b,0,none⟩) N cap) rfl (ad 0 (.slice (some ⟨b,0,none⟩) N cap) HRW.out rfl ak rfl) ?_))
       | ((with_reducible refine ab (some 49) (.indexAddr 46 (.tmp 47) (.tmp 48)) ?_);go_must (refine aa (.pointer (some ⟨b,k * 5,none⟩)) rfl (ap 5 k ay ao rfl rfl rfl hlt) ?_))
       | ((with_reducible refine ab (some 51) (.load 9 (.tmp 50)) ?_);go_must (refine aa (.string y) rfl (ar (.string y) HY.out rfl aj) ?_))
       | (go_at_call 39;refine (HPA.out).mono ?_;rintro e w' ⟨he,hb⟩;subst he;replace hm:=hm.call hb;clear hb)
       | ((with_reducible refine ax (some 59) (.binOp .eql 9 (.tmp 57) (.tmp 58) 9) (some (1,true)) ?_);go_must (refine aa (.bool true) rfl (aM d s true rfl rfl HE.out) ?_)))
      refine am ?_
      refine ag (T:=fun W=>Mem wr [] W []) (by kernel_rfl) hm ?_
      intro wc hbw hmw
      clear hm
      have hm:=hmw
      clear hbw hmw
      refine aT 0 (v:=.int .i64 l1) rfl (by kernel_rfl) rfl (fun W _=>by go_simp) hm ?_
      go_simp
      refine aT 1 (v:=.pointer (some ⟨rb,0,none⟩)) rfl (by kernel_rfl) rfl (fun W _=>by go_simp) hm ?_
      go_simp
      refine aT 2 (v:=.pointer (some ⟨rb,0,none⟩)) rfl (by kernel_rfl) rfl (fun W _=>by go_simp) hm ?_
      go_simp
      refine aT 3 (v:=.pointer (some ⟨rb,0,none⟩)) rfl (by kernel_rfl) rfl (fun W _=>by go_simp) hm ?_
      go_simp
      refine aT 4 (v:=.slice (some ⟨b,0,none⟩) N cap) rfl (by kernel_rfl) rfl (fun W hW=>ad 0 (.slice (some ⟨b,0,none⟩) N cap) (Row.bel HRW.out hW.below) rfl ak rfl) hm ?_
      go_simp
      refine aT 5 (v:=.int .i64 (k:Int)) rfl (by kernel_rfl) rfl (fun W _=>by go_simp) hm ?_
      go_simp
      refine aT 6 (v:=.pointer (some ⟨b,k * 5,none⟩)) rfl (by kernel_rfl) rfl (fun W _=>ap 5 k ay ao rfl rfl rfl hlt) hm ?_
      go_simp
      refine aT 7 (v:=.pointer (some ⟨b,k * 5+3,none⟩)) rfl (by kernel_rfl) rfl (fun W _=>by go_simp) hm ?_
      go_simp
      refine aT 8 (v:=.int .i64 u3) rfl (by kernel_rfl) rfl (fun W hW=>ar (.int .i64 u3) ((hW.below.cell (p:=⟨b,k * 5+3,none⟩) HU3.out.1).trans HU3.out.2) rfl ah) hm ?_
      go_simp
      refine aT 9 (v:=.int .i64 n1) rfl (by kernel_rfl) rfl (fun W _=>by go_simp<;>exact hw1) hm ?_
      go_simp
      refine aT 10 (v:=.int .i64 l2) rfl (by kernel_rfl) rfl (fun W _=>by go_simp) hm ?_
      go_simp
      refine aT 11 (v:=.pointer (some ⟨rb,0,none⟩)) rfl (by kernel_rfl) rfl (fun W _=>by go_simp) hm ?_
      go_simp
      refine aT 12 (v:=.pointer (some ⟨rb,0,none⟩)) rfl (by kernel_rfl) rfl (fun W _=>by go_simp) hm ?_
      go_simp
      refine aT 13 (v:=.pointer (some ⟨rb,0,none⟩)) rfl (by kernel_rfl) rfl (fun W _=>by go_simp) hm ?_
      go_simp
      refine aT 14 (v:=.slice (some ⟨b,0,none⟩) N cap) rfl (by kernel_rfl) rfl (fun W hW=>ad 0 (.slice (some ⟨b,0,none⟩) N cap) (Row.bel HRW.out hW.below) rfl ak rfl) hm ?_
      go_simp
      refine aT 15 (v:=.int .i64 (k:Int)) rfl (by kernel_rfl) rfl (fun W _=>by go_simp) hm ?_
      go_simp
      refine aT 16 (v:=.pointer (some ⟨b,k * 5,none⟩)) rfl (by kernel_rfl) rfl (fun W _=>ap 5 k ay ao rfl rfl rfl hlt) hm ?_
      go_simp
      refine aT 17 (v:=.pointer (some ⟨b,k * 5+4,none⟩)) rfl (by kernel_rfl) rfl (fun W _=>by go_simp) hm ?_
      go_simp
      refine aT 18 (v:=.int .i64 u4) rfl (by kernel_rfl) rfl (fun W hW=>ar (.int .i64 u4) ((hW.below.cell (p:=⟨b,k * 5+4,none⟩) HU4.out.1).trans HU4.out.2) rfl ah) hm ?_
      go_simp
      refine aT 19 (v:=.int .i64 n2) rfl (by kernel_rfl) rfl (fun W _=>by go_simp<;>exact hw2) hm ?_
      go_simp
      refine aT 20 (v:=.int .i64 n1) rfl (by kernel_rfl) rfl (fun W _=>by go_simp) hm ?_
      go_simp
      refine aT 21 (v:=.int .i64 n2) rfl (by kernel_rfl) rfl (fun W _=>by go_simp) hm ?_
      go_simp
      refine wpAnyH_done (by kernel_rfl) ?_ _
      simp only [endsIn]
      go_wp2_with fail
      go_roundw
      case rel=>exact ⟨k+1,by omega,by go_num,n1,n2,rfl,rfl,HNX,HB.out.trans (hm.below.mono HB.out.size)⟩
      case measure=>show N - ((k:Int)+1).toNat<N - (k:Int).toNat;omega
     ·have HE:Hid ((d==s)=false):=cv hds
      have HNX:Hid (l1=leftK usB p x0 (k+1)∧l2=leftK usE p x0 (k+1)):=by
       have h1:isKid x x0.1=false:=by rw [hkid,decide_eq_false hds];rfl
       rw [dL hx h1,dL hx h1];exact HL.out
      clear hx hy hu3 hu4 hn1 hn2 hw1 hw2 hd hq hkid hxm hub HU3 HU4 hds
      go_wp2_with (first
       | ((with_reducible refine ab (some 38) (.load 46 (.tmp 37)) ?_);go_must (refine aa (.slice (some ⟨b,0,none⟩) N cap) rfl (ad 0 (.slice (some ⟨b,0,none⟩) N cap) HRW.out rfl ak rfl) ?_))
       | ((with_reducible refine ab (some 47) (.load 46 (.tmp 46)) ?_);go_must (refine aa (.slice (some ⟨b,0,none⟩) N cap) rfl (ad 0 (.slice (some ⟨b,0,none⟩) N cap) HRW.out rfl ak rfl) ?_))
       | ((with_reducible refine ab (some 49) (.indexAddr 46 (.tmp 47) (.tmp 48)) ?_);go_must (refine aa (.pointer (some ⟨b,k * 5,none⟩)) rfl (ap 5 k ay ao rfl rfl rfl hlt) ?_))
       | ((with_reducible refine ab (some 51) (.load 9 (.tmp 50)) ?_);go_must (refine aa (.string y) rfl (ar (.string y) HY.out rfl aj) ?_))
       | (go_at_call 39;refine (HPA.out).mono ?_;rintro e w' ⟨he,hb⟩;subst he;replace hm:=hm.call hb;clear hb)
       | ((with_reducible refine ax (some 59) (.binOp .eql 9 (.tmp 57) (.tmp 58) 9) (some (1,true)) ?_);go_must (refine aa (.bool false) rfl (aM d s false rfl rfl HE.out) ?_)))
      go_roundw
      case rel=>exact ⟨k+1,by omega,by go_num,l1,l2,rfl,rfl,HNX,HB.out.trans (hm.below.mono HB.out.size)⟩
      case measure=>show N - ((k:Int)+1).toNat<N - (k:Int).toNat;omega
   ·have hin:k=N:=by omega
    have hki:¬(k:Int)<(N:Int):=by omega
    have HRW:Hid (Row wr rb [.slice (some ⟨b,0,none⟩) N cap] 71):=Row.bel HROW.out HB.out
    have e1:l1=a9:=by rw [HL.out.1,hin];exact HALL.out.1
    have e2:l2=b9:=by rw [HL.out.2,hin];exact HALL.out.2
    subst e1 e2
    clear hin
    go_wp2_with (first
     | ((with_reducible refine ab (some 38) (.load 46 (.tmp 37)) ?_);go_must (refine aa (.slice (some ⟨b,0,none⟩) N cap) rfl (ad 0 (.slice (some ⟨b,0,none⟩) N cap) HRW.out rfl ak rfl) ?_)))
    go_ret3
    exact ⟨rfl,HB.out⟩
open Go Go.RowKit Go.Maps
theorem spv_five (x:Sp):∃(y:ByteArray) (a1 a2 a3 a4:Int),spv x=[.string y,.int .i64 a1,.int .i64 a2,.int .i64 a3,.int .i64 a4]∧y=tx x.1∧a1=lmB x∧a2=lmE x∧a3=usB x∧a4=usE x:=⟨_,_,_,_,_,rfl,rfl,rfl,rfl,rfl,rfl⟩
theorem bX (y0:ByteArray) (a1 a2 a3 a4:Int):∀v∈[Value.string y0,.int .i64 a1,.int .i64 a2,.int .i64 a3,.int .i64 a4],v.oneCell'=true:=by
 intro v hv
 simp at hv
 rcases hv with rfl|rfl|rfl|rfl|rfl<;>rfl
theorem over_is (dx dy:Int) (x:Sp):overS dx dy x=((decide (0<dx)&&decide (lmB x<usB x+dx))||(decide (0<dy)&&decide (lmE x<usE x+dy))):=rfl
theorem canR_n {w:World} {B rb:Nat} {p:Nms} {oB oE:List ByteArray→Int} (h:RfAt B w rb p) (hQ:QtOk p oB oE) (hpl:p.length≤80000) (s:ByteArray) (hs:s.size≤1000) (b0 e0 r:Int) (hr:r=canE p oB oE s b0 e0) :
  Calls Tryz.prog 11 #[.pointer (some ⟨rb,0,none⟩),.string s,.int .i64 b0,.int .i64 e0] w fun e_ w'=>e_=.returned (.int .i64 r)∧Below w.heap.size w w':=by
 have HR:Hid (RfAt B w rb p):=h
 have HOK:Hid (NmOk p):=hQ.tr.ok
 have HUS:Hid (∀x∈p,(0≤usB x∧usB x≤1000000)∧0≤usE x∧usE x≤1000000):=hQ.use
 have HSZ:Hid (s.size≤1000):=hs
 obtain ⟨N,hN⟩:∃N,N=p.length:=⟨_,rfl⟩
 have HNP:Hid (N=p.length):=hN
 have hN9:N≤90000:=by omega
 obtain ⟨b,cap,hrow,hcap,hcell⟩:=h.cells
 rw [←hN] at hrow hcap
 have HROW:Hid (Row w rb [.slice (some ⟨b,0,none⟩) N cap] 71):=hrow
 have HCELL:Hid (∀i x,p[i]?=some x→∀j u,(spv x)[j]?=some u→b<w.heap.size∧w.cell? ⟨b,i * 5+j,none⟩=some u):=hcell
 obtain ⟨dx,hdx⟩:∃z,z=heldC b0:=⟨_,rfl⟩
 obtain ⟨dy,hdy⟩:∃z,z=heldC e0:=⟨_,rfl⟩
 have hbx:=bT b0
 have hby:=bT e0
 rw [←hdx] at hbx
 rw [←hdy] at hby
 have HDX:Hid (dx=heldC b0):=hdx
 have HDY:Hid (dy=heldC e0):=hdy
 obtain ⟨oa,hoa⟩:∃z,z=owV oB p s:=⟨_,rfl⟩
 obtain ⟨ob,hob⟩:∃z,z=owV oE p s:=⟨_,rfl⟩
 obtain ⟨g,hg⟩:∃z,z=getB p s:=⟨_,rfl⟩
 have hab:=owV_bd hQ s
 rw [←hoa,←hob] at hab
 have HOW:Hid (∀W,Below w.heap.size w W→Calls Tryz.prog 21 #[.pointer (some ⟨rb,0,none⟩),.string s] W fun e w'=>e=.returned (.tuple #[.int .i64 oa,.int .i64 ob,.bool g])∧Below W.heap.size W w'):=fun W hW=>by rw [hoa,hob,hg];exact ownR_n (HR.out.below hW) hQ hpl s
 obtain ⟨u,hu⟩:∃z,z=oa+dx:=⟨_,rfl⟩
 obtain ⟨v,hv⟩:∃z,z=ob+dy:=⟨_,rfl⟩
 have hwu:IntKind.i64.wrap (oa+dx)=u:=(bt _ (by omega) (by omega)).trans hu.symm
 have hwv:IntKind.i64.wrap (ob+dy)=v:=(bt _ (by omega) (by omega)).trans hv.symm
 have HRE:Hid (∀_:Unit,r=if g=false then 100 else if u<0 then 12 else if v<0 then 12 else if beyK (segsB s) dx dy p=true then 170 else 0):=fun _=>by
  rw [hr]
  by_cases h1:g=false
  ·unfold canE
   rw [if_pos h1,if_pos (by rw [←hg];exact h1)]
  ·have h2:getB p s=true:=by rw [←hg];simpa using h1
   have e1:oa=oB (segsB s):=by rw [hoa];unfold owV;rw [if_pos h2]
   have e2:ob=oE (segsB s):=by rw [hob];unfold owV;rw [if_pos h2]
   rw [if_neg h1,canE_is h2,hu,hv,e1,e2,hdx,hdy]
 have HKS:Hid (g=true→isP (bs s)=true):=fun h1=>by
  rw [hg] at h1
  unfold getB at h1
  rw [Bool.and_eq_true] at h1
  exact h1.1
 have hm:=Mem.start w
 have tk1:Nat:=0
 clear h hQ hpl hrow hcell hN hr hdx hdy hoa hob hg hu hv hs hab
 cases g with
 | false =>
  have e1:r=100:=by rw [HRE.out ()];rfl
  subst e1
  clear HRE HKS
  go_enter Tryz.func11,Tryz.ntmps11
  go_wp2_with (first
   | (clear tk1;go_at_call 31;refine (bR b0 dx HDX.out _).mono ?_;rintro e w' ⟨he,hb⟩;subst he;replace hm:=hm.call hb;clear hb)
   | (go_at_call 31;refine (bR e0 dy HDY.out _).mono ?_;rintro e w' ⟨he,hb⟩;subst he;replace hm:=hm.call hb;clear hb)
   | (go_at_call 21;refine (HOW.out _ hm.below).mono ?_;rintro e w' ⟨he,hb⟩;subst he;replace hm:=hm.call hb;clear hb))
  go_ret
  exact ⟨rfl,hm.below⟩
 | true =>
  by_cases h1:u<0
  ·have e1:r=12:=by rw [HRE.out (),if_neg (by simp),if_pos h1]
   subst e1
   clear HRE HKS
   go_enter Tryz.func11,Tryz.ntmps11
   go_wp2_with (first
    | (clear tk1;go_at_call 31;refine (bR b0 dx HDX.out _).mono ?_;rintro e w' ⟨he,hb⟩;subst he;replace hm:=hm.call hb;clear hb)
    | (go_at_call 31;refine (bR e0 dy HDY.out _).mono ?_;rintro e w' ⟨he,hb⟩;subst he;replace hm:=hm.call hb;clear hb)
    | (go_at_call 21;refine (HOW.out _ hm.below).mono ?_;rintro e w' ⟨he,hb⟩;subst he;replace hm:=hm.call hb;clear hb))
   go_ret
   exact ⟨rfl,hm.below⟩
  ·by_cases h2:v<0
   ·have e1:r=12:=by rw [HRE.out (),if_neg (by simp),if_neg h1,if_pos h2]
    subst e1
    clear HRE HKS
    go_enter Tryz.func11,Tryz.ntmps11
    go_wp2_with (first
     | (clear tk1;go_at_call 31;refine (bR b0 dx HDX.out _).mono ?_;rintro e w' ⟨he,hb⟩;subst he;replace hm:=hm.call hb;clear hb)
     | (go_at_call 31;refine (bR e0 dy HDY.out _).mono ?_;rintro e w' ⟨he,hb⟩;subst he;replace hm:=hm.call hb;clear hb)
     | (go_at_call 21;refine (HOW.out _ hm.below).mono ?_;rintro e w' ⟨he,hb⟩;subst he;replace hm:=hm.call hb;clear hb))
    go_ret
    exact ⟨rfl,hm.below⟩
   ·have HR1:Hid (∀_:Unit,r=if beyK (segsB s) dx dy p=true then 170 else 0):=fun _=>by rw [HRE.out (),if_neg (by simp),if_neg h1,if_neg h2]
    obtain ⟨ks,hks⟩:∃ks,ks=segsB s:=⟨_,rfl⟩
    have HPK:Hid (PlOk ks):=by rw [hks];exact aR s
    have HST:Hid (s=tx ks):=by
     have e:s=tx ks:=by rw [hks,bE (HKS.out rfl)]
     exact e
    rw [←hks] at HR1
    clear HRE HKS hks
    go_enter Tryz.func11,Tryz.ntmps11
    go_wp2_with (first
     | (clear tk1;go_at_call 31;refine (bR b0 dx HDX.out _).mono ?_;rintro e w' ⟨he,hb⟩;subst he;replace hm:=hm.call hb;clear hb)
     | (go_at_call 31;refine (bR e0 dy HDY.out _).mono ?_;rintro e w' ⟨he,hb⟩;subst he;replace hm:=hm.call hb;clear hb)
     | (go_at_call 21;refine (HOW.out _ hm.below).mono ?_;rintro e w' ⟨he,hb⟩;subst he;replace hm:=hm.call hb;clear hb))
    have HB0:Hid (Below w.heap.size w _):=hm.below
    clear hm HOW hwu hwv h1 h2
    go_loopw [14] (fun vi wr=>∃i:Nat,i≤N∧vi=.int .i64 (i:Int)∧Hid (Below w.heap.size w wr)∧Hid (∀k y,k<i→p[k]?=some y→(undB ks y.1&&overS dx dy y)=false)) (fun vi _=>match vi with | .int _ q=>N - q.toNat|_=>0)
    case atStart=>exact ⟨0,by omega,rfl,HB0,fun k _ hk=>absurd hk (Nat.not_lt_zero k)⟩
    case round =>
     clear HB0
     obtain ⟨i,hi,rfl,HB,HNO⟩:=hrel
     by_cases hlt:i<N
     ·have hki:(i:Int)<(N:Int):=by omega
      have hw:IntKind.i64.wrap ((i:Int)+1)=(i:Int)+1:=bO _ (by omega) (by omega)
      obtain ⟨x,hx⟩:∃x,p[i]?=some x:=⟨p[i]'(by have:=HNP.out;omega),by simp [show i<p.length by have:=HNP.out;omega]⟩
      have hxm:x∈p:=List.mem_of_getElem? hx
      have okx:PlOk x.1:=HOK.out.ok x hxm
      have HRW:Hid (Row wr rb [.slice (some ⟨b,0,none⟩) N cap] 71):=Row.bel HROW.out HB.out
      obtain ⟨y,a1,a2,a3,a4,hsp,hy,ha1,ha2,ha3,ha4⟩:=spv_five x
      have HC:Hid (∀j u,([Value.string y,.int .i64 a1,.int .i64 a2,.int .i64 a3,.int .i64 a4])[j]?=some u→b<wr.heap.size∧wr.cell? ⟨b,i * 5+j,none⟩=some u):=fun j u hu=>by
       rw [←hsp] at hu
       exact ⟨Nat.lt_of_lt_of_le (HCELL.out i x hx j u hu).1 HB.out.size,(HB.out.cell (p:=⟨b,i * 5+j,none⟩) (HCELL.out i x hx j u hu).1).trans (HCELL.out i x hx j u hu).2⟩
      have hub:=HUS.out x hxm
      rw [←ha3,←ha4] at hub
      obtain ⟨un,hun⟩:∃z,z=undB ks x.1:=⟨_,rfl⟩
      have HUN:Hid (∀W,Calls Tryz.prog 32 #[.string s,.string y] W fun e w'=>e=.returned (.bool un)∧Below W.heap.size W w'):=fun W=>by
       have h9:=cx s y W HSZ.out (by rw [hy];have:=aX okx;omega)
       have h8:undOf (bs s) (bs y)=un:=by rw [hy,HST.out,dg HPK.out okx,hun]
       rw [h8] at h9
       exact h9
      obtain ⟨s3,hs3⟩:∃z,z=a3+dx:=⟨_,rfl⟩
      obtain ⟨s4,hs4⟩:∃z,z=a4+dy:=⟨_,rfl⟩
      have hw3:IntKind.i64.wrap (a3+dx)=s3:=(bt _ (by omega) (by omega)).trans hs3.symm
      have hw4:IntKind.i64.wrap (a4+dy)=s4:=(bt _ (by omega) (by omega)).trans hs4.symm
      have HOV:Hid (∀_:Unit,(undB ks x.1&&overS dx dy x)=(un&&((decide (0<dx)&&decide (a1<s3))||(decide (0<dy)&&decide (a2<s4))))):=fun _=>by
       rw [←hun,over_is,ha1,ha2,hs3,hs4,ha3,ha4]
      have HNX:Hid ((undB ks x.1&&overS dx dy x)=false→∀k y,k<i+1→p[k]?=some y→(undB ks y.1&&overS dx dy y)=false):=fun h0 k z hk hz=>by
       rcases Nat.lt_or_ge k i with h1|h1
       ·exact HNO.out k z h1 hz
       ·have hk2:k=i:=by omega
        subst hk2
        rw [hx] at hz
        cases hz
        exact h0
      have HX:Hid (p[i]?=some x):=hx
      have hm:=Mem.start wr
      clear hx hxm okx hsp hy ha1 ha2 ha3 ha4 hub hun hs3 hs4
      cases un with
      | false =>
       have HN2:=HNX.out (by rw [HOV.out ()];rw [Bool.false_and])
       have HN3:Hid (∀k y,k<i+1→p[k]?=some y→(undB ks y.1&&overS dx dy y)=false):=HN2
       clear HN2
       go_wp2_with (first
        | ((with_reducible refine ab (some 43) (.load 46 (.tmp 42)) ?_);go_must (refine aa (.slice (some ⟨b,0,none⟩) N cap) rfl (ad 0 (.slice (some ⟨b,0,none⟩) N cap) HRW.out rfl ak rfl) ?_))
        | ((with_reducible refine ab (some 51) (.load 46 (.tmp 50)) ?_);go_must (refine aa (.slice (some ⟨b,0,none⟩) N cap) rfl (ad 0 (.slice (some ⟨b,0,none⟩) N cap) HRW.out rfl ak rfl) ?_))
        | ((with_reducible refine ab (some 53) (.indexAddr 46 (.tmp 51) (.tmp 52)) ?_);go_must (refine aa (.pointer (some ⟨b,i * 5,none⟩)) rfl (ap 5 i ay ao rfl rfl rfl hlt) ?_))
        | ((with_reducible refine ab (some 54) (.load 50 (.tmp 53)) ?_);go_must (refine aa (.agg ([Value.string y,.int .i64 a1,.int .i64 a2,.int .i64 a3,.int .i64 a4]).toArray) rfl (aA (i * 5) 5 ([Value.string y,.int .i64 a1,.int .i64 a2,.int .i64 a3,.int .i64 a4]) _ rfl (fun j u hu=>(hm.below.cell (p:=⟨b,i * 5+j,none⟩) (HC.out j u hu).1).trans (HC.out j u hu).2) bf rfl ao rfl) ?_))
        | ((with_reducible refine ab (some 15) (.alloc 50) ?_);refine ae _ aS hm ?_;clear hm;intro w3 g15 hm)
        | ((with_reducible refine ab none (.store 50 (.tmp 15) (.tmp 54)) ?_);refine af 0 ([Value.string y,.int .i64 a1,.int .i64 a2,.int .i64 a3,.int .i64 a4]) hm rfl rfl rfl 5 ao rfl rfl (bX _ _ _ _ _) ?_;clear hm;intro w4 hm)
        | ((with_reducible refine ab (some 57) (.load 9 (.tmp 56)) ?_);refine aw 0 0 (.string y) hm rfl rfl aj (rfl) ?_)
        | (go_at_call 32;refine (HUN.out _).mono ?_;rintro e w' ⟨he,hb⟩;subst he;replace hm:=hm.call hb;clear hb))
       go_roundw
       case rel=>exact ⟨i+1,by omega,by go_num,HB.out.trans (hm.below.mono HB.out.size),HN3⟩
       case measure=>show N - ((i:Int)+1).toNat<N - (i:Int).toNat;omega
      | true =>
       by_cases c1:0<dx
       ·by_cases c2:a1<s3
        ·skip
         have e1:r=170:=by rw [HR1.out (),if_pos (bey_yes HX.out (by rw [HOV.out ()];rw [decide_eq_true c1,decide_eq_true c2];rfl))]
         subst e1
         go_wp2_with (first
          | ((with_reducible refine ab (some 43) (.load 46 (.tmp 42)) ?_);go_must (refine aa (.slice (some ⟨b,0,none⟩) N cap) rfl (ad 0 (.slice (some ⟨b,0,none⟩) N cap) HRW.out rfl ak rfl) ?_))
          | ((with_reducible refine ab (some 51) (.load 46 (.tmp 50)) ?_);go_must (refine aa (.slice (some ⟨b,0,none⟩) N cap) rfl (ad 0 (.slice (some ⟨b,0,none⟩) N cap) HRW.out rfl ak rfl) ?_))
          | ((with_reducible refine ab (some 53) (.indexAddr 46 (.tmp 51) (.tmp 52)) ?_);go_must (refine aa (.pointer (some ⟨b,i * 5,none⟩)) rfl (ap 5 i ay ao rfl rfl rfl hlt) ?_))
          | ((with_reducible refine ab (some 54) (.load 50 (.tmp 53)) ?_);go_must (refine aa (.agg ([Value.string y,.int .i64 a1,.int .i64 a2,.int .i64 a3,.int .i64 a4]).toArray) rfl (aA (i * 5) 5 ([Value.string y,.int .i64 a1,.int .i64 a2,.int .i64 a3,.int .i64 a4]) _ rfl (fun j u hu=>(hm.below.cell (p:=⟨b,i * 5+j,none⟩) (HC.out j u hu).1).trans (HC.out j u hu).2) bf rfl ao rfl) ?_))
          | ((with_reducible refine ab (some 15) (.alloc 50) ?_);refine ae _ aS hm ?_;clear hm;intro w3 g15 hm)
          | ((with_reducible refine ab none (.store 50 (.tmp 15) (.tmp 54)) ?_);refine af 0 ([Value.string y,.int .i64 a1,.int .i64 a2,.int .i64 a3,.int .i64 a4]) hm rfl rfl rfl 5 ao rfl rfl (bX _ _ _ _ _) ?_;clear hm;intro w4 hm)
          | ((with_reducible refine ab (some 57) (.load 9 (.tmp 56)) ?_);refine aw 0 0 (.string y) hm rfl rfl aj (rfl) ?_)
          | (go_at_call 32;refine (HUN.out _).mono ?_;rintro e w' ⟨he,hb⟩;subst he;replace hm:=hm.call hb;clear hb)
          | ((with_reducible refine ax (some 64) (.load 3 (.tmp 63)) (some (7,true)) ?_);go_must (refine aa (.int .i64 a3) rfl (ad 3 (.int .i64 a3) (hm.get 0 rfl) rfl ah rfl) ?_))
          | ((with_reducible refine ax (some 68) (.load 3 (.tmp 67)) (some (7,true)) ?_);go_must (refine aa (.int .i64 a1) rfl (ad 1 (.int .i64 a1) (hm.get 0 rfl) rfl ah rfl) ?_)))
         go_ret
         exact ⟨rfl,HB.out.trans (hm.below.mono HB.out.size)⟩
        ·skip
         by_cases c3:0<dy
         ·by_cases c4:a2<s4
          ·skip
           have e1:r=170:=by rw [HR1.out (),if_pos (bey_yes HX.out (by rw [HOV.out ()];rw [decide_eq_true c1,decide_eq_false c2,decide_eq_true c3,decide_eq_true c4];rfl))]
           subst e1
           go_wp2_with (first
            | ((with_reducible refine ab (some 43) (.load 46 (.tmp 42)) ?_);go_must (refine aa (.slice (some ⟨b,0,none⟩) N cap) rfl (ad 0 (.slice (some ⟨b,0,none⟩) N cap) HRW.out rfl ak rfl) ?_))
            | ((with_reducible refine ab (some 51) (.load 46 (.tmp 50)) ?_);go_must (refine aa (.slice (some ⟨b,0,none⟩) N cap) rfl (ad 0 (.slice (some ⟨b,0,none⟩) N cap) HRW.out rfl ak rfl) ?_))
            | ((with_reducible refine ab (some 53) (.indexAddr 46 (.tmp 51) (.tmp 52)) ?_);go_must (refine aa (.pointer (some ⟨b,i * 5,none⟩)) rfl (ap 5 i ay ao rfl rfl rfl hlt) ?_))
            | ((with_reducible refine ab (some 54) (.load 50 (.tmp 53)) ?_);go_must (refine aa (.agg ([Value.string y,.int .i64 a1,.int .i64 a2,.int .i64 a3,.int .i64 a4]).toArray) rfl (aA (i * 5) 5 ([Value.string y,.int .i64 a1,.int .i64 a2,.int .i64 a3,.int .i64 a4]) _ rfl (fun j u hu=>(hm.below.cell (p:=⟨b,i * 5+j,none⟩) (HC.out j u hu).1).trans (HC.out j u hu).2) bf rfl ao rfl) ?_))
            | ((with_reducible refine ab (some 15) (.alloc 50) ?_);refine ae _ aS hm ?_;clear hm;intro w3 g15 hm)
            | ((with_reducible refine ab none (.store 50 (.tmp 15) (.tmp 54)) ?_);refine af 0 ([Value.string y,.int .i64 a1,.int .i64 a2,.int .i64 a3,.int .i64 a4]) hm rfl rfl rfl 5 ao rfl rfl (bX _ _ _ _ _) ?_;clear hm;intro w4 hm)
            | ((with_reducible refine ab (some 57) (.load 9 (.tmp 56)) ?_);refine aw 0 0 (.string y) hm rfl rfl aj (rfl) ?_)
            | (go_at_call 32;refine (HUN.out _).mono ?_;rintro e w' ⟨he,hb⟩;subst he;replace hm:=hm.call hb;clear hb)
            | ((with_reducible refine ax (some 64) (.load 3 (.tmp 63)) (some (7,true)) ?_);go_must (refine aa (.int .i64 a3) rfl (ad 3 (.int .i64 a3) (hm.get 0 rfl) rfl ah rfl) ?_))
            | ((with_reducible refine ax (some 68) (.load 3 (.tmp 67)) (some (7,true)) ?_);go_must (refine aa (.int .i64 a1) rfl (ad 1 (.int .i64 a1) (hm.get 0 rfl) rfl ah rfl) ?_))
            | ((with_reducible refine ax (some 76) (.load 3 (.tmp 75)) (some (19,true)) ?_);go_must (refine aa (.int .i64 a4) rfl (ad 4 (.int .i64 a4) (hm.get 0 rfl) rfl ah rfl) ?_))
            | ((with_reducible refine ax (some 80) (.load 3 (.tmp 79)) (some (19,true)) ?_);go_must (refine aa (.int .i64 a2) rfl (ad 2 (.int .i64 a2) (hm.get 0 rfl) rfl ah rfl) ?_)))
           go_ret
           exact ⟨rfl,HB.out.trans (hm.below.mono HB.out.size)⟩
          ·skip
           have HN2:=HNX.out (by rw [HOV.out ()];rw [decide_eq_true c1,decide_eq_false c2,decide_eq_true c3,decide_eq_false c4];rfl)
           have HN3:Hid (∀k y,k<i+1→p[k]?=some y→(undB ks y.1&&overS dx dy y)=false):=HN2
           clear HN2
           go_wp2_with (first
            | ((with_reducible refine ab (some 43) (.load 46 (.tmp 42)) ?_);go_must (refine aa (.slice (some ⟨b,0,none⟩) N cap) rfl (ad 0 (.slice (some ⟨b,0,none⟩) N cap) HRW.out rfl ak rfl) ?_))
            | ((with_reducible refine ab (some 51) (.load 46 (.tmp 50)) ?_);go_must (refine aa (.slice (some ⟨b,0,none⟩) N cap) rfl (ad 0 (.slice (some ⟨b,0,none⟩) N cap) HRW.out rfl ak rfl) ?_))
            | ((with_reducible refine ab (some 53) (.indexAddr 46 (.tmp 51) (.tmp 52)) ?_);go_must (refine aa (.pointer (some ⟨b,i * 5,none⟩)) rfl (ap 5 i ay ao rfl rfl rfl hlt) ?_))
            | ((with_reducible refine ab (some 54) (.load 50 (.tmp 53)) ?_);go_must (refine aa (.agg ([Value.string y,.int .i64 a1,.int .i64 a2,.int .i64 a3,.int .i64 a4]).toArray) rfl (aA (i * 5) 5 ([Value.string y,.int .i64 a1,.int .i64 a2,.int .i64 a3,.int .i64 a4]) _ rfl (fun j u hu=>(hm.below.cell (p:=⟨b,i * 5+j,none⟩) (HC.out j u hu).1).trans (HC.out j u hu).2) bf rfl ao rfl) ?_))
            | ((with_reducible refine ab (some 15) (.alloc 50) ?_);refine ae _ aS hm ?_;clear hm;intro w3 g15 hm)
            | ((with_reducible refine ab none (.store 50 (.tmp 15) (.tmp 54)) ?_);refine af 0 ([Value.string y,.int .i64 a1,.int .i64 a2,.int .i64 a3,.int .i64 a4]) hm rfl rfl rfl 5 ao rfl rfl (bX _ _ _ _ _) ?_;clear hm;intro w4 hm)
            | ((with_reducible refine ab (some 57) (.load 9 (.tmp 56)) ?_);refine aw 0 0 (.string y) hm rfl rfl aj (rfl) ?_)
            | (go_at_call 32;refine (HUN.out _).mono ?_;rintro e w' ⟨he,hb⟩;subst he;replace hm:=hm.call hb;clear hb)
            | ((with_reducible refine ax (some 64) (.load 3 (.tmp 63)) (some (7,true)) ?_);go_must (refine aa (.int .i64 a3) rfl (ad 3 (.int .i64 a3) (hm.get 0 rfl) rfl ah rfl) ?_))
            | ((with_reducible refine ax (some 68) (.load 3 (.tmp 67)) (some (7,true)) ?_);go_must (refine aa (.int .i64 a1) rfl (ad 1 (.int .i64 a1) (hm.get 0 rfl) rfl ah rfl) ?_))
            | ((with_reducible refine ax (some 76) (.load 3 (.tmp 75)) (some (19,true)) ?_);go_must (refine aa (.int .i64 a4) rfl (ad 4 (.int .i64 a4) (hm.get 0 rfl) rfl ah rfl) ?_))
            | ((with_reducible refine ax (some 80) (.load 3 (.tmp 79)) (some (19,true)) ?_);go_must (refine aa (.int .i64 a2) rfl (ad 2 (.int .i64 a2) (hm.get 0 rfl) rfl ah rfl) ?_)))
           go_roundw
           case rel=>exact ⟨i+1,by omega,by go_num,HB.out.trans (hm.below.mono HB.out.size),HN3⟩
           case measure=>show N - ((i:Int)+1).toNat<N - (i:Int).toNat;omega
         ·skip
          have HN2:=HNX.out (by rw [HOV.out ()];rw [decide_eq_true c1,decide_eq_false c2,decide_eq_false c3];rfl)
          have HN3:Hid (∀k y,k<i+1→p[k]?=some y→(undB ks y.1&&overS dx dy y)=false):=HN2
          clear HN2
          go_wp2_with (first
           | ((with_reducible refine ab (some 43) (.load 46 (.tmp 42)) ?_);go_must (refine aa (.slice (some ⟨b,0,none⟩) N cap) rfl (ad 0 (.slice (some ⟨b,0,none⟩) N cap) HRW.out rfl ak rfl) ?_))
           | ((with_reducible refine ab (some 51) (.load 46 (.tmp 50)) ?_);go_must (refine aa (.slice (some ⟨b,0,none⟩) N cap) rfl (ad 0 (.slice (some ⟨b,0,none⟩) N cap) HRW.out rfl ak rfl) ?_))
           | ((with_reducible refine ab (some 53) (.indexAddr 46 (.tmp 51) (.tmp 52)) ?_);go_must (refine aa (.pointer (some ⟨b,i * 5,none⟩)) rfl (ap 5 i ay ao rfl rfl rfl hlt) ?_))
           | ((with_reducible refine ab (some 54) (.load 50 (.tmp 53)) ?_);go_must (refine aa (.agg ([Value.string y,.int .i64 a1,.int .i64 a2,.int .i64 a3,.int .i64 a4]).toArray) rfl (aA (i * 5) 5 ([Value.string y,.int .i64 a1,.int .i64 a2,.int .i64 a3,.int .i64 a4]) _ rfl (fun j u hu=>(hm.below.cell (p:=⟨b,i * 5+j,none⟩) (HC.out j u hu).1).trans (HC.out j u hu).2) bf rfl ao rfl) ?_))
           | ((with_reducible refine ab (some 15) (.alloc 50) ?_);refine ae _ aS hm ?_;clear hm;intro w3 g15 hm)
           | ((with_reducible refine ab none (.store 50 (.tmp 15) (.tmp 54)) ?_);refine af 0 ([Value.string y,.int .i64 a1,.int .i64 a2,.int .i64 a3,.int .i64 a4]) hm rfl rfl rfl 5 ao rfl rfl (bX _ _ _ _ _) ?_;clear hm;intro w4 hm)
           | ((with_reducible refine ab (some 57) (.load 9 (.tmp 56)) ?_);refine aw 0 0 (.string y) hm rfl rfl aj (rfl) ?_)
           | (go_at_call 32;refine (HUN.out _).mono ?_;rintro e w' ⟨he,hb⟩;subst he;replace hm:=hm.call hb;clear hb)
           | ((with_reducible refine ax (some 64) (.load 3 (.tmp 63)) (some (7,true)) ?_);go_must (refine aa (.int .i64 a3) rfl (ad 3 (.int .i64 a3) (hm.get 0 rfl) rfl ah rfl) ?_))
           | ((with_reducible refine ax (some 68) (.load 3 (.tmp 67)) (some (7,true)) ?_);go_must (refine aa (.int .i64 a1) rfl (ad 1 (.int .i64 a1) (hm.get 0 rfl) rfl ah rfl) ?_)))
          go_roundw
          case rel=>exact ⟨i+1,by omega,by go_num,HB.out.trans (hm.below.mono HB.out.size),HN3⟩
          case measure=>show N - ((i:Int)+1).toNat<N - (i:Int).toNat;omega
       ·skip
        by_cases c3:0<dy
        ·by_cases c4:a2<s4
         ·skip
          have e1:r=170:=by rw [HR1.out (),if_pos (bey_yes HX.out (by rw [HOV.out ()];rw [decide_eq_false c1,decide_eq_true c3,decide_eq_true c4];rfl))]
          subst e1
          go_wp2_with (first
           | ((with_reducible refine ab (some 43) (.load 46 (.tmp 42)) ?_);go_must (refine aa (.slice (some ⟨b,0,none⟩) N cap) rfl (ad 0 (.slice (some ⟨b,0,none⟩) N cap) HRW.out rfl ak rfl) ?_))
           | ((with_reducible refine ab (some 51) (.load 46 (.tmp 50)) ?_);go_must (refine aa (.slice (some ⟨b,0,none⟩) N cap) rfl (ad 0 (.slice (some ⟨b,0,none⟩) N cap) HRW.out rfl ak rfl) ?_))
           | ((with_reducible refine ab (some 53) (.indexAddr 46 (.tmp 51) (.tmp 52)) ?_);go_must (refine aa (.pointer (some ⟨b,i * 5,none⟩)) rfl (ap 5 i ay ao rfl rfl rfl hlt) ?_))
           | ((with_reducible refine ab (some 54) (.load 50 (.tmp 53)) ?_);go_must (refine aa (.agg ([Value.string y,.int .i64 a1,.int .i64 a2,.int .i64 a3,.int .i64 a4]).toArray) rfl (aA (i * 5) 5 ([Value.string y,.int .i64 a1,.int .i64 a2,.int .i64 a3,.int .i64 a4]) _ rfl (fun j u hu=>(hm.below.cell (p:=⟨b,i * 5+j,none⟩) (HC.out j u hu).1).trans (HC.out j u hu).2) bf rfl ao rfl) ?_))
           | ((with_reducible refine ab (some 15) (.alloc 50) ?_);refine ae _ aS hm ?_;clear hm;intro w3 g15 hm)
           | ((with_reducible refine ab none (.store 50 (.tmp 15) (.tmp 54)) ?_);refine af 0 ([Value.string y,.int .i64 a1,.int .i64 a2,.int .i64 a3,.int .i64 a4]) hm rfl rfl rfl 5 ao rfl rfl (bX _ _ _ _ _) ?_;clear hm;intro w4 hm)
           | ((with_reducible refine ab (some 57) (.load 9 (.tmp 56)) ?_);refine aw 0 0 (.string y) hm rfl rfl aj (rfl) ?_)
           | (go_at_call 32;refine (HUN.out _).mono ?_;rintro e w' ⟨he,hb⟩;subst he;replace hm:=hm.call hb;clear hb)
           | ((with_reducible refine ax (some 76) (.load 3 (.tmp 75)) (some (19,true)) ?_);go_must (refine aa (.int .i64 a4) rfl (ad 4 (.int .i64 a4) (hm.get 0 rfl) rfl ah rfl) ?_))
           | ((with_reducible refine ax (some 80) (.load 3 (.tmp 79)) (some (19,true)) ?_);go_must (refine aa (.int .i64 a2) rfl (ad 2 (.int .i64 a2) (hm.get 0 rfl) rfl ah rfl) ?_)))
          go_ret
          exact ⟨rfl,HB.out.trans (hm.below.mono HB.out.size)⟩
         ·skip
          have HN2:=HNX.out (by rw [HOV.out ()];rw [decide_eq_false c1,decide_eq_true c3,decide_eq_false c4];rfl)
          have HN3:Hid (∀k y,k<i+1→p[k]?=some y→(undB ks y.1&&overS dx dy y)=false):=HN2
          clear HN2
          go_wp2_with (first
           | ((with_reducible refine ab (some 43) (.load 46 (.tmp 42)) ?_);go_must (refine aa (.slice (some ⟨b,0,none⟩) N cap) rfl (ad 0 (.slice (some ⟨b,0,none⟩) N cap) HRW.out rfl ak rfl) ?_))
           | ((with_reducible refine ab (some 51) (.load 46 (.tmp 50)) ?_);go_must (refine aa (.slice (some ⟨b,0,none⟩) N cap) rfl (ad 0 (.slice (some ⟨b,0,none⟩) N cap) HRW.out rfl ak rfl) ?_))
           | ((with_reducible refine ab (some 53) (.indexAddr 46 (.tmp 51) (.tmp 52)) ?_);go_must (refine aa (.pointer (some ⟨b,i * 5,none⟩)) rfl (ap 5 i ay ao rfl rfl rfl hlt) ?_))
           | ((with_reducible refine ab (some 54) (.load 50 (.tmp 53)) ?_);go_must (refine aa (.agg ([Value.string y,.int .i64 a1,.int .i64 a2,.int .i64 a3,.int .i64 a4]).toArray) rfl (aA (i * 5) 5 ([Value.string y,.int .i64 a1,.int .i64 a2,.int .i64 a3,.int .i64 a4]) _ rfl (fun j u hu=>(hm.below.cell (p:=⟨b,i * 5+j,none⟩) (HC.out j u hu).1).trans (HC.out j u hu).2) bf rfl ao rfl) ?_))
           | ((with_reducible refine ab (some 15) (.alloc 50) ?_);refine ae _ aS hm ?_;clear hm;intro w3 g15 hm)
           | ((with_reducible refine ab none (.store 50 (.tmp 15) (.tmp 54)) ?_);refine af 0 ([Value.string y,.int .i64 a1,.int .i64 a2,.int .i64 a3,.int .i64 a4]) hm rfl rfl rfl 5 ao rfl rfl (bX _ _ _ _ _) ?_;clear hm;intro w4 hm)
           | ((with_reducible refine ab (some 57) (.load 9 (.tmp 56)) ?_);refine aw 0 0 (.string y) hm rfl rfl aj (rfl) ?_)
           | (go_at_call 32;refine (HUN.out _).mono ?_;rintro e w' ⟨he,hb⟩;subst he;replace hm:=hm.call hb;clear hb)
           | ((with_reducible refine ax (some 76) (.load 3 (.tmp 75)) (some (19,true)) ?_);go_must (refine aa (.int .i64 a4) rfl (ad 4 (.int .i64 a4) (hm.get 0 rfl) rfl ah rfl) ?_))
           | ((with_reducible refine ax (some 80) (.load 3 (.tmp 79)) (some (19,true)) ?_);go_must (refine aa (.int .i64 a2) rfl (ad 2 (.int .i64 a2) (hm.get 0 rfl) rfl ah rfl) ?_)))
          go_roundw
          case rel=>exact ⟨i+1,by omega,by go_num,HB.out.trans (hm.below.mono HB.out.size),HN3⟩
          case measure=>show N - ((i:Int)+1).toNat<N - (i:Int).toNat;omega
        ·skip
         have HN2:=HNX.out (by rw [HOV.out ()];rw [decide_eq_false c1,decide_eq_false c3];rfl)
         have HN3:Hid (∀k y,k<i+1→p[k]?=some y→(undB ks y.1&&overS dx dy y)=false):=HN2
         clear HN2
         go_wp2_with (first
          | ((with_reducible refine ab (some 43) (.load 46 (.tmp 42)) ?_);go_must (refine aa (.slice (some ⟨b,0,none⟩) N cap) rfl (ad 0 (.slice (some ⟨b,0,none⟩) N cap) HRW.out rfl ak rfl) ?_))
          | ((with_reducible refine ab (some 51) (.load 46 (.tmp 50)) ?_);go_must (refine aa (.slice (some ⟨b,0,none⟩) N cap) rfl (ad 0 (.slice (some ⟨b,0,none⟩) N cap) HRW.out rfl ak rfl) ?_))
          | ((with_reducible refine ab (some 53) (.indexAddr 46 (.tmp 51) (.tmp 52)) ?_);go_must (refine aa (.pointer (some ⟨b,i * 5,none⟩)) rfl (ap 5 i ay ao rfl rfl rfl hlt) ?_))
          | ((with_reducible refine ab (some 54) (.load 50 (.tmp 53)) ?_);go_must (refine aa (.agg ([Value.string y,.int .i64 a1,.int .i64 a2,.int .i64 a3,.int .i64 a4]).toArray) rfl (aA (i * 5) 5 ([Value.string y,.int .i64 a1,.int .i64 a2,.int .i64 a3,.int .i64 a4]) _ rfl (fun j u hu=>(hm.below.cell (p:=⟨b,i * 5+j,none⟩) (HC.out j u hu).1).trans (HC.out j u hu).2) bf rfl ao rfl) ?_))
          | ((with_reducible refine ab (some 15) (.alloc 50) ?_);refine ae _ aS hm ?_;clear hm;intro w3 g15 hm)
          | ((with_reducible refine ab none (.store 50 (.tmp 15) (.tmp 54)) ?_);refine af 0 ([Value.string y,.int .i64 a1,.int .i64 a2,.int .i64 a3,.int .i64 a4]) hm rfl rfl rfl 5 ao rfl rfl (bX _ _ _ _ _) ?_;clear hm;intro w4 hm)
          | ((with_reducible refine ab (some 57) (.load 9 (.tmp 56)) ?_);refine aw 0 0 (.string y) hm rfl rfl aj (rfl) ?_)
          | (go_at_call 32;refine (HUN.out _).mono ?_;rintro e w' ⟨he,hb⟩;subst he;replace hm:=hm.call hb;clear hb))
         go_roundw
         case rel=>exact ⟨i+1,by omega,by go_num,HB.out.trans (hm.below.mono HB.out.size),HN3⟩
         case measure=>show N - ((i:Int)+1).toNat<N - (i:Int).toNat;omega
     ·have hin:i=N:=by omega
      have hki:¬(i:Int)<(N:Int):=by omega
      have HRW:Hid (Row wr rb [.slice (some ⟨b,0,none⟩) N cap] 71):=Row.bel HROW.out HB.out
      have e1:r=0:=by
       rw [HR1.out (),if_neg]
       rw [bey_not (fun k y hk hy=>HNO.out k y (by have:=HNP.out;omega) hy)]
       simp
      subst e1
      clear hin
      go_wp2_with (first
       | ((with_reducible refine ab (some 43) (.load 46 (.tmp 42)) ?_);go_must (refine aa (.slice (some ⟨b,0,none⟩) N cap) rfl (ad 0 (.slice (some ⟨b,0,none⟩) N cap) HRW.out rfl ak rfl) ?_)))
      go_ret
      exact ⟨rfl,HB.out⟩
end Go.Proofs.YtdmohffogfbnbaaGreatDoor
