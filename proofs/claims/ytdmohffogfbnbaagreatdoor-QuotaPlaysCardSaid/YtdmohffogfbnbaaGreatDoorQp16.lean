import Derived.Sort.Walk0
import Derived.Test.YtdmohffogfbnbaaGreatDoorQp14
import Derived.Test.YtdmohffogfbnbaaGreatDoorQp15
set_option maxRecDepth 100000
set_option maxHeartbeats 4000000
namespace Go.Proofs.YtdmohffogfbnbaaGreatDoor
open Go Go.RowKit Go.Maps Go.Sort
theorem exec_nesB {a:Act} {w:World} {dst:Option Tmp} {typ:TypeId} {pos:String} {aft:Array Edge} {gd:Option (Nat×Bool)} {t:TypeId} {x y:Operand} {rt:TypeId} (s s':ByteArray) (v:Bool) (hx:a.eval x=.string s) (hy:a.eval y=.string s') (hv:(s==s')=v) :
  (execOp a.eval {dst:=dst,op:=.binOp .neq t x y rt,type:=typ,pos:=pos,after:=aft,guard:=gd}).run Tryz.prog w=.ok (.value (.bool (!v))) w:=by
 subst hv
 unfold execOp
 simp only [hx,hy]
 simp only [eqGuard,binOp,Op.stringOp,go_sem]
 rw [beq_toListBytes s s']
 rfl
theorem own_row9 {w:World} {B n K g:Nat} {e:TypeId} {v:Value} {cs:List Value} (h:w.ownsRow B e K v n cs) (hg:v.ownBlock=some g):B≤g∧∃l,Row w g l e:=by
 rcases h.2 with ⟨rfl,_⟩|⟨g',cap,cur,rfl,hb,hh,_⟩
 ·simp [Value.ownBlock] at hg
 ·simp only [Value.ownBlock,Option.some.injEq] at hg
  subst hg
  exact ⟨hb,cur.toList,by unfold Row;rw [hh]⟩
theorem cX {w w':World} {B B2 n n2 K K2:Nat} {e e2:TypeId} {v v2:Value} {cs cs2:List Value} (h:w.ownsRow B e K v n cs) (h2:w.ownsRow B2 e2 K2 v2 n2 cs2) (he:e≠e2) (hg:w.grownBy w' v2.ownBlock):w'.ownsRow B e K v n cs:=by
 refine ⟨h.1,?_⟩
 rcases h.2 with hn|⟨g,cap,cur,rfl,hb,hh,rest⟩
 ·exact .inl hn
 ·refine .inr ⟨g,cap,cur,rfl,hb,?_,rest⟩
  rw [hg.block g (Array.getElem?_eq_some_iff.1 hh).1 (fun e9=>?_)]
  ·exact hh
  ·obtain ⟨_,l,hr⟩:=own_row9 h2 e9.symm
   unfold Row at hr
   rw [hr] at hh
   simp only [Option.some.injEq,Obj.cells.injEq] at hh
   exact he hh.2.1.symm
section
variable {P:Program} {kT:TypeId} {ops:Array Oper} {rest:List Oper} {a:Act} {w w0 w1:World} {Q:Exit→Act→World→Prop} {dst:Option Tmp} {typ:TypeId} {pos:String} {aft:Array Edge} {gd:Option (Nat×Bool)} {S:List Nat} {rows:List (Nat×List Value×TypeId)}
theorem exec_lssB {t:TypeId} {x y:Operand} {rt:TypeId} (s s':ByteArray) (v:Bool) (hx:a.eval x=.string s) (hy:a.eval y=.string s') (hv:Op.bytesLess s.toList s'.toList=v) :
  (execOp a.eval {dst:=dst,op:=.binOp .lss t x y rt,type:=typ,pos:=pos,after:=aft,guard:=gd}).run P w=.ok (.value (.bool v)) w:=by
 subst hv
 unfold execOp
 simp only [hx,hy]
 simp [eqGuard,binOp,Op.stringOp]
theorem exec_ix1 {t e:TypeId} {x ix:Operand} {b n cap:Nat} (i:Nat) {ii:Int} (hu:P.underlying t=some (.slice e)) (hs:(P.info? e).map (·.size)=some 1) (hx:a.eval x=.slice (some ⟨b,0,none⟩) n cap) (hix:a.eval ix=.int .i64 ii) (hii:ii=(i:Int)) (hi:i<n) :
  (execOp a.eval {dst:=dst,op:=.indexAddr t x ix,type:=typ,pos:=pos,after:=aft,guard:=gd}).run P w=.ok (.value (.pointer (some ⟨b,i,none⟩))) w:=by
 have h:=ap (P:=P) (dst:=dst) (typ:=typ) (pos:=pos) (aft:=aft) (gd:=gd) (w:=w) 1 i hu hs hx hix hii hi
 rw [Nat.mul_one] at h
 exact h
end
theorem lss_cd (a b:List UInt8) (r:Bool) (h:r=decide (a<b)):Op.bytesLess (mkS a).toList (mkS b).toList=r:=by
 rw [bytesLess_eq,ByteArray.toList_eq,ByteArray.toList_eq,h]
 rfl
theorem StN.updL {B g:Nat} {w w':World} {v:Value} {L:List ByteArray} (h:StN B w v L) (hu:Upd g w w') (hg:g<B):StN B w' v L:=by
 obtain ⟨p,cap,hv,hc⟩:=h
 refine ⟨p,cap,hv,fun h0=>?_⟩
 obtain ⟨b,h1,h2,h3,h4⟩:=hc h0
 exact ⟨b,h1,h2,Nat.lt_of_lt_of_le h3 hu.size,fun i x hx=>(hu.cell (p:=⟨b,i,none⟩) h3 (by show b≠g;omega)).trans (h4 i x hx)⟩
theorem sameR_n {w:World} {B0 rb B:Nat} {p:Nms} {v:Value} (h:RfAt B0 w rb p) (hpl:p.length≤90000) (h0:0<p.length) (hv:SpN B w v p) :
  Calls Tryz.prog 22 #[.pointer (some ⟨rb,0,none⟩),v] w fun e w'=>e=.returned (.bool true)∧Below w.heap.size w w':=by
 obtain ⟨pz,cz,rfl,hz⟩:=hv
 obtain ⟨bz,rfl,_,hz3,hz4⟩:=hz h0
 obtain ⟨N,hN⟩:∃N,N=p.length:=⟨_,rfl⟩
 have HNP:Hid (N=p.length):=hN
 have hN9:N≤90000:=by omega
 obtain ⟨b,cap,hrow,hcap,hcell⟩:=h.cells
 rw [←hN] at hrow hcap
 have HROW:Hid (Row w rb [.slice (some ⟨b,0,none⟩) N cap] 71):=hrow
 have HCELL:Hid (∀i x,p[i]?=some x→∀j u,(spv x)[j]?=some u→b<w.heap.size∧w.cell? ⟨b,i * 5+j,none⟩=some u):=hcell
 have HZ:Hid (∀i x,p[i]?=some x→∀j u,(spv x)[j]?=some u→bz<w.heap.size∧w.cell? ⟨bz,i * 5+j,none⟩=some u):=fun i x hx j u hu=>⟨hz3,hz4 i x hx j u hu⟩
 have hnn:((N:Int) != (N:Int))=false:=by simp
 rw [←hN]
 clear hrow hcell hN hpl hz3 hz4 hz h0
 go_enter Tryz.func22,Tryz.ntmps22
 go_wp2_with (first
  | ((with_reducible refine ab (some 11) (.load 46 (.tmp 10)) ?_);go_must (refine aa (.slice (some ⟨b,0,none⟩) N cap) rfl (ad 0 (.slice (some ⟨b,0,none⟩) N cap) HROW.out rfl ak rfl) ?_)))
 go_loopw [5] (fun vi wr=>∃i:Nat,i≤N∧vi=.int .i64 (i:Int)∧Hid (Below w.heap.size w wr)) (fun vi _=>match vi with | .int _ q=>N - q.toNat|_=>0)
 case atStart=>exact ⟨0,by omega,rfl,Below.refl _ _⟩
 case round =>
  obtain ⟨i,hi,rfl,HB⟩:=hrel
  by_cases hlt:i<N
  ·have hki:(i:Int)<(N:Int):=by omega
   have hw:IntKind.i64.wrap ((i:Int)+1)=(i:Int)+1:=bO _ (by omega) (by omega)
   obtain ⟨x,hx⟩:∃x,p[i]?=some x:=⟨p[i]'(by have:=HNP.out;omega),by simp [show i<p.length by have:=HNP.out;omega]⟩
   have HC_b:Hid (∀j u,(spv x)[j]?=some u→b<wr.heap.size∧wr.cell? ⟨b,i * 5+j,none⟩=some u):=fun j u hu=>⟨Nat.lt_of_lt_of_le (HCELL.out i x hx j u hu).1 HB.out.size,(HB.out.cell (p:=⟨b,i * 5+j,none⟩) (HCELL.out i x hx j u hu).1).trans (HCELL.out i x hx j u hu).2⟩
   have HC_bz:Hid (∀j u,(spv x)[j]?=some u→bz<wr.heap.size∧wr.cell? ⟨bz,i * 5+j,none⟩=some u):=fun j u hu=>⟨Nat.lt_of_lt_of_le (HZ.out i x hx j u hu).1 HB.out.size,(HB.out.cell (p:=⟨bz,i * 5+j,none⟩) (HZ.out i x hx j u hu).1).trans (HZ.out i x hx j u hu).2⟩
   have HRW:Hid (Row wr rb [.slice (some ⟨b,0,none⟩) N cap] 71):=Row.bel HROW.out HB.out
   have hm:=Mem.start wr
   clear hx
   go_wp2_with fail
   refine am ?_
   refine ag (T:=fun W=>Mem wr [] W []) (by kernel_rfl) hm ?_
   intro wc hbw hmw
   clear hm
   have hm:=hmw
   clear hbw hmw
   refine aT 0 (v:=.slice (some ⟨bz,0,none⟩) N cz) rfl (by kernel_rfl) rfl (fun W _=>by go_simp) hm ?_
   go_simp
   refine aT 1 (v:=.int .i64 (i:Int)) rfl (by kernel_rfl) rfl (fun W _=>by go_simp) hm ?_
   go_simp
   refine aT 2 (v:=.pointer (some ⟨bz,i * 5,none⟩)) rfl (by kernel_rfl) rfl (fun W _=>ap 5 i ay ao rfl rfl rfl hlt) hm ?_
   go_simp
   refine aT 3 (v:=.agg (spv x).toArray) rfl (by kernel_rfl) rfl (fun W hW=>aA (i * 5) 5 (spv x) _ rfl (fun j u hu=>(hW.below.cell (p:=⟨bz,i * 5+j,none⟩) (HC_bz.out j u hu).1).trans (HC_bz.out j u hu).2) bf rfl ao rfl) hm ?_
   go_simp
   refine aT 4 (v:=.pointer (some ⟨rb,0,none⟩)) rfl (by kernel_rfl) rfl (fun W _=>by go_simp) hm ?_
   go_simp
   refine aT 5 (v:=.pointer (some ⟨rb,0,none⟩)) rfl (by kernel_rfl) rfl (fun W _=>by go_simp) hm ?_
   go_simp
   refine aT 6 (v:=.pointer (some ⟨rb,0,none⟩)) rfl (by kernel_rfl) rfl (fun W _=>by go_simp) hm ?_
   go_simp
   refine aT 7 (v:=.slice (some ⟨b,0,none⟩) N cap) rfl (by kernel_rfl) rfl (fun W hW=>ad 0 (.slice (some ⟨b,0,none⟩) N cap) (Row.bel HRW.out hW.below) rfl ak rfl) hm ?_
   go_simp
   refine aT 8 (v:=.int .i64 (i:Int)) rfl (by kernel_rfl) rfl (fun W _=>by go_simp) hm ?_
   go_simp
   refine aT 9 (v:=.pointer (some ⟨b,i * 5,none⟩)) rfl (by kernel_rfl) rfl (fun W _=>ap 5 i ay ao rfl rfl rfl hlt) hm ?_
   go_simp
   refine aT 10 (v:=.agg (spv x).toArray) rfl (by kernel_rfl) rfl (fun W hW=>aA (i * 5) 5 (spv x) _ rfl (fun j u hu=>(hW.below.cell (p:=⟨b,i * 5+j,none⟩) (HC_b.out j u hu).1).trans (HC_b.out j u hu).2) bf rfl ao rfl) hm ?_
   go_simp
   refine aT 11 (v:=.bool false) rfl (by kernel_rfl) rfl (fun W _=>exec_neS1 x rfl rfl) hm ?_
   go_simp
   refine wpAnyH_done (by kernel_rfl) ?_ _
   simp only [endsIn]
   go_wp2_with fail
   go_roundw
   case rel=>exact ⟨i+1,by omega,by go_num,HB.out.trans (hm.below.mono HB.out.size)⟩
   case measure=>show N - ((i:Int)+1).toNat<N - (i:Int).toNat;omega
  ·have hin:i=N:=by omega
   have hki:¬(i:Int)<(N:Int):=by omega
   go_wp2_with fail
   go_ret
   exact ⟨rfl,HB.out⟩
theorem texts_n {w:World} {B1 B2:Nat} {L:List ByteArray} {v1 v2:Value} (hv1:StN B1 w v1 L) (hv2:StN B2 w v2 L) (hL:L.length≤90000) :
  Calls Tryz.prog 19 #[v1,v2] w fun e w'=>e=.returned (.bool true)∧Below w.heap.size w w':=by
 obtain ⟨p1,c1,rfl,h1⟩:=hv1
 obtain ⟨p2,c2,rfl,h2⟩:=hv2
 obtain ⟨N,hN⟩:∃N,N=L.length:=⟨_,rfl⟩
 have HNP:Hid (N=L.length):=hN
 rw [←hN] at h1 h2 ⊢
 have hN9:N≤90000:=by omega
 have H1:Hid (0<N→∃b,p1=some ⟨b,0,none⟩∧∀i x,L[i]?=some x→w.cell? ⟨b,i,none⟩=some (.string x)):=fun h0=>by
  obtain ⟨b,e,_,_,h⟩:=h1 h0
  exact ⟨b,e,h⟩
 have H2:Hid (0<N→∃b,p2=some ⟨b,0,none⟩∧∀i x,L[i]?=some x→w.cell? ⟨b,i,none⟩=some (.string x)):=fun h0=>by
  obtain ⟨b,e,_,_,h⟩:=h2 h0
  exact ⟨b,e,h⟩
 have hnn:((N:Int) != (N:Int))=false:=by simp
 clear h1 h2 hN hL
 go_enter Tryz.func19,Tryz.ntmps19
 go_wp2_with fail
 go_loopw [5] (fun vi wr=>∃i:Nat,i≤N∧vi=.int .i64 (i:Int)∧Hid (Below w.heap.size w wr)) (fun vi _=>match vi with | .int _ q=>N - q.toNat|_=>0)
 case atStart=>exact ⟨0,by omega,rfl,Below.refl _ _⟩
 case round =>
  obtain ⟨i,hi,rfl,HB⟩:=hrel
  by_cases hlt:i<N
  ·have hki:(i:Int)<(N:Int):=by omega
   have hw:IntKind.i64.wrap ((i:Int)+1)=(i:Int)+1:=bO _ (by omega) (by omega)
   obtain ⟨y,hy⟩:∃y,L[i]?=some y:=⟨L[i]'(by have:=HNP.out;omega),by simp [show i<L.length by have:=HNP.out;omega]⟩
   obtain ⟨b1,e1,k1⟩:=H1.out (by omega)
   obtain ⟨b2,e2,k2⟩:=H2.out (by omega)
   have HC_b1:Hid (wr.cell? ⟨b1,i,none⟩=some (.string y)) :=
    (HB.out.cell (p:=⟨b1,i,none⟩) (block_lt_of_cell (k1 i y hy))).trans (k1 i y hy)
   have HC_b2:Hid (wr.cell? ⟨b2,i,none⟩=some (.string y)) :=
    (HB.out.cell (p:=⟨b2,i,none⟩) (block_lt_of_cell (k2 i y hy))).trans (k2 i y hy)
   clear k1 k2 hy H1 H2
   subst e1 e2
   have hm:=Mem.start wr
   go_wp2_with fail
   refine am ?_
   refine ag (T:=fun W=>Mem wr [] W []) (by kernel_rfl) hm ?_
   intro wc hbw hmw
   clear hm
   have hm:=hmw
   clear hbw hmw
   refine aT 0 (v:=.slice (some ⟨b1,0,none⟩) N c1) rfl (by kernel_rfl) rfl (fun W _=>by go_simp) hm ?_
   go_simp
   refine aT 1 (v:=.int .i64 (i:Int)) rfl (by kernel_rfl) rfl (fun W _=>by go_simp) hm ?_
   go_simp
   refine aT 2 (v:=.pointer (some ⟨b1,i,none⟩)) rfl (by kernel_rfl) rfl (fun W _=>exec_ix1 i aW cG rfl rfl rfl hlt) hm ?_
   go_simp
   refine aT 3 (v:=.string y) rfl (by kernel_rfl) rfl (fun W hW=>ar (.string y) ((hW.below.cell (p:=⟨b1,i,none⟩) (block_lt_of_cell HC_b1.out)).trans HC_b1.out) rfl aj) hm ?_
   go_simp
   refine aT 4 (v:=.slice (some ⟨b2,0,none⟩) N c2) rfl (by kernel_rfl) rfl (fun W _=>by go_simp) hm ?_
   go_simp
   refine aT 5 (v:=.int .i64 (i:Int)) rfl (by kernel_rfl) rfl (fun W _=>by go_simp) hm ?_
   go_simp
   refine aT 6 (v:=.pointer (some ⟨b2,i,none⟩)) rfl (by kernel_rfl) rfl (fun W _=>exec_ix1 i aW cG rfl rfl rfl hlt) hm ?_
   go_simp
   refine aT 7 (v:=.string y) rfl (by kernel_rfl) rfl (fun W hW=>ar (.string y) ((hW.below.cell (p:=⟨b2,i,none⟩) (block_lt_of_cell HC_b2.out)).trans HC_b2.out) rfl aj) hm ?_
   go_simp
   refine aT 8 (v:=.bool false) rfl (by kernel_rfl) rfl (fun W _=>exec_nesB y y true rfl rfl (ci y)) hm ?_
   go_simp
   refine wpAnyH_done (by kernel_rfl) ?_ _
   simp only [endsIn]
   go_wp2_with fail
   go_roundw
   case rel=>exact ⟨i+1,by omega,by go_num,HB.out.trans (hm.below.mono HB.out.size)⟩
   case measure=>show N - ((i:Int)+1).toNat<N - (i:Int).toNat;omega
  ·have hin:i=N:=by omega
   have hki:¬(i:Int)<(N:Int):=by omega
   go_wp2_with fail
   go_ret
   exact ⟨rfl,HB.out⟩
open Go Go.RowKit Go.Maps
theorem dD {p:Nms} {k:Nat} {x:Sp} (hx:p[k]?=some x) (s:ByteArray):kidsN (p.take (k+1)) s=kidsN (p.take k) s++if tx x.1.dropLast=s∧x.1≠[] then [lastS x.1] else []:=by
 rw [List.take_add_one,hx]
 unfold kidsN
 rw [List.filter_append,List.map_append]
 congr 1
 by_cases h1:tx x.1.dropLast=s<;>by_cases h2:x.1=[]<;>simp [h1,h2]
theorem kidsR_n {w:World} {B rb:Nat} {p:Nms} (h:RfAt B w rb p) (hok:NmOk p) (hpl:p.length≤90000) (s:ByteArray) :
  Calls Tryz.prog 41 #[.pointer (some ⟨rb,0,none⟩),.string s] w fun e w'=>∃v,e=.returned v∧StN w.heap.size w' v (kidsN p s)∧Below w.heap.size w w':=by
 have HOK:Hid (NmOk p):=hok
 obtain ⟨N,hN⟩:∃N,N=p.length:=⟨_,rfl⟩
 have HNP:Hid (N=p.length):=hN
 have hN9:N≤90000:=by omega
 obtain ⟨b,cap,hrow,hcap,hcell⟩:=h.cells
 rw [←hN] at hrow hcap
 have HROW:Hid (Row w rb [.slice (some ⟨b,0,none⟩) N cap] 71):=hrow
 have HCELL:Hid (∀i x,p[i]?=some x→∀j u,(spv x)[j]?=some u→b<w.heap.size∧w.cell? ⟨b,i * 5+j,none⟩=some u):=hcell
 have HM0:Hid (Mem w [] w []):=Mem.start w
 have HO0:Hid (w.ownsRow w.heap.size 9 1 (.slice none 0 0) 0 (strs (kidsN (p.take 0) s))):=⟨rfl,Or.inl ⟨rfl,rfl⟩⟩
 clear hrow hcell hN hpl hok
 go_enter Tryz.func41,Tryz.ntmps41
 go_wp2_with fail
 go_loopw [6,5] (fun vi vo wr=>∃i:Nat,i≤N∧vi=.int .i64 (i:Int)∧∃va n,va=vo∧n≤i∧Hid (n=(kidsN (p.take i) s).length)∧Hid (Mem w [] wr [])∧Hid (wr.ownsRow w.heap.size 9 1 va n (strs (kidsN (p.take i) s)))) (fun vi _ _=>match vi with | .int _ q=>N - q.toNat|_=>0)
 case atStart=>exact ⟨0,by omega,rfl,_,0,rfl,Nat.le_refl _,rfl,HM0,HO0⟩
 case round =>
  obtain ⟨i,hi,rfl,va,n,rfl,hni,HLN,HMM,HOW⟩:=hrel
  have HB:Hid (Below w.heap.size w wr):=HMM.out.below
  have hzw:=HMM.out.size
  by_cases hlt:i<N
  ·have hki:(i:Int)<(N:Int):=by omega
   have hw:IntKind.i64.wrap ((i:Int)+1)=(i:Int)+1:=bO _ (by omega) (by omega)
   have hn9:n≤100000:=by omega
   obtain ⟨x,hx⟩:∃x,p[i]?=some x:=⟨p[i]'(by have:=HNP.out;omega),by simp [show i<p.length by have:=HNP.out;omega]⟩
   have HX:Hid (p[i]?=some x):=hx
   obtain ⟨y,hy⟩:∃y,y=tx x.1:=⟨_,rfl⟩
   have HYT:Hid (y=tx x.1):=hy
   have HY:Hid (wr.cell? ⟨b,i * 5,none⟩=some (.string y)):=by
    have h1:=HCELL.out i x hx 0 (.string y) (by rw [hy];rfl)
    exact (HB.out.cell (p:=⟨b,i * 5,none⟩) h1.1).trans h1.2
   have HRW:Hid (Row wr rb [.slice (some ⟨b,0,none⟩) N cap] 71):=Row.bel HROW.out HB.out
   obtain ⟨ks,hks⟩:∃ks,ks=x.1:=⟨_,rfl⟩
   have HKS:Hid (ks=x.1):=hks
   have okx:PlOk ks:=by rw [hks];exact HOK.out.ok x (List.mem_of_getElem? hx)
   have HPO:Hid (PlOk ks):=okx
   have hys:y.size≤1000:=by rw [hy];have:=aX okx;rw [hks] at this;omega
   have HYS:Hid (y.size≤1000):=hys
   have hm:=Mem.start wr
   by_cases h0:ks=[]
   ·have hpo:parOk (bs y)=false:=by
     rw [hy,←hks,h0];decide +kernel
    obtain ⟨d,hd⟩:∃d,d=mkS (parOf (bs y)):=⟨_,rfl⟩
    have HPA:Hid (Calls Tryz.prog 39 #[.string y] wr fun e w'=>e=.returned (.tuple #[.string d,.bool false])∧Below wr.heap.size wr w'):=by
     have h9:=bH y wr hys
     rw [hpo,←hd] at h9
     exact h9
    have hkt:kidsN (p.take (i+1)) s=kidsN (p.take i) s:=by
     rw [dD hx,if_neg (by rw [←hks];exact fun h=>h.2 h0),List.append_nil]
    have HKT:Hid (kidsN (p.take (i+1)) s=kidsN (p.take i) s):=hkt
    clear hkt
    clear hx hy hks okx hpo hd h0 hys
    go_wp2_with (first
     | ((with_reducible refine ab (some 14) (.load 46 (.tmp 13)) ?_);go_must (refine aa (.slice (some ⟨b,0,none⟩) N cap) rfl (ad 0 (.slice (some ⟨b,0,none⟩) N cap) HRW.out rfl ak rfl) ?_))
     | ((with_reducible refine ab (some 23) (.load 46 (.tmp 22)) ?_);go_must (refine aa (.slice (some ⟨b,0,none⟩) N cap) rfl (ad 0 (.slice (some ⟨b,0,none⟩) N cap) HRW.out rfl ak rfl) ?_))
     | ((with_reducible refine ab (some 25) (.indexAddr 46 (.tmp 23) (.tmp 24)) ?_);go_must (refine aa (.pointer (some ⟨b,i * 5,none⟩)) rfl (ap 5 i ay ao rfl rfl rfl hlt) ?_))
     | ((with_reducible refine ab (some 27) (.load 9 (.tmp 26)) ?_);go_must (refine aa (.string y) rfl (ar (.string y) HY.out rfl aj) ?_))
     | (go_at_call 39;refine (HPA.out).mono ?_;rintro e w' ⟨he,hb⟩;subst he;replace hm:=hm.call hb;clear hb))
    go_roundw
    case rel=>exact ⟨i+1,by omega,by go_num,va,n,rfl,by omega,by rw [HKT.out];exact HLN,Mem.link HMM.out hm,by rw [HKT.out];exact aq HOW.out hm.below⟩
    case measure=>show N - ((i:Int)+1).toNat<N - (i:Int).toNat;omega
   ·obtain ⟨d,hd⟩:∃d,d=tx ks.dropLast:=⟨_,rfl⟩
    have HPA:Hid (Calls Tryz.prog 39 #[.string y] wr fun e w'=>e=.returned (.tuple #[.string d,.bool true])∧Below wr.heap.size wr w'):=by
     have h9:=bH y wr hys
     have h8:=par_tx okx h0
     rw [hks,←hy] at h8
     rw [h8.1,h8.2,←hks,←hd] at h9
     exact h9
    by_cases hds:d=s
    ·subst hds
     have HE:Hid ((d==d)=true):=ci d
     have hkt:kidsN (p.take (i+1)) d=kidsN (p.take i) d++[lastS ks]:=by
      rw [dD hx,if_pos (by rw [←hks];exact ⟨hd.symm,h0⟩),hks]
     have HKT:Hid (kidsN (p.take (i+1)) d=kidsN (p.take i) d++[lastS ks]):=hkt
     clear hkt
     obtain ⟨q,hq⟩:∃q,ks.length=q+1:=⟨ks.length - 1,by have:=List.length_pos_iff.2 h0;omega⟩
     obtain ⟨lz,hlz⟩:∃lz,lz=lastS ks:=⟨_,rfl⟩
     have hqs:ks[q]?=some lz:=by
      rw [hlz];unfold lastS
      rw [List.getLast?_eq_getElem?,hq,Nat.add_sub_cancel]
      rw [List.getElem?_eq_getElem (by omega)];rfl
     have hq3:q≤3:=by have:=okx.len;omega
     have HSP:Hid (∀W,Calls Tryz.prog 55 #[.string y] W fun e w'=>∃bq oq cq,e=.returned (.slice (some ⟨bq,oq,none⟩) (q+1) cq)∧w'.cell? ⟨bq,oq+q,none⟩=some (.string lz)∧Below W.heap.size W w'):=fun W=>by
      refine (cA y W HYS.out).mono ?_
      rintro e w' ⟨v,rfl,hv,hb⟩
      have hsy:segsB y=ks:=by rw [hy,←hks];exact cF okx
      rw [hsy] at hv
      obtain ⟨pz,cz,hv1,_,_,hv2⟩:=hv
      rw [hq] at hv1 hv2
      obtain ⟨bq,oq,hpz,hseg⟩:=hv2 (by omega)
      subst hpz
      exact ⟨bq,oq,cz,by rw [hv1],hseg q (.string lz) (by unfold strs;rw [List.getElem?_map,hqs];rfl),hb⟩
     rw [←hlz] at HKT
     have hwq:IntKind.i64.wrap ((q:Int)+1 - 1)=(q:Int):=(bO _ (by omega) (by omega)).trans (by omega)
     have hq1:q<q+1:=by omega
     clear hx hy hks okx hd h0 hys hqs hlz hq
     go_wp2_with (first
      | ((with_reducible refine ab (some 14) (.load 46 (.tmp 13)) ?_);go_must (refine aa (.slice (some ⟨b,0,none⟩) N cap) rfl (ad 0 (.slice (some ⟨b,0,none⟩) N cap) HRW.out rfl ak rfl) ?_))
      | ((with_reducible refine ab (some 23) (.load 46 (.tmp 22)) ?_);go_must (refine aa (.slice (some ⟨b,0,none⟩) N cap) rfl (ad 0 (.slice (some ⟨b,0,none⟩) N cap) HRW.out rfl ak rfl) ?_))
      | ((with_reducible refine ab (some 25) (.indexAddr 46 (.tmp 23) (.tmp 24)) ?_);go_must (refine aa (.pointer (some ⟨b,i * 5,none⟩)) rfl (ap 5 i ay ao rfl rfl rfl hlt) ?_))
      | ((with_reducible refine ab (some 27) (.load 9 (.tmp 26)) ?_);go_must (refine aa (.string y) rfl (ar (.string y) HY.out rfl aj) ?_))
      | (go_at_call 39;refine (HPA.out).mono ?_;rintro e w' ⟨he,hb⟩;subst he;replace hm:=hm.call hb;clear hb)
      | ((with_reducible refine ax (some 35) (.binOp .eql 9 (.tmp 33) (.tmp 34) 9) (some (1,true)) ?_);go_must (refine aa (.bool true) rfl (aM d d true rfl rfl HE.out) ?_))
      | ((with_reducible refine ab (some 40) (.load 46 (.tmp 39)) ?_);go_must (refine aa (.slice (some ⟨b,0,none⟩) N cap) rfl (ad 0 (.slice (some ⟨b,0,none⟩) N cap) (Row.bel HRW.out hm.below) rfl ak rfl) ?_))
      | ((with_reducible refine ab (some 42) (.indexAddr 46 (.tmp 40) (.tmp 41)) ?_);go_must (refine aa (.pointer (some ⟨b,i * 5,none⟩)) rfl (ap 5 i ay ao rfl rfl rfl hlt) ?_))
      | ((with_reducible refine ab (some 44) (.load 9 (.tmp 43)) ?_);go_must (refine aa (.string y) rfl (ar (.string y) ((hm.below.cell (p:=⟨b,i * 5,none⟩) (block_lt_of_cell HY.out)).trans HY.out) rfl aj) ?_))
      | (go_at_call 55;refine (HSP.out _).mono ?_;rintro e w2 ⟨bq,oq,cq,he,hcq,hb⟩;subst he;have HCQ:Hid (w2.cell? ⟨bq,oq+q,none⟩=some (.string lz)):=hcq;replace hm:=hm.call hb;clear hb hcq)
      | ((with_reducible refine ab (some 51) (.indexAddr 37 (.tmp 47) (.tmp 50)) ?_);go_must (refine aa (.pointer (some ⟨bq,oq+q * 1,none⟩)) rfl (cJ 1 q aW cG rfl rfl (by go_simp) hq1) ?_))
      | ((with_reducible refine ab (some 52) (.load 9 (.tmp 51)) ?_);go_must (refine aa (.string lz) rfl (ar (.string lz) (by rw [Nat.mul_one];exact HCQ.out) rfl aj) ?_))
      | ((with_reducible refine ab (some 53) (.buildSlice 37 1 #[(0,.tmp 52)]) ?_);go_must (refine bK rfl (.string noStr) (.string lz) aW bL rfl rfl rfl hm ?_);clear hm;intro w6 g8 hb6 hm;clear hb6)
      | ((with_reducible refine ab (some 54) (.call {callee:=.builtin .append,args:=#[.tmp 46,.tmp 53],argTypes:=#[37,37]}) ?_);go_must (refine bg (.string noStr) 1 16 rfl aW bD rfl (by omega) (by omega) (aq HOW.out hm.below) (Nat.le_trans hzw hm.size) rfl rfl (hm.get 0 rfl) rfl (cP lz) hn9 ?_);intro v9 w9 ho9 hg9 hl9;have H9:Hid (w9.ownsRow w.heap.size 9 1 v9 (n+1) (strs (kidsN (p.take i) d)++[.string lz])):=ho9;replace hm:=(Mem.link HMM.out hm.tail).grownT hg9 (aq HOW.out hm.below) (by simp) (Nat.le_refl _);clear ho9 hg9 hl9))
     go_roundw
     case rel=>exact ⟨i+1,by omega,by go_num,v9,n+1,rfl,by omega,by rw [HKT.out,List.length_append,←HLN.out];rfl,hm,by rw [HKT.out];have h9:=H9.out;unfold strs at h9 ⊢;rw [List.map_append];exact h9⟩
     case measure=>show N - ((i:Int)+1).toNat<N - (i:Int).toNat;omega
    ·have HE:Hid ((d==s)=false):=cv hds
     have hkt:kidsN (p.take (i+1)) s=kidsN (p.take i) s:=by
      rw [dD hx,if_neg (by rw [←hks,←hd];exact fun h=>hds h.1),List.append_nil]
     have HKT:Hid (kidsN (p.take (i+1)) s=kidsN (p.take i) s):=hkt
     clear hkt
     clear hx hy hks okx hd h0 hys hds
     go_wp2_with (first
      | ((with_reducible refine ab (some 14) (.load 46 (.tmp 13)) ?_);go_must (refine aa (.slice (some ⟨b,0,none⟩) N cap) rfl (ad 0 (.slice (some ⟨b,0,none⟩) N cap) HRW.out rfl ak rfl) ?_))
      | ((with_reducible refine ab (some 23) (.load 46 (.tmp 22)) ?_);go_must (refine aa (.slice (some ⟨b,0,none⟩) N cap) rfl (ad 0 (.slice (some ⟨b,0,none⟩) N cap) HRW.out rfl ak rfl) ?_))
      | ((with_reducible refine ab (some 25) (.indexAddr 46 (.tmp 23) (.tmp 24)) ?_);go_must (refine aa (.pointer (some ⟨b,i * 5,none⟩)) rfl (ap 5 i ay ao rfl rfl rfl hlt) ?_))
      | ((with_reducible refine ab (some 27) (.load 9 (.tmp 26)) ?_);go_must (refine aa (.string y) rfl (ar (.string y) HY.out rfl aj) ?_))
      | (go_at_call 39;refine (HPA.out).mono ?_;rintro e w' ⟨he,hb⟩;subst he;replace hm:=hm.call hb;clear hb)
      | ((with_reducible refine ax (some 35) (.binOp .eql 9 (.tmp 33) (.tmp 34) 9) (some (1,true)) ?_);go_must (refine aa (.bool false) rfl (aM d s false rfl rfl HE.out) ?_)))
     go_roundw
     case rel=>exact ⟨i+1,by omega,by go_num,va,n,rfl,by omega,by rw [HKT.out];exact HLN,Mem.link HMM.out hm,by rw [HKT.out];exact aq HOW.out hm.below⟩
     case measure=>show N - ((i:Int)+1).toNat<N - (i:Int).toNat;omega
  ·have hin:i=N:=by omega
   have hki:¬(i:Int)<(N:Int):=by omega
   have HRW:Hid (Row wr rb [.slice (some ⟨b,0,none⟩) N cap] 71):=Row.bel HROW.out HB.out
   have HT:Hid (p.take i=p):=List.take_of_length_le (by rw [hin,HNP.out];exact Nat.le_refl _)
   go_wp2_with (first
    | ((with_reducible refine ab (some 14) (.load 46 (.tmp 13)) ?_);go_must (refine aa (.slice (some ⟨b,0,none⟩) N cap) rfl (ad 0 (.slice (some ⟨b,0,none⟩) N cap) HRW.out rfl ak rfl) ?_)))
   go_ret
   have h9:=HOW.out
   have hl:=HLN.out
   rw [HT.out] at h9 hl
   exact ⟨va,rfl,dG h9 hl,HB.out⟩
open Go Go.RowKit Go.Maps
theorem dv {p:Nms} {k:Nat} {x:Sp} (hx:p[k]?=some x) (ks:List ByteArray):undN (p.take (k+1)) ks=undN (p.take k) ks++if undB x.1 ks=true then [x] else []:=by
 rw [List.take_add_one,hx]
 unfold undN
 rw [List.filter_append]
 congr 1
 by_cases h:undB x.1 ks=true<;>simp [h]
theorem dp {p:Nms} {k:Nat} {x:Sp} (hx:p[k]?=some x) (ks:List ByteArray):delN (p.take (k+1)) ks=delN (p.take k) ks++if undB x.1 ks=true then [] else [x]:=by
 rw [List.take_add_one,hx]
 unfold delN
 rw [List.filter_append]
 congr 1
 by_cases h:undB x.1 ks=true<;>simp [h]
theorem remR_n {w:World} {B rb:Nat} {p:Nms} (h:RfAt B w rb p) (hB:B≤w.heap.size) (hok:NmOk p) (hpl:p.length≤80000) (s:ByteArray) (hs:s.size≤1000) (e0:Int) (he0:e0=remE p s) (hnz:e0=0→0<(delN p (segsB s)).length) :
  Calls Tryz.prog 44 #[.pointer (some ⟨rb,0,none⟩),.string s] w fun e_ w'=>∃v,e_=.returned (.tuple #[v,.int .i64 e0])∧StN w.heap.size w' v (remL p s e0)∧RfAt B w' rb (if e0=0 then delN p (segsB s) else p)∧Upd rb w w':=by
 have hm:=Mem.start w
 have HR:Hid (RfAt B w rb p):=h
 have HOK:Hid (NmOk p):=hok
 have HSZ:Hid (s.size≤1000):=hs
 have hrb:=h.lt
 obtain ⟨N,hN⟩:∃N,N=p.length:=⟨_,rfl⟩
 have HNP:Hid (N=p.length):=hN
 have hN9:N≤90000:=by omega
 obtain ⟨b,cap,hrow,hcap,hcell⟩:=h.cells
 rw [←hN] at hrow hcap
 have HROW:Hid (Row w rb [.slice (some ⟨b,0,none⟩) N cap] 71):=hrow
 have HCELL:Hid (∀i x,p[i]?=some x→∀j u,(spv x)[j]?=some u→b<w.heap.size∧w.cell? ⟨b,i * 5+j,none⟩=some u):=hcell
 have HNONE:Hid (∀z:Int,z≠0→remL p s z=[]):=fun z hz=>by unfold remL;rw [if_neg hz]
 clear hrow hcell
 obtain ⟨d,hd⟩:∃d,d=mkS (parOf (bs s)):=⟨_,rfl⟩
 obtain ⟨b0,hb0⟩:∃b,b=parOk (bs s):=⟨_,rfl⟩
 have HPA:Hid (Calls Tryz.prog 39 #[.string s] w fun e w'=>e=.returned (.tuple #[.string d,.bool b0])∧Below w.heap.size w w'):=by
  have h9:=bH s w hs
  rw [←hb0,←hd] at h9
  exact h9
 obtain ⟨z1,hz1⟩:∃z,z=atN p s:=⟨_,rfl⟩
 have HAT:Hid (∀W,Below w.heap.size w W→Calls Tryz.prog 40 #[.pointer (some ⟨rb,0,none⟩),.string s] W fun e w'=>e=.returned (.int .i64 z1)∧Below W.heap.size W w'):=fun W hW=>atR_n (HR.out.below hW) (by omega) s z1 hz1
 clear hd
 have hcase:(b0=false∧e0=110)∨(b0=true∧isP (bs s)=true∧e0=if hasN p (segsB s)=false then 100 else 0):=by
  rw [hb0,he0]
  unfold remE
  cases hp:isP (bs s) with
  | false=>exact Or.inl ⟨(dj hp).1,rfl⟩
  | true =>
   have hsb:segsOf (bs s)=(segsB s).map bs:=(bm _).symm
   by_cases hq:segsB s=[]
   ·exact Or.inl ⟨(cI (by rw [hsb,hq];rfl)).1,by simp [hq]⟩
   ·exact Or.inr ⟨(cm hp (by rw [hsb];simpa using hq)).1,rfl,by simp [hq]⟩
 rcases hcase with ⟨rfl,rfl⟩|⟨rfl,hP,hE⟩
 ·rw [if_neg (by omega),HNONE.out _ (by omega)]
  clear hz1 hb0 he0 hnz hs hN hpl hok
  go_enter Tryz.func44,Tryz.ntmps44
  go_wp2_with (first
   | (go_at_call 39;refine (HPA.out).mono ?_;rintro e w' ⟨he,hb⟩;subst he;replace hm:=hm.call hb;clear hb))
  go_ret2
  exact ⟨_,rfl,⟨none,0,rfl,fun h=>absurd h (by simp)⟩,HR.out.below hm.below,Upd.of_below hm.below⟩
 ·have hgb:getB p s=hasN p (segsB s):=by unfold getB;rw [hP,Bool.true_and]
  rcases cV hok s with ⟨g1,g2⟩|⟨g1,i0,x0,_,g2,_⟩
  ·have e1:e0=100:=by rw [hE,if_pos (by rw [←hgb,g1])]
   have hz:z1 = -1:=by rw [hz1,g2]
   subst e1 hz
   rw [if_neg (by omega),HNONE.out _ (by omega)]
   clear hz1 hb0 he0 hnz hs hN hpl hok hgb g1 g2 hE hP
   go_enter Tryz.func44,Tryz.ntmps44
   go_wp2_with (first
    | (go_at_call 39;refine (HPA.out).mono ?_;rintro e w' ⟨he,hb⟩;subst he;replace hm:=hm.call hb;clear hb)
    | (go_at_call 40;refine (HAT.out _ hm.below).mono ?_;rintro e w' ⟨he,hb⟩;subst he;replace hm:=hm.call hb;clear hb))
   go_ret2
   exact ⟨_,rfl,⟨none,0,rfl,fun h=>absurd h (by simp)⟩,HR.out.below hm.below,Upd.of_below hm.below⟩
  ·have e1:e0=0:=by rw [hE,if_neg (by rw [←hgb,g1];simp)]
   have hzi:z1=(i0:Int):=by rw [hz1,g2]
   subst e1
   subst hzi
   obtain ⟨ks,hks⟩:∃ks,ks=segsB s:=⟨_,rfl⟩
   have HKS:Hid (PlOk ks):=by rw [hks];exact aR s
   have HST:Hid (s=tx ks):=by
    have e:s=tx ks:=by rw [hks,bE hP]
    exact e
   have HNZ:Hid (0<(delN p ks).length):=by rw [hks];exact hnz rfl
   have HRL:Hid (remL p s 0=(undN p ks).map fun x=>tx x.1):=by
    have e:remL p s 0=(undN p ks).map fun x=>tx x.1:=by rw [hks];rfl
    exact e
   rw [if_pos rfl,HRL.out,←hks]
   have hi0:¬(i0:Int)<0:=by omega
   clear hz1 hb0 he0 hnz hs hN hpl hok hgb g1 g2 hE hP hks HNONE
   go_enter Tryz.func44,Tryz.ntmps44
   go_wp2_with (first
    | (go_at_call 39;refine (HPA.out).mono ?_;rintro e w' ⟨he,hb⟩;subst he;replace hm:=hm.call hb;clear hb)
    | (go_at_call 40;refine (HAT.out _ hm.below).mono ?_;rintro e w4 ⟨he,hb⟩;subst he;replace hm:=hm.call hb;clear hb))
   have HM0:Hid (Mem w [] w4 []):=hm
   have HG0:Hid (w4.ownsRow w.heap.size 9 1 (.slice none 0 0) 0 (strs ((undN (p.take 0) ks).map fun x=>tx x.1))):=⟨rfl,Or.inl ⟨rfl,rfl⟩⟩
   have HL0:Hid (w4.ownsRow w.heap.size 50 5 (.slice none 0 0) 0 ((delN (p.take 0) ks).flatMap spv)):=⟨rfl,Or.inl ⟨rfl,rfl⟩⟩
   clear hm HPA HAT
   go_loopw [10,8,9] (fun vi vl vg wr=>∃i:Nat,i≤N∧vi=.int .i64 (i:Int)∧∃va vb nl ng,va=vl∧vb=vg∧nl≤i∧ng≤i∧Hid (nl=(delN (p.take i) ks).length∧ng=(undN (p.take i) ks).length)∧Hid (Mem w [] wr [])∧Hid (wr.ownsRow w.heap.size 50 5 va nl ((delN (p.take i) ks).flatMap spv))∧Hid (wr.ownsRow w.heap.size 9 1 vb ng (strs ((undN (p.take i) ks).map fun x=>tx x.1)))) (fun vi _ _ _=>match vi with | .int _ q=>N - q.toNat|_=>0)
   case atStart=>exact ⟨0,by omega,rfl,_,_,0,0,rfl,rfl,Nat.le_refl _,Nat.le_refl _,⟨rfl,rfl⟩,HM0,HL0,HG0⟩
   case round =>
    obtain ⟨i,hi,rfl,va,vb,nl,ng,rfl,rfl,hnl,hng,HLN,HMM,HOL,HOG⟩:=hrel
    have HB:Hid (Below w.heap.size w wr):=HMM.out.below
    have hzw:=HMM.out.size
    by_cases hlt:i<N
    ·have hki:(i:Int)<(N:Int):=by omega
     have hw:IntKind.i64.wrap ((i:Int)+1)=(i:Int)+1:=bO _ (by omega) (by omega)
     have hl9:nl≤100000:=by omega
     have hg9:ng≤100000:=by omega
     obtain ⟨x,hx⟩:∃x,p[i]?=some x:=⟨p[i]'(by have:=HNP.out;omega),by simp [show i<p.length by have:=HNP.out;omega]⟩
     have HX:Hid (p[i]?=some x):=hx
     obtain ⟨y,hy⟩:∃y,y=tx x.1:=⟨_,rfl⟩
     have HYT:Hid (y=tx x.1):=hy
     have HY:Hid (wr.cell? ⟨b,i * 5,none⟩=some (.string y)):=by
      have h1:=HCELL.out i x hx 0 (.string y) (by rw [hy];rfl)
      exact (HB.out.cell (p:=⟨b,i * 5,none⟩) h1.1).trans h1.2
     have HRW:Hid (Row wr rb [.slice (some ⟨b,0,none⟩) N cap] 71):=Row.bel HROW.out HB.out
     have okx:PlOk x.1:=HOK.out.ok x (List.mem_of_getElem? hx)
     have hys:y.size≤1000:=by rw [hy];have:=aX okx;omega
     obtain ⟨u,hu⟩:∃u,u=undB x.1 ks:=⟨_,rfl⟩
     have HUN:Hid (Calls Tryz.prog 32 #[.string y,.string s] wr fun e w'=>e=.returned (.bool u)∧Below wr.heap.size wr w'):=by
      have h9:=cx y s wr hys HSZ.out
      have h8:undOf (bs y) (bs s)=u:=by rw [hy,HST.out,dg okx HKS.out,hu]
      rw [h8] at h9
      exact h9
     have hm:=Mem.start wr
     cases u with
     | true =>
      have hud:undN (p.take (i+1)) ks=undN (p.take i) ks++[x]:=by rw [dv hx,if_pos hu.symm]
      have hdd:delN (p.take (i+1)) ks=delN (p.take i) ks:=by rw [dp hx,if_pos hu.symm,List.append_nil]
      have HUD:Hid (undN (p.take (i+1)) ks=undN (p.take i) ks++[x]):=hud
      have HDD:Hid (delN (p.take (i+1)) ks=delN (p.take i) ks):=hdd
      clear hx hy okx hys hu hud hdd
      go_wp2_with (first
       | ((with_reducible refine ab (some 26) (.load 46 (.tmp 25)) ?_);go_must (refine aa (.slice (some ⟨b,0,none⟩) N cap) rfl (ad 0 (.slice (some ⟨b,0,none⟩) N cap) HRW.out rfl ak rfl) ?_))
       | ((with_reducible refine ab (some 34) (.load 46 (.tmp 33)) ?_);go_must (refine aa (.slice (some ⟨b,0,none⟩) N cap) rfl (ad 0 (.slice (some ⟨b,0,none⟩) N cap) HRW.out rfl ak rfl) ?_))
       | ((with_reducible refine ab (some 36) (.indexAddr 46 (.tmp 34) (.tmp 35)) ?_);go_must (refine aa (.pointer (some ⟨b,i * 5,none⟩)) rfl (ap 5 i ay ao rfl rfl rfl hlt) ?_))
       | ((with_reducible refine ab (some 38) (.load 9 (.tmp 37)) ?_);go_must (refine aa (.string y) rfl (ar (.string y) HY.out rfl aj) ?_))
       | (go_at_call 32;refine (HUN.out).mono ?_;rintro e w' ⟨he,hb⟩;subst he;replace hm:=hm.call hb;clear hb)
       | ((with_reducible refine ab (some 45) (.load 46 (.tmp 44)) ?_);go_must (refine aa (.slice (some ⟨b,0,none⟩) N cap) rfl (ad 0 (.slice (some ⟨b,0,none⟩) N cap) (Row.bel HRW.out hm.below) rfl ak rfl) ?_))
       | ((with_reducible refine ab (some 47) (.indexAddr 46 (.tmp 45) (.tmp 46)) ?_);go_must (refine aa (.pointer (some ⟨b,i * 5,none⟩)) rfl (ap 5 i ay ao rfl rfl rfl hlt) ?_))
       | ((with_reducible refine ab (some 49) (.load 9 (.tmp 48)) ?_);go_must (refine aa (.string y) rfl (ar (.string y) ((hm.below.cell (p:=⟨b,i * 5,none⟩) (block_lt_of_cell HY.out)).trans HY.out) rfl aj) ?_))
       | ((with_reducible refine ab (some 50) (.buildSlice 37 1 #[(0,.tmp 49)]) ?_);go_must (refine bK rfl (.string noStr) (.string y) aW bL rfl rfl rfl hm ?_);clear hm;intro w6 g8 hb6 hm;clear hb6)
       | ((with_reducible refine ab (some 51) (.call {callee:=.builtin .append,args:=#[.tmp 41,.tmp 50],argTypes:=#[37,37]}) ?_);go_must (refine bg (.string noStr) 1 16 rfl aW bD rfl (by omega) (by omega) (aq HOG.out hm.below) (Nat.le_trans hzw hm.size) rfl rfl (hm.get 0 rfl) rfl (cP y) hg9 ?_);intro v9 w9 ho9 hgr9 hl9;have H9:Hid (w9.ownsRow w.heap.size 9 1 v9 (ng+1) (strs ((undN (p.take i) ks).map fun x=>tx x.1)++[.string y])):=ho9;have HL9:Hid (w9.ownsRow w.heap.size 50 5 va nl ((delN (p.take i) ks).flatMap spv)):=cX (aq HOL.out hm.below) (aq HOG.out hm.below) (by decide) hgr9;replace hm:=(Mem.link HMM.out hm.tail).grownT hgr9 (aq HOG.out hm.below) (by simp) (Nat.le_refl _);clear ho9 hgr9 hl9))
      go_roundw
      case rel=>exact ⟨i+1,by omega,by go_num,va,v9,nl,ng+1,rfl,rfl,by omega,by omega,⟨by rw [HDD.out];exact HLN.out.1,by rw [HUD.out,List.length_append,←HLN.out.2];rfl⟩,hm,by rw [HDD.out];exact HL9,by rw [HUD.out];have h9:=H9.out;unfold strs at h9 ⊢;rw [List.map_append,List.map_append];rw [HYT.out] at h9;exact h9⟩
      case measure=>show N - ((i:Int)+1).toNat<N - (i:Int).toNat;omega
     | false =>
      have hud:undN (p.take (i+1)) ks=undN (p.take i) ks:=by rw [dv hx,if_neg (by rw [←hu];simp),List.append_nil]
      have hdd:delN (p.take (i+1)) ks=delN (p.take i) ks++[x]:=by rw [dp hx,if_neg (by rw [←hu];simp)]
      have HUD:Hid (undN (p.take (i+1)) ks=undN (p.take i) ks):=hud
      have HDD:Hid (delN (p.take (i+1)) ks=delN (p.take i) ks++[x]):=hdd
      have HC:Hid (∀j u,(spv x)[j]?=some u→b<wr.heap.size∧wr.cell? ⟨b,i * 5+j,none⟩=some u):=fun j u hu=>⟨Nat.lt_of_lt_of_le (HCELL.out i x hx j u hu).1 HB.out.size,(HB.out.cell (p:=⟨b,i * 5+j,none⟩) (HCELL.out i x hx j u hu).1).trans (HCELL.out i x hx j u hu).2⟩
      clear hx hy okx hys hu hud hdd
      go_wp2_with (first
       | ((with_reducible refine ab (some 26) (.load 46 (.tmp 25)) ?_);go_must (refine aa (.slice (some ⟨b,0,none⟩) N cap) rfl (ad 0 (.slice (some ⟨b,0,none⟩) N cap) HRW.out rfl ak rfl) ?_))
       | ((with_reducible refine ab (some 34) (.load 46 (.tmp 33)) ?_);go_must (refine aa (.slice (some ⟨b,0,none⟩) N cap) rfl (ad 0 (.slice (some ⟨b,0,none⟩) N cap) HRW.out rfl ak rfl) ?_))
       | ((with_reducible refine ab (some 36) (.indexAddr 46 (.tmp 34) (.tmp 35)) ?_);go_must (refine aa (.pointer (some ⟨b,i * 5,none⟩)) rfl (ap 5 i ay ao rfl rfl rfl hlt) ?_))
       | ((with_reducible refine ab (some 38) (.load 9 (.tmp 37)) ?_);go_must (refine aa (.string y) rfl (ar (.string y) HY.out rfl aj) ?_))
       | (go_at_call 32;refine (HUN.out).mono ?_;rintro e w' ⟨he,hb⟩;subst he;replace hm:=hm.call hb;clear hb)
       | ((with_reducible refine ab (some 56) (.load 46 (.tmp 55)) ?_);go_must (refine aa (.slice (some ⟨b,0,none⟩) N cap) rfl (ad 0 (.slice (some ⟨b,0,none⟩) N cap) (Row.bel HRW.out hm.below) rfl ak rfl) ?_))
       | ((with_reducible refine ab (some 58) (.indexAddr 46 (.tmp 56) (.tmp 57)) ?_);go_must (refine aa (.pointer (some ⟨b,i * 5,none⟩)) rfl (ap 5 i ay ao rfl rfl rfl hlt) ?_))
       | ((with_reducible refine ab (some 59) (.load 50 (.tmp 58)) ?_);go_must (refine aa (.agg (spv x).toArray) rfl (aA (i * 5) 5 (spv x) _ rfl (fun j u hu=>(hm.below.cell (p:=⟨b,i * 5+j,none⟩) (HC.out j u hu).1).trans (HC.out j u hu).2) bf rfl ao rfl) ?_))
       | ((with_reducible refine ab (some 60) (.buildSlice 46 1 #[(0,.tmp 59)]) ?_);go_must (refine cn (spv x) rfl rfl rfl hm ?_);clear hm;intro w6 g8 hm hb6;clear hb6)
       | ((with_reducible refine ab (some 61) (.call {callee:=.builtin .append,args:=#[.tmp 52,.tmp 60],argTypes:=#[46,46]}) ?_);go_must (refine bg (.agg spZ.toArray) 5 48 rfl ay dn rfl (by omega) (by omega) (aq HOL.out hm.below) (Nat.le_trans hzw hm.size) rfl rfl (hm.get 0 rfl) rfl (bS x) hl9 ?_);intro v9 w9 ho9 hgr9 hx9;have H9:Hid (w9.ownsRow w.heap.size 50 5 v9 (nl+1) ((delN (p.take i) ks).flatMap spv++spv x)):=ho9;have HG9:Hid (w9.ownsRow w.heap.size 9 1 vb ng (strs ((undN (p.take i) ks).map fun x=>tx x.1))):=cX (aq HOG.out hm.below) (aq HOL.out hm.below) (by decide) hgr9;replace hm:=(Mem.link HMM.out hm.tail).grownT hgr9 (aq HOL.out hm.below) (by simp) (Nat.le_refl _);clear ho9 hgr9 hx9))
      go_roundw
      case rel=>exact ⟨i+1,by omega,by go_num,v9,vb,nl+1,ng,rfl,rfl,by omega,by omega,⟨by rw [HDD.out,List.length_append,←HLN.out.1];rfl,by rw [HUD.out];exact HLN.out.2⟩,hm,by rw [HDD.out,List.flatMap_append];have h9:=H9.out;show World.ownsRow _ _ _ _ _ _ _;simpa using h9,by rw [HUD.out];exact HG9⟩
      case measure=>show N - ((i:Int)+1).toNat<N - (i:Int).toNat;omega
    ·have hin:i=N:=by omega
     have hki:¬(i:Int)<(N:Int):=by omega
     have HRW:Hid (Row wr rb [.slice (some ⟨b,0,none⟩) N cap] 71):=Row.bel HROW.out HB.out
     have ht:p.take i=p:=List.take_of_length_le (by rw [hin,HNP.out];exact Nat.le_refl _)
     have h1:=HOL.out
     have h2:=HOG.out
     have h3:=HLN.out
     rw [ht] at h1 h2 h3
     obtain ⟨b2,cap2,tl2,rfl,hc2,hb2,hcc2⟩:=own_atS h1 h3.1 HNZ.out
     have HC2:Hid ((delN p ks).length≤cap2∧w.heap.size≤b2∧Row wr b2 ((delN p ks).flatMap spv++tl2) 50):=⟨hc2,hb2,hcc2⟩
     have HS2:Hid (StN w.heap.size wr vb ((undN p ks).map fun x=>tx x.1)):=dG h2 (by rw [List.length_map];exact h3.2)
     clear ht h1 h2 h3 hc2 hb2 hcc2
     go_wp2_with (first
      | ((with_reducible refine ab (some 26) (.load 46 (.tmp 25)) ?_);go_must (refine aa (.slice (some ⟨b,0,none⟩) N cap) rfl (ad 0 (.slice (some ⟨b,0,none⟩) N cap) HRW.out rfl ak rfl) ?_))
      | ((with_reducible refine ab none (.store 46 (.tmp 65) (.tmp 63)) ?_);refine bi 0 0 (.slice (some ⟨b2,0,none⟩) (delN p ks).length cap2) (Mem.enter HRW.out) rfl rfl rfl sz_sps (by simp) rfl rfl ?_;intro w9 hm9))
     go_ret2
     have hu9:=hm9.toUpd
     exact ⟨vb,rfl,HS2.out.updL hu9 hrb,⟨b2,cap2,tl2,Nat.le_trans hB HC2.out.2.1,hm9.get 0 rfl,HC2.out.1,hu9.row HC2.out.2.2 (by have:=HC2.out.2.1;show b2≠rb;omega)⟩,(Upd.of_below HB.out).trans hu9⟩
open Go Go.RowKit Go.Maps
theorem eJ:(Tryz.prog.info? 3).map (·.size)=some 1:=by kernel_rfl
section
variable {P:Program} {md:Region.Mode} {ops:Array Oper} {R:Act→World→Prop} {T T2:World→Prop} {c fuel:Nat} {listed:Array Bool} {a:Act} {w:World}
theorem anyC_one (i:Nat) {o:Oper} (hr:Region.ready md ops listed=[i]) (hi:ops[i]?=some o) (hg:o.guard=none) (hic:decide (i=c)=false)
  (h:∀K:Act→World→Prop,(∀a' w',T w'→wpAnyC P md ops (endsIn R) c T T2 fuel (listed.setIfInBounds i true) a' w'→K a' w')→wpList P ops (endsIn K) [o] a w):wpAnyC P md ops (endsIn R) c T T2 (fuel+1) listed a w:=by
 refine ⟨fun h0=>absurd (hr▸h0) (by simp),fun j hj=>?_⟩
 rw [hr] at hj
 obtain rfl:j=i:=by simpa using hj
 have hne:¬j=c:=of_decide_eq_false hic
 have hh:=h (fun a' w'=>T w'∧wpAnyC P md ops (endsIn R) c T T2 fuel (listed.setIfInBounds j true) a' w') (fun _ _ h1 h2=>⟨h1,h2⟩)
 simp only [if_neg hne]
 unfold wpOp
 simp only [hi]
 have hw:Region.wanted o (yielded ops a.tmps)=true:=by simp [Region.wanted,hg]
 unfold wpList at hh
 rw [if_pos hw] at hh
 rw [if_pos hw]
 exact hh
end
def RfK (w:World) (rb b cap:Nat) (N:Nat) (p:Nms) (f:Sp→Sp) (k:Nat) (tl:List Value):Prop:=Row w rb [.slice (some ⟨b,0,none⟩) N cap] 71∧Row w b ((chK f p k).flatMap spv++tl) 50
theorem rf_next {w9:World} {rb b cap N i:Nat} {p:Nms} {ks:List ByteArray} {dx dy v3 v4:Int} {tl:List Value} {x:Sp} (hx:p[i]?=some x) (hu:undB ks x.1=true) (h3:v3=usB x+dx) (h4:v4=usE x+dy)
  (h1:Row w9 rb [.slice (some ⟨b,0,none⟩) N cap] 71) (h2:Row w9 b ((((chK (chg ks dx dy) p i).flatMap spv++tl).set (i * 5+3) (.int .i64 v3)).set (i * 5+4) (.int .i64 v4)) 50):RfK w9 rb b cap N p (chg ks dx dy) (i+1) tl:=by
 refine ⟨h1,?_⟩
 have hg:=eN (chg ks dx dy) hx
 rw [flat_set hg (by omega) (moB_set x dx v3 h3)] at h2
 have hl:i<(chK (chg ks dx dy) p i).length:=(List.getElem?_eq_some_iff.1 hg).1
 rw [flat_set (x:=moB x dx) (by simp [hl]) (by omega) (chg_set hu dx dy v4 h4),List.set_set] at h2
 rw [chK_succ (chg ks dx dy) hx]
 exact h2
theorem eD {i:Nat} {p:Nms} {f:Sp→Sp} {x:Sp} (hx:p[i]?=some x) (tl:List Value) {j:Nat} (hj:j<5):i * 5+j<((chK f p i).flatMap spv++tl).length:=by
 have hl:i<(chK f p i).length:=(List.getElem?_eq_some_iff.1 (eN f hx)).1
 rw [List.length_append,flat_len]
 omega
theorem RfK.start {w:World} {rb b cap:Nat} {p:Nms} {f:Sp→Sp} {tl:List Value} (h1:Row w rb [.slice (some ⟨b,0,none⟩) p.length cap] 71) (h2:Row w b (p.flatMap spv++tl) 50):RfK w rb b cap p.length p f 0 tl:=⟨h1,by rw [chK_zero];exact h2⟩
theorem RfK.all {B:Nat} {w:World} {rb b cap N:Nat} {p:Nms} {f:Sp→Sp} {tl:List Value} (h:RfK w rb b cap N p f N tl) (hN:N=p.length) (hc:N≤cap) (hB:B≤b):RfAt B w rb (p.map f):=by
 subst hN
 obtain ⟨h1,h2⟩:=h
 rw [chK_all] at h2
 exact ⟨b,cap,tl,hB,by rw [List.length_map];exact h1,by rw [List.length_map];exact hc,h2⟩
theorem RfK.keep {w:World} {rb b cap N i:Nat} {p:Nms} {f:Sp→Sp} {tl:List Value} {x:Sp} (h:RfK w rb b cap N p f i tl) (hx:p[i]?=some x) (hf:f x=x):RfK w rb b cap N p f (i+1) tl:=⟨h.1,by rw [chK_keep f hx hf];exact h.2⟩
theorem RfK.below {w w':World} {rb b cap N i:Nat} {p:Nms} {f:Sp→Sp} {tl:List Value} (h:RfK w rb b cap N p f i tl) (hb:Below w.heap.size w w'):RfK w' rb b cap N p f i tl:=⟨Row.bel h.1 hb,Row.bel h.2 hb⟩
theorem RfK.cell {w:World} {rb b cap N i:Nat} {p:Nms} {f:Sp→Sp} {tl:List Value} {x:Sp} (h:RfK w rb b cap N p f i tl) (hx:p[i]?=some x):∀j u,(spv x)[j]?=some u→b<w.heap.size∧w.cell? ⟨b,i * 5+j,none⟩=some u:=row_flat h.2 i x (eN f hx)
theorem rb_ne {w:World} {rb b:Nat} {l l':List Value} (h1:Row w rb l 71) (h2:Row w b l' 50):rb≠b:=fun e=>by
 subst e
 exact absurd (cZ h1 h2) (by decide)
end Go.Proofs.YtdmohffogfbnbaaGreatDoor
