import Derived.Test.YtcibhfcjbokdlabGreatDoorQk16
import Derived.Maps.AppendAt
import Derived.Test.YtcibhfcjbokdlabGreatDoorQk14
import Derived.Test.YtcibhfcjbokdlabGreatDoorCards
import Derived.Test.YtcibhfcjbokdlabGreatDoorTie
import Derived.ProofKit
import Derived.OpenShut
import Derived.ChangeOld
import Derived.ChangeMaps5
import Derived.Deep.DeepHandedRow
import Derived.Deep.Slices
import Derived.Shelf.Vars
import Derived.Lay
import Derived.Stop.LaidErr
import Derived.Test.YtcibhfcjbokdlabGreatDoorQk13
set_option maxRecDepth 100000
set_option maxHeartbeats 4000000
namespace Go.Proofs.YtcibhfcjbokdlabGreatDoor
open Go Go.RowKit
theorem ea {F:Nat→Prop} (t:Tm):∀(n:Nat) (s:Value) (w:World),n≤100→SlT F w s t.l →
  Calls Tryz.prog 11 #[.agg (tcs t s).toArray,.int .i64 (n:Int)] w fun e w'=>e=.returned (.int .i64 ((min (n+1) (cnt t):Nat):Int))∧Below w.heap.size w w':=by
 induction t using Tm.ind with
 | h t ih =>
 intro n s w hn2 hs
 obtain ⟨p,cap,rfl,hcap⟩:=hs.len
 obtain ⟨m,hml⟩:∃m,m=t.l.length:=⟨_,rfl⟩
 have HIH:Hid _:=ih
 have HM:Hid (∀_:Unit,m=t.l.length):=fun _=>hml
 have HS:Hid (SlT F w (.slice p m cap) t.l):=by rw [hml];exact hs
 have HTK:Hid (∀_:Unit,((t.l.take m).map cnt).sum+1=cnt t):=fun _=>by rw [hml,List.take_length,ci];omega
 rw [←hml]
 clear ih hs hml hcap
 have hm:=Mem.start w
 go_enter Tryz.func11,Tryz.ntmps11
 go_wp2_with (first
  | ((with_reducible refine af (some 2) (.box 24 (.tmp 0)) ?_);go_must (refine ax (tcs t (.slice p m cap)) rfl hm ?_);clear hm;intro w1 g1 hm))
 have hmB:Hid (Mem w [] w1 [(g1,tcs t (.slice p m cap),24)]):=hm
 go_loopw [6,5] (fun vi vc wr=>∃k c:Nat,k≤m∧vi=.int .i64 (k:Int)∧vc=.int .i64 (c:Int)∧Hid (c=min (n+1) (1+((t.l.take k).map cnt).sum))∧Hid (Mem w [] wr [(g1,tcs t (.slice p m cap),24)])) (fun vi _ _=>m - (intOf vi).toNat)
 case atStart=>exact ⟨0,1,by omega,rfl,rfl,by show _=_;simp,hm⟩
 case round =>
  clear hm hmB
  obtain ⟨k,c,hk,rfl,rfl,HC,HMM⟩:=hrel
  by_cases hlt:k<m
  ·have hki:(k:Int)<(m:Int):=by omega
   obtain ⟨b,o,rfl⟩:=HS.out.at (show 0<m by omega)
   obtain ⟨x,hx⟩:=bC (HM.out ()) hlt
   have hm:=HMM.out
   obtain ⟨px,mx,cx,c0,c1,c2,rfl,hsx⟩:=(HS.out.below hm.below).cells hx
   have HX:Hid (SlT F wr (.slice px x.l.length cx) x.l):=hsx
   have HNX:Hid (1+((t.l.take (k+1)).map cnt).sum=1+((t.l.take k).map cnt).sum+cnt x):=by show _=_;rw [sum_take hx];omega
   have HMX:Hid (x∈t.l):=List.mem_of_getElem? hx
   have hcn:c≤n+1:=by have:=HC.out;omega
   have HCN:=HC
   obtain ⟨mx,hmx⟩:∃mx,mx=x.l.length:=⟨_,rfl⟩
   have HX2:Hid (SlT F wr (.slice px mx cx) x.l):=by rw [hmx];exact HX.out
   rw [←hmx] at c2
   clear hsx hx HMM HX hmx
   by_cases hc:c=n+1
   ·have hci:¬(c:Int)≤(n:Int):=by omega
    have hci2:¬c≤n:=by omega
    have HR:Hid (∀_:Unit,min (n+1) (cnt t)=c):=fun _=>by
     have h1:=HCN.out;have h2:=HTK.out ()
     have h3:((t.l.take k).map cnt).sum≤((t.l.take m).map cnt).sum:=by
      have e:=List.take_append_drop k (t.l.take m)
      rw [List.take_take,Nat.min_eq_left (by omega)] at e
      rw [←e,List.map_append,List.sum_append];omega
     omega
    clear hc HC HCN HNX
    go_wp2_with (first
     | ((with_reducible refine af (some 9) (.load 22 (.tmp 8)) ?_);go_must (refine aa (.slice (some ⟨b,o,none⟩) m cap) rfl (ae (.slice (some ⟨b,o,none⟩) m cap) (Mem.cell hm 0 rfl 2) rfl ao) ?_)))
    go_ret
    exact ⟨by rw [HR.out ()];rfl,hm.below⟩
   ·have hci:(c:Int)≤(n:Int):=by omega
    have hci2:c≤n:=by omega
    obtain ⟨d,hd⟩:∃d,d=min (n - c+1) (cnt x):=⟨_,rfl⟩
    have hd1:d≤101:=by omega
    have hk100:k<101:=by
     have h1:=sum_ge (l:=t.l) (k:=k) (by have:=HM.out ();omega)
     have h2:=HCN.out
     omega
    have HND:Hid (c+d=min (n+1) (1+((t.l.take (k+1)).map cnt).sum)):=by show _=_;have h1:=HCN.out;have h2:=HNX.out;omega
    have hw:IntKind.i64.wrap ((n:Int) - (c:Int))=((n - c:Nat):Int):=(bK _ (by omega) (by omega)).trans (by omega)
    have hw2:IntKind.i64.wrap ((c:Int)+(d:Int))=((c+d:Nat):Int):=(bK _ (by omega) (by omega)).trans (by omega)
    have HCALL:Hid (∀W,Below wr.heap.size wr W→Calls Tryz.prog 11 #[.agg (tcs x (.slice px mx cx)).toArray,.int .i64 ((n - c:Nat):Int)] W fun e w'=>e=.returned (.int .i64 (d:Int))∧Below W.heap.size W w'):=fun W hW=>by
     have h9:=HIH.out x HMX.out (n - c) (.slice px mx cx) W (by omega) (HX2.out.below hW)
     rw [←hd] at h9
     exact h9
    have HB0:Hid (Mem w [] wr [(g1,tcs t (.slice (some ⟨b,o,none⟩) m cap),24)]):=hm
    have HBW:Hid (Below wr.heap.size wr wr):=Below.refl _ _
    clear hc hd HC HCN HNX
    go_wp2_with (first
     | ((with_reducible refine af (some 9) (.load 22 (.tmp 8)) ?_);go_must (refine aa (.slice (some ⟨b,o,none⟩) m cap) rfl (ae (.slice (some ⟨b,o,none⟩) m cap) (Mem.cell hm 0 rfl 2) rfl ao) ?_))
     | ((with_reducible refine af (some 21) (.load 22 (.tmp 20)) ?_);go_must (refine aa (.slice (some ⟨b,o,none⟩) m cap) rfl (ae (.slice (some ⟨b,o,none⟩) m cap) (Mem.cell hm 0 rfl 2) rfl ao) ?_))
     | ((with_reducible refine af (some 23) (.indexAddr 22 (.tmp 21) (.tmp 22)) ?_);go_must (refine aa (.pointer (some ⟨b,o+k * 3,none⟩)) rfl (aB k rfl rfl rfl hlt) ?_))
     | ((with_reducible refine af (some 24) (.load 24 (.tmp 23)) ?_);go_must (refine aa (.agg (tcs x (.slice px mx cx)).toArray) rfl (aJ rfl c0 c1 c2) ?_))
     | (go_at_call 11;go_must (refine (HCALL.out _ HBW.out).mono ?_);rintro e w4 ⟨he,hb⟩;subst he;replace hm:=hm.call hb;clear hb))
    go_roundw
    case rel=>exact ⟨k+1,c+d,by omega,by go_num,by first|rfl|(rw [hw2]),HND.out,hm⟩
    case measure=>simp [intOf];omega
  ·have hkn:m=k:=by omega
   subst hkn
   have hni:¬(m:Int)<(m:Int):=by omega
   have HR:Hid (∀_:Unit,min (n+1) (cnt t)=c):=fun _=>by have h1:=HC.out;have h2:=HTK.out ();omega
   have hm:=HMM.out
   clear HC
   go_wp2_with (first
    | ((with_reducible refine af (some 9) (.load 22 (.tmp 8)) ?_);go_must (refine aa (.slice p m cap) rfl (ae (.slice p m cap) (Mem.cell hm 0 rfl 2) rfl ao) ?_)))
   go_ret
   exact ⟨by rw [HR.out ()];rfl,hm.below⟩
open Go Go.RowKit
def FO (w:World) (v:Value):Nat→Prop:=fun b=>b<w.heap.size∧some b≠v.ownBlock
def OT (base:Nat) (w:World) (v:Value) (l:List Tm):Prop:=∃cs,w.ownsRow base 24 3 v l.length cs∧TC (FO w v) w l cs
theorem fo_below {w w':World} {v:Value} (hb:Below w.heap.size w w'):Keeps (FO w v) (FO w' v) w w':=by
 intro b hF
 refine ⟨⟨Nat.lt_of_lt_of_le hF.1 hb.size,hF.2⟩,fun o u h=>?_⟩
 rw [World.cell?_of_block (w:=w) (hb.block b hF.1)];exact h
section
variable {base:Nat} {w w':World} {v:Value} {l:List Tm}
theorem OT.nil:OT base w (.slice none 0 0) []:=⟨[],World.ownsRow_nil _ _ _ _,rfl⟩
theorem OT.below (h:OT base w v l) (hb:Below w.heap.size w w'):OT base w' v l:=by
 obtain ⟨cs,ho,ht⟩:=h
 exact ⟨cs,aH ho hb,ht.keeps (fo_below hb)⟩
theorem OT.len (h:OT base w v l):∃p c,v=.slice p l.length c∧l.length≤c:=by
 obtain ⟨cs,ho,_⟩:=h
 obtain ⟨p,cap,hv,hc,_,_⟩:=bN ho
 exact ⟨p,cap,hv,hc⟩
theorem OT.lt (h:OT base w v l) {b:Nat} (hb:v.ownBlock=some b):base≤b∧b<w.heap.size:=by
 obtain ⟨cs,ho,_⟩:=h
 exact au ho hb
/-- Older ones lie apart. -/
theorem OT.old (h:OT base w v l) {F:Nat→Prop} (hF:∀b,F b→b<base) {x:Value} {l2:List Tm} (hs:SlT F w x l2) (hb:base≤w.heap.size):SlT (FO w v) w x l2:=hs.weak fun b hF'=>by
 have h1:=hF b hF'
 refine ⟨by omega,fun he=>?_⟩
 have:=(h.lt he.symm).1
 omega
theorem TC.app {F:Nat→Prop} {w:World} {l l2:List Tm} {cs cs2:List Value} (h:TC F w l cs) (h2:TC F w l2 cs2):TC F w (l++l2) (cs++cs2):=by
 induction l2 generalizing l cs cs2 with
 | nil =>
  have:cs2=[]:=List.eq_nil_of_length_eq_zero (by rw [h2.len];rfl)
  subst this
  rw [List.append_nil,List.append_nil];exact h
 | cons t l2 ih =>
  obtain ⟨s,cs3,rfl,hs,h3⟩:=h2
  have h4:=ih (h.snoc hs) h3
  rw [List.append_assoc,List.append_assoc] at h4
  exact h4
end
section
variable {ops:Array Oper} {rest:List Oper} {a:Act} {w w0:World} {Q:Exit→Act→World→Prop} {dst:Option Tmp} {typ:TypeId} {pos:String} {aft:Array Edge} {gd:Option (Nat×Bool)} {S:List Nat} {rows:List (Nat×List Value×TypeId)}
end
theorem TC.drop {F:Nat→Prop} {w:World} {l:List Tm} {cs:List Value} (h:TC F w l cs) (k:Nat):TC F w (l.drop k) (cs.drop (k * 3)):=by
 induction k generalizing l cs with
 | zero=>simpa using h
 | succ k ih =>
  cases l with
  | nil =>
   have:cs=[]:=List.eq_nil_of_length_eq_zero (by rw [h.len];rfl)
   subst this
   simpa using h
  | cons t l =>
   obtain ⟨s,cs3,rfl,hs,h3⟩:=h
   have h4:=ih h3
   rw [List.drop_succ_cons,show (k+1) * 3=3+k * 3 by omega,←List.drop_drop]
   exact h4
theorem TC.take {F:Nat→Prop} {w:World} {l:List Tm} {cs:List Value} (h:TC F w l cs) (k:Nat):TC F w (l.take k) (cs.take (k * 3)):=by
 induction k generalizing l cs with
 | zero=>rw [Nat.zero_mul,List.take_zero,List.take_zero];rfl
 | succ k ih =>
  cases l with
  | nil =>
   have:cs=[]:=List.eq_nil_of_length_eq_zero (by rw [h.len];rfl)
   subst this
   simpa using h
  | cons t l =>
   obtain ⟨s,cs3,rfl,hs,h3⟩:=h
   have h4:=ih h3
   rw [List.take_succ_cons,show (k+1) * 3=k * 3+1+1+1 by omega]
   exact ⟨s,cs3.take (k * 3),rfl,hs,h4⟩
def offA (p:Option Addr) (cap k:Nat):Option Addr:=if cap=k then p else p.map (·.add (k * 3))
theorem SlT.drop {F:Nat→Prop} {w:World} {p:Option Addr} {n c k:Nat} {l:List Tm} (h:SlT F w (.slice p n c) l) (hk:k≤n):SlT F w (.slice (offA p c k) (n - k) (c - k)) (l.drop k):=by
 obtain ⟨q,c',cs,hv,hc,ht,hs⟩:=h
 simp only [Value.slice.injEq] at hv
 obtain ⟨rfl,rfl,rfl⟩:=hv
 refine ⟨_,_,_,by rw [List.length_drop],by rw [List.length_drop];omega,ht.drop k,fun h0=>?_⟩
 rw [List.length_drop] at h0
 obtain ⟨b,o,rfl,hF,hseg⟩:=hs (by omega)
 refine ⟨b,o+k * 3,by rw [offA,if_neg (by omega)];simp [aL],hF,fun j u hu=>?_⟩
 rw [List.getElem?_drop] at hu
 have:=hseg _ u hu
 rw [←Nat.add_assoc] at this
 exact this
theorem SlT.take {F:Nat→Prop} {w:World} {p:Option Addr} {n c k:Nat} {l:List Tm} (h:SlT F w (.slice p n c) l) (hk:k≤n):SlT F w (.slice (cutHi p c) k c) (l.take k):=by
 obtain ⟨q,c',cs,hv,hc,ht,hs⟩:=h
 simp only [Value.slice.injEq] at hv
 obtain ⟨rfl,rfl,rfl⟩:=hv
 have hkl:min k l.length=k:=Nat.min_eq_left hk
 refine ⟨_,_,_,by rw [List.length_take,hkl],by rw [List.length_take,hkl];omega,ht.take k,fun h0=>?_⟩
 rw [List.length_take,hkl] at h0
 obtain ⟨b,o,rfl,hF,hseg⟩:=hs (by omega)
 refine ⟨b,o,by rw [cutHi,if_neg (by omega)];simp [aL],hF,fun j u hu=>?_⟩
 rw [List.getElem?_take] at hu
 split at hu
 ·exact hseg j u hu
 ·cases hu
section
variable {a:Act} {w:World} {dst:Option Tmp} {typ:TypeId} {pos:String} {aft:Array Edge} {gd:Option (Nat×Bool)}
end
open Go Go.RowKit
theorem set6 (cs:Array Value) (h:cs.size=6) (a b c d e f:Value):(((((cs.setIfInBounds 0 a).setIfInBounds 1 b).setIfInBounds 2 c).setIfInBounds 3 d).setIfInBounds 4 e).setIfInBounds 5 f=#[a,b,c,d,e,f]:=by
 apply Array.ext
 ·simp [h]
 ·intro i h1 h2
  have:i=0∨i=1∨i=2∨i=3∨i=4∨i=5:=by simp at h2;omega
  rcases this with rfl|rfl|rfl|rfl|rfl|rfl<;>simp [h]
theorem run_bslT2 {P:Program} (w:World) {t elem:TypeId} (z:List Value) (a b c d e f:Value) (hu:P.underlying t=some (.slice elem)) (hi:(P.info? elem).map (fun i=>(i.zero,i.size))=some (some (.agg z.toArray),3)) (hz:z.length=3) :
  (Instr.buildSlice t 2 #[(0,.agg [a,b,c].toArray),(1,.agg [d,e,f].toArray)]).run P w=.ok (.slice (some ⟨w.heap.size,0,none⟩) 2 2) (w.alloc (.cells [a,b,c,d,e,f].toArray elem)):=by
 obtain ⟨hz1,hs1⟩:=zero_of_info hi
 cases hq:P.info? elem with
 | none=>simp [hq] at hi
 | some qq =>
  have hs:qq.size=3:=by simpa [hq] using hs1
  simp [Instr.buildSlice,run_underlying hu,sizeOf,typeInfo,hq,hs,hz1,Value.cells,Instr.fill,hz,newRow,newObj]
  rw [set6 _ (by simp)]
  rfl
section
variable {ops:Array Oper} {rest:List Oper} {a:Act} {w w0:World} {Q:Exit→Act→World→Prop} {dst:Option Tmp} {typ:TypeId} {pos:String} {aft:Array Edge} {gd:Option (Nat×Bool)} {S:List Nat} {rows:List (Nat×List Value×TypeId)}
theorem aQ {x y:Operand} (t u:Tm) (s v:Value) (hw:Region.wanted {dst:=dst,op:=.buildSlice 22 2 #[(0,x),(1,y)],type:=typ,pos:=pos,after:=aft,guard:=gd} (yielded ops a.tmps)=true) (hx:a.eval x=.agg (tcs t s).toArray) (hy:a.eval y=.agg (tcs u v).toArray) (hm:Mem w0 S w rows)
  (h:∀w' g,Below w.heap.size w w'→w.heap.size≤g→Mem w0 S w' ((g,tcs t s++tcs u v,24)::rows)→wpList Tryz.prog ops Q rest (a.put dst (.slice (some ⟨g,0,none⟩) 2 2)) w') :
  wpList Tryz.prog ops Q ({dst:=dst,op:=.buildSlice 22 2 #[(0,x),(1,y)],type:=typ,pos:=pos,after:=aft,guard:=gd}::rest) a w:=by
 refine wpList_step fun K hK=>?_
 rw [if_pos hw]
 have hh:=hK _ _ (h _ _ ((Below.refl _ _).alloc (Nat.le_refl _) _) (Nat.le_refl _) (hm.alloc (tcs t s++tcs u v) 24))
 unfold Oper.wp execOp
 have hr:=run_bslT2 (P:=Tryz.prog) w [Value.int .i64 0,.int .i64 0,.slice none 0 0] (.int .i64 t.k) (.int .i64 t.n) s (.int .i64 u.k) (.int .i64 u.n) v bc bV rfl
 simp only [List.map_toArray,List.map_cons,List.map_nil,hx,hy,tcs,hr,Sem.run_bind,Sem.run_pure,Result.andThen_ok]
 exact hh
end
theorem dB {F:Nat→Prop} {w:World} {g n:Nat} {l:List Tm} {cs:List Value} (hr:Row w g cs 24) (ht:TC F w l cs) (hF:F g) (hn:l.length=n):SlT F w (.slice (some ⟨g,0,none⟩) n n) l:=by
 subst hn
 exact ⟨_,l.length,cs,rfl,Nat.le_refl _,ht,fun _=>⟨g,0,rfl,hF,fun j u hu=>by rw [Nat.zero_add,hr.cell j];exact hu⟩⟩
theorem dS {F:Nat→Prop} {w:World} {g:Nat} {t:Tm} {s:Value} (hr:Row w g (tcs t s) 24) (hs:SlT F w s t.l) (hF:F g):SlT F w (.slice (some ⟨g,0,none⟩) 1 1) [t] :=
 dB hr ⟨s,[],rfl,(bq t s).2 hs,rfl⟩ hF rfl
theorem a7 {F:Nat→Prop} {w:World} {g:Nat} {t u:Tm} {s v:Value} (hr:Row w g (tcs t s++tcs u v) 24) (hs:SlT F w s t.l) (hv:SlT F w v u.l) (hF:F g):SlT F w (.slice (some ⟨g,0,none⟩) 2 2) [t,u] :=
 dB hr ⟨s,_,rfl,(bq t s).2 hs,v,[],rfl,(bq u v).2 hv,rfl⟩ hF rfl
theorem set9 (cs:Array Value) (h:cs.size=9) (a b c d e f g i j:Value):((((((((cs.setIfInBounds 0 a).setIfInBounds 1 b).setIfInBounds 2 c).setIfInBounds 3 d).setIfInBounds 4 e).setIfInBounds 5 f).setIfInBounds 6 g).setIfInBounds 7 i).setIfInBounds 8 j=#[a,b,c,d,e,f,g,i,j]:=by
 apply Array.ext
 ·simp [h]
 ·intro k h1 h2
  have:k=0∨k=1∨k=2∨k=3∨k=4∨k=5∨k=6∨k=7∨k=8:=by simp at h2;omega
  rcases this with rfl|rfl|rfl|rfl|rfl|rfl|rfl|rfl|rfl<;>simp [h]
theorem run_bslT3 {P:Program} (w:World) {t elem:TypeId} (z:List Value) (a b c d e f g i j:Value) (hu:P.underlying t=some (.slice elem)) (hi:(P.info? elem).map (fun i=>(i.zero,i.size))=some (some (.agg z.toArray),3)) (hz:z.length=3) :
  (Instr.buildSlice t 3 #[(0,.agg [a,b,c].toArray),(1,.agg [d,e,f].toArray),(2,.agg [g,i,j].toArray)]).run P w=.ok (.slice (some ⟨w.heap.size,0,none⟩) 3 3) (w.alloc (.cells [a,b,c,d,e,f,g,i,j].toArray elem)):=by
 obtain ⟨hz1,hs1⟩:=zero_of_info hi
 cases hq:P.info? elem with
 | none=>simp [hq] at hi
 | some qq =>
  have hs:qq.size=3:=by simpa [hq] using hs1
  simp [Instr.buildSlice,run_underlying hu,sizeOf,typeInfo,hq,hs,hz1,Value.cells,Instr.fill,hz,newRow,newObj]
  rw [set9 _ (by simp)]
  rfl
section
variable {ops:Array Oper} {rest:List Oper} {a:Act} {w w0:World} {Q:Exit→Act→World→Prop} {dst:Option Tmp} {typ:TypeId} {pos:String} {aft:Array Edge} {gd:Option (Nat×Bool)} {S:List Nat} {rows:List (Nat×List Value×TypeId)}
theorem wpl_bslT3 {x y q:Operand} (t u p:Tm) (s v r:Value) (hw:Region.wanted {dst:=dst,op:=.buildSlice 22 3 #[(0,x),(1,y),(2,q)],type:=typ,pos:=pos,after:=aft,guard:=gd} (yielded ops a.tmps)=true) (hx:a.eval x=.agg (tcs t s).toArray) (hy:a.eval y=.agg (tcs u v).toArray) (hq:a.eval q=.agg (tcs p r).toArray) (hm:Mem w0 S w rows)
  (h:∀w' g,Below w.heap.size w w'→w.heap.size≤g→Mem w0 S w' ((g,tcs t s++(tcs u v++tcs p r),24)::rows)→wpList Tryz.prog ops Q rest (a.put dst (.slice (some ⟨g,0,none⟩) 3 3)) w') :
  wpList Tryz.prog ops Q ({dst:=dst,op:=.buildSlice 22 3 #[(0,x),(1,y),(2,q)],type:=typ,pos:=pos,after:=aft,guard:=gd}::rest) a w:=by
 refine wpList_step fun K hK=>?_
 rw [if_pos hw]
 have hh:=hK _ _ (h _ _ ((Below.refl _ _).alloc (Nat.le_refl _) _) (Nat.le_refl _) (hm.alloc (tcs t s++(tcs u v++tcs p r)) 24))
 unfold Oper.wp execOp
 have hr:=run_bslT3 (P:=Tryz.prog) w [Value.int .i64 0,.int .i64 0,.slice none 0 0] (.int .i64 t.k) (.int .i64 t.n) s (.int .i64 u.k) (.int .i64 u.n) v (.int .i64 p.k) (.int .i64 p.n) r bc bV rfl
 simp only [List.map_toArray,List.map_cons,List.map_nil,hx,hy,hq,tcs,hr,Sem.run_bind,Sem.run_pure,Result.andThen_ok]
 exact hh
end
theorem slt_three {F:Nat→Prop} {w:World} {g:Nat} {t u p:Tm} {s v r:Value} (hr:Row w g (tcs t s++(tcs u v++tcs p r)) 24) (hs:SlT F w s t.l) (hv:SlT F w v u.l) (hp:SlT F w r p.l) (hF:F g):SlT F w (.slice (some ⟨g,0,none⟩) 3 3) [t,u,p] :=
 dB hr ⟨s,_,rfl,(bq t s).2 hs,v,_,rfl,(bq u v).2 hv,r,[],rfl,(bq p r).2 hp,rfl⟩ hF rfl
def Rdy (W:World):Prop:=Esx W∧10≤W.heap.size
theorem Rdy.below {w w':World} (h:Rdy w) (hb:Below w.heap.size w w'):Rdy w':=⟨h.1.below hb,Nat.le_trans h.2 hb.size⟩
theorem rd_of {t:Tm} {R:List UInt8} (h:isT t=true) (ht:txt t=R):∃r,rdT 60 60 R=some (t,[],r):=by
 obtain ⟨h1,h2⟩:=bf.1 h
 have h3:=eq 60 t h2 60 [] h1 h1 noD_nil
 rw [List.append_nil,ht] at h3
 exact ⟨_,h3⟩
theorem cd (R:List UInt8) (w:World) (hRl:R.length≤100000) (hY:Rdy w) (t:Tm) (h:isT t=true) (ht:txt t=R) :
  Calls Tryz.prog 8 #[.string (mkS R)] w fun e w'=>∃s,e=.returned (.agg (tcs t s).toArray)∧SlT (fun _=>True) w' s t.l∧Below w.heap.size w w':=by
 obtain ⟨r1,hr1⟩:=rd_of h ht
 have hm:=Mem.start w
 have HP:Hid (∀W,Below w.heap.size w W→Calls Tryz.prog 20 #[.string (mkS R)] W fun e w'=>∃s,e=.returned (.tuple #[.agg (tcs t s).toArray,.int .i64 0])∧SlT (FN W.heap.size w'.heap.size) w' s t.l∧Below W.heap.size W w'):=fun W hW=>parse_yes R W hRl (hY.below hW).1 (hY.below hW).2 t r1 hr1
 obtain ⟨S,hS⟩:∃S,S=mkS R:=⟨_,rfl⟩
 rw [←hS] at HP ⊢
 clear hr1 hY h ht hRl hS
 go_enter Tryz.func8,Tryz.ntmps8
 go_wp2_with (first
  | ((with_reducible refine af (some 2) (.alloc 24) ?_);go_must (refine aj _ aq hm ?_);clear hm;intro w1 g1 hm)
  | (go_at_call 20;go_must (refine (HP.out _ hm.below).mono ?_);rintro e w2 ⟨s2,he,hs2,hb⟩;obtain ⟨p2,c2,hv2,_⟩:=hs2.len;obtain ⟨ml,hml⟩:∃m,m=t.l.length:=⟨_,rfl⟩;rw [←hml] at hv2;subst hv2;subst he;have HG1:Hid (g1<w1.heap.size):=(hm.get 0 rfl).lt;have HS2:Hid (SlT (FN w1.heap.size w2.heap.size) w2 (.slice p2 ml c2) t.l):=hs2;have HZ2:Hid (w.heap.size≤w1.heap.size∧w1.heap.size≤w2.heap.size):=⟨hm.size,hb.size⟩;replace hm:=hm.call hb;clear hb hs2 hml)
  | ((with_reducible refine af (some 3) (.alloc 24) ?_);go_must (refine ef _ aq hm ?_);clear hm;intro w3 g3 hb3 hg3 hm;have HS3:Hid (SlT (FN w1.heap.size w2.heap.size) w3 (.slice p2 ml c2) t.l):=HS2.out.below hb3;have HG3:Hid (w2.heap.size≤g3):=hg3;clear hb3 hg3)
  | ((with_reducible refine af none (.store 24 (.tmp 3) (.tmp 8)) ?_);go_must (refine cC 0 (tcs t (.slice p2 ml c2)) hm rfl rfl rfl 3 ag rfl rfl (aM _ _ _ _) ?_);clear hm;intro w4 hu4 hm;have HS4:Hid (SlT (FN w1.heap.size w2.heap.size) w4 (.slice p2 ml c2) t.l):=HS3.out.keep (Keeps.upd hu4 (fun b hb=>by have h9:=hb.2;have h8:=HG3.out;omega));clear hu4)
  | ((with_reducible refine af (some 10) (.load 24 (.tmp 3)) ?_);go_must (refine aI 0 hm rfl rfl _ Tryz.underlying24 rfl 3 ag rfl ?_))
  | ((with_reducible refine af none (.store 24 (.tmp 2) (.tmp 10)) ?_);go_must (refine cC 1 (tcs t (.slice p2 ml c2)) hm rfl rfl rfl 3 ag rfl rfl (aM _ _ _ _) ?_);clear hm;intro w5 hu5 hm;have HS5:Hid (SlT (FN w1.heap.size w2.heap.size) w5 (.slice p2 ml c2) t.l):=HS4.out.keep (Keeps.upd hu5 (fun b hb=>by have h9:=hb.1;have h8:=HG1.out;omega));clear hu5))
 refine ret_cell 1 hm rfl Tryz.results8 rfl _ Tryz.underlying24 rfl 3 ag rfl rfl ?_
 exact ⟨_,rfl,HS5.out.weak fun _ _=>trivial,hm.below⟩
open Go Go.RowKit Classical
theorem kB1_txt:txt kB1=[115,101,97,108,40,107,49,44,110,50,41]:=by decide +kernel
theorem kk1_txt:txt kk1=[107,49]:=by decide +kernel
theorem kB3_txt:txt kB3=[115,101,97,108,40,100,51,40,107,52,41,44,110,53,41]:=by decide +kernel
theorem kn2_txt:txt kn2=[110,50]:=by decide +kernel
theorem kn5_txt:txt kn5=[110,53]:=by decide +kernel
theorem kG3_txt:txt kG3=[40,107,49,44,100,57,40,110,50,41,41]:=by decide +kernel
theorem kG4_txt:txt kG4=[110,49]:=by decide +kernel
theorem kAll {L:List Tm} (h:AllIs kBl L):L.length=4:=by
 refine k_four (List.Pairwise.imp (fun {a b} hlt he=>by rw [he] at hlt;exact List.lt_irrefl _ hlt) h.2) fun t=>?_
 rw [h.1 t,dF,kT_eq]
theorem kMin:(minT kBl kn2).length=2:=by
 unfold minT
 rw [if_pos kKn1]
 exact k_least
theorem kT_len:(webWs (kBl.filter isT) []).length=7:=by rw [dF,kT_eq];rfl
theorem kT_le (t:Tm) (h:cnt t≤60):(webW t (webWs (kBl.filter isT) [])).length≤380:=by
 have:=dn t (webWs (kBl.filter isT) [])
 rw [kT_len] at this
 omega
theorem a6 (w:World) (hY:Rdy w):Calls Tryz.prog 4 #[] w fun e w'=>e=.returned (.bool true)∧Below w.heap.size w w':=by
 have hm:=Mem.start w
 have HRkB1:Hid (∀W,Rdy W→Calls Tryz.prog 8 #[.string ⟨#[115,101,97,108,40,107,49,44,110,50,41]⟩] W fun e w'=>∃s,e=.returned (.agg (tcs kB1 s).toArray)∧SlT (fun _=>True) w' s kB1.l∧Below W.heap.size W w'):=fun W hW=>cd [115,101,97,108,40,107,49,44,110,50,41] W (by decide) hW kB1 (kB_isT _ (by simp [kBl])) kB1_txt
 have HRkk1:Hid (∀W,Rdy W→Calls Tryz.prog 8 #[.string ⟨#[107,49]⟩] W fun e w'=>∃s,e=.returned (.agg (tcs kk1 s).toArray)∧SlT (fun _=>True) w' s kk1.l∧Below W.heap.size W w'):=fun W hW=>cd [107,49] W (by decide) hW kk1 (kB_isT _ (by simp [kBl])) kk1_txt
 have HRkB3:Hid (∀W,Rdy W→Calls Tryz.prog 8 #[.string ⟨#[115,101,97,108,40,100,51,40,107,52,41,44,110,53,41]⟩] W fun e w'=>∃s,e=.returned (.agg (tcs kB3 s).toArray)∧SlT (fun _=>True) w' s kB3.l∧Below W.heap.size W w'):=fun W hW=>cd [115,101,97,108,40,100,51,40,107,52,41,44,110,53,41] W (by decide) hW kB3 (kB_isT _ (by simp [kBl])) kB3_txt
 have HRkn2:Hid (∀W,Rdy W→Calls Tryz.prog 8 #[.string ⟨#[110,50]⟩] W fun e w'=>∃s,e=.returned (.agg (tcs kn2 s).toArray)∧SlT (fun _=>True) w' s kn2.l∧Below W.heap.size W w'):=fun W hW=>cd [110,50] W (by decide) hW kn2 (by decide +kernel) kn2_txt
 have HRkn5:Hid (∀W,Rdy W→Calls Tryz.prog 8 #[.string ⟨#[110,53]⟩] W fun e w'=>∃s,e=.returned (.agg (tcs kn5 s).toArray)∧SlT (fun _=>True) w' s kn5.l∧Below W.heap.size W w'):=fun W hW=>cd [110,53] W (by decide) hW kn5 (by decide +kernel) kn5_txt
 have HRkG3:Hid (∀W,Rdy W→Calls Tryz.prog 8 #[.string ⟨#[40,107,49,44,100,57,40,110,50,41,41]⟩] W fun e w'=>∃s,e=.returned (.agg (tcs kG3 s).toArray)∧SlT (fun _=>True) w' s kG3.l∧Below W.heap.size W w'):=fun W hW=>cd [40,107,49,44,100,57,40,110,50,41,41] W (by decide) hW kG3 (by decide +kernel) kG3_txt
 have HRkG4:Hid (∀W,Rdy W→Calls Tryz.prog 8 #[.string ⟨#[110,49]⟩] W fun e w'=>∃s,e=.returned (.agg (tcs kG4 s).toArray)∧SlT (fun _=>True) w' s kG4.l∧Below W.heap.size W w'):=fun W hW=>cd [110,49] W (by decide) hW kG4 (by decide +kernel) kG4_txt
 have HY:Hid (Rdy w):=hY
 have HT:Hid (Below w.heap.size w w):=Below.refl _ _
 clear hY
 have tw2:Nat:=0
 have tw3:Nat:=0
 have tw4:Nat:=0
 have tw7:Nat:=0
 have tw11:Nat:=0
 have tw17:Nat:=0
 have tw21:Nat:=0
 have tw33:Nat:=0
 have qkn2:Nat:=0
 have qkn5:Nat:=0
 have qkG3:Nat:=0
 have qkG4:Nat:=0
 go_enter Tryz.func4,Tryz.ntmps4
 go_wp2_with (first
  | (clear tw2;go_at_call 8;go_must (refine (HRkB1.out _ (HY.out.below hm.below)).mono ?_);rintro e w2 ⟨s2,he,hs,hb⟩;subst he;have hw2s:SlT (fun _=>True) w2 s2 kB1.l:=hs;have hbw:Below w.heap.size w w2:=HT.out.trans ((hm.call hb).below.mono HT.out.size);have hyw:Rdy w2:=HY.out.below (hm.call hb).below;replace HY:Hid (Rdy w2):=hyw;replace HT:Hid (Below w.heap.size w w2):=hbw;clear hyw hbw hm;have hm:=Mem.start w2;have H2:Hid (SlT (fun _=>True) w2 s2 kB1.l):=hw2s;clear hw2s;clear hs hb)
  | (clear tw3;go_at_call 8;go_must (refine (HRkk1.out _ (HY.out.below hm.below)).mono ?_);rintro e w3 ⟨s3,he,hs,hb⟩;subst he;have hw3s:SlT (fun _=>True) w3 s3 kk1.l:=hs;have H3:Hid (SlT (fun _=>True) w3 s2 kB1.l∧SlT (fun _=>True) w3 s3 kk1.l):=⟨H2.out.below (hm.call hb).below,hw3s⟩;have hbw:Below w.heap.size w w3:=HT.out.trans ((hm.call hb).below.mono HT.out.size);have hyw:Rdy w3:=HY.out.below (hm.call hb).below;replace HY:Hid (Rdy w3):=hyw;replace HT:Hid (Below w.heap.size w w3):=hbw;clear hyw hbw hm;have hm:=Mem.start w3;clear hw3s;clear hs hb)
  | (clear tw4;go_at_call 8;go_must (refine (HRkB3.out _ (HY.out.below hm.below)).mono ?_);rintro e w4 ⟨s4,he,hs,hb⟩;subst he;have hw4s:SlT (fun _=>True) w4 s4 kB3.l:=hs;have H4:Hid (SlT (fun _=>True) w4 s2 kB1.l∧SlT (fun _=>True) w4 s3 kk1.l∧SlT (fun _=>True) w4 s4 kB3.l):=⟨H3.out.1.below (hm.call hb).below,H3.out.2.below (hm.call hb).below,hw4s⟩;have hbw:Below w.heap.size w w4:=HT.out.trans ((hm.call hb).below.mono HT.out.size);have hyw:Rdy w4:=HY.out.below (hm.call hb).below;replace HY:Hid (Rdy w4):=hyw;replace HT:Hid (Below w.heap.size w w4):=hbw;clear hyw hbw hm;have hm:=Mem.start w4;clear hw4s;clear hs hb)
  | ((with_reducible refine af (some 5) (.buildSlice 22 3 #[(0,.tmp 2),(1,.tmp 3),(2,.tmp 4)]) ?_);go_must (refine wpl_bslT3 kB1 kk1 kB3 s2 s3 s4 rfl rfl rfl rfl hm ?_);clear hm;intro w5 g5 hb5 hg5 hm;have HB5:Hid (SlT (fun _=>True) w5 (.slice (some ⟨g5,0,none⟩) 3 3) kBl):=slt_three (hm.get 0 rfl) (H4.out.1.below hb5) (H4.out.2.1.below hb5) (H4.out.2.2.below hb5) trivial;have hyw:Rdy w5:=HY.out.below (hm.below);have hbw:Below w.heap.size w w5:=HT.out.trans (hm.below.mono HT.out.size);replace HY:Hid (Rdy w5):=hyw;replace HT:Hid (Below w.heap.size w w5):=hbw;clear hyw hbw hm hb5 hg5;have hm:=Mem.start w5)
  | (clear tw7;go_at_call 8;go_must (refine (HRkn2.out _ (HY.out.below hm.below)).mono ?_);rintro e w7 ⟨s7,he,hs,hb⟩;subst he;have hw7s:SlT (fun _=>True) w7 s7 kn2.l:=hs;have hb5:SlT (fun _=>True) w7 (.slice (some ⟨g5,0,none⟩) 3 3) kBl:=HB5.out.below (hm.call hb).below;replace HB5:Hid (SlT (fun _=>True) w7 (.slice (some ⟨g5,0,none⟩) 3 3) kBl):=hb5;clear hb5;have hbw:Below w.heap.size w w7:=HT.out.trans ((hm.call hb).below.mono HT.out.size);have hyw:Rdy w7:=HY.out.below (hm.call hb).below;replace HY:Hid (Rdy w7):=hyw;replace HT:Hid (Below w.heap.size w w7):=hbw;clear hyw hbw hm;have hm:=Mem.start w7;have HKkn2:Hid (∀W,Below w7.heap.size w7 W→Calls Tryz.prog 7 #[.slice (some ⟨g5,0,none⟩) 3 3,.agg (tcs kn2 s7).toArray] W fun e w'=>e=.returned (.bool true)∧Below W.heap.size W w'):=(fun W hW=>by have h:=cq (F:=fun _=>True) (G:=fun _=>True) kBl kn2 (.slice (some ⟨g5,0,none⟩) 3 3) s7 W (HB5.out.below hW) (hw7s.below hW) (fun h=>kT_le _ (bf.1 h).1) (by simp [kBl]);rw [decide_eq_true kKn1] at h;exact h);clear hs hb)
  | (clear tw11;go_at_call 8;go_must (refine (HRkn5.out _ (HY.out.below hm.below)).mono ?_);rintro e w11 ⟨s11,he,hs,hb⟩;subst he;have hw11s:SlT (fun _=>True) w11 s11 kn5.l:=hs;have hb5:SlT (fun _=>True) w11 (.slice (some ⟨g5,0,none⟩) 3 3) kBl:=HB5.out.below (hm.call hb).below;replace HB5:Hid (SlT (fun _=>True) w11 (.slice (some ⟨g5,0,none⟩) 3 3) kBl):=hb5;clear hb5;have hbw:Below w.heap.size w w11:=HT.out.trans ((hm.call hb).below.mono HT.out.size);have hyw:Rdy w11:=HY.out.below (hm.call hb).below;replace HY:Hid (Rdy w11):=hyw;replace HT:Hid (Below w.heap.size w w11):=hbw;clear hyw hbw hm;have hm:=Mem.start w11;have HKkn5:Hid (∀W,Below w11.heap.size w11 W→Calls Tryz.prog 7 #[.slice (some ⟨g5,0,none⟩) 3 3,.agg (tcs kn5 s11).toArray] W fun e w'=>e=.returned (.bool false)∧Below W.heap.size W w'):=(fun W hW=>by have h:=cq (F:=fun _=>True) (G:=fun _=>True) kBl kn5 (.slice (some ⟨g5,0,none⟩) 3 3) s11 W (HB5.out.below hW) (hw11s.below hW) (fun h=>kT_le _ (bf.1 h).1) (by simp [kBl]);rw [decide_eq_false kKn2] at h;exact h);clear hs hb)
  | (clear tw17;go_at_call 8;go_must (refine (HRkG3.out _ (HY.out.below hm.below)).mono ?_);rintro e w17 ⟨s17,he,hs,hb⟩;subst he;have hw17s:SlT (fun _=>True) w17 s17 kG3.l:=hs;have hb5:SlT (fun _=>True) w17 (.slice (some ⟨g5,0,none⟩) 3 3) kBl:=HB5.out.below (hm.call hb).below;replace HB5:Hid (SlT (fun _=>True) w17 (.slice (some ⟨g5,0,none⟩) 3 3) kBl):=hb5;clear hb5;have hbw:Below w.heap.size w w17:=HT.out.trans ((hm.call hb).below.mono HT.out.size);have hyw:Rdy w17:=HY.out.below (hm.call hb).below;replace HY:Hid (Rdy w17):=hyw;replace HT:Hid (Below w.heap.size w w17):=hbw;clear hyw hbw hm;have hm:=Mem.start w17;have HKkG3:Hid (∀W,Below w17.heap.size w17 W→Calls Tryz.prog 7 #[.slice (some ⟨g5,0,none⟩) 3 3,.agg (tcs kG3 s17).toArray] W fun e w'=>e=.returned (.bool true)∧Below W.heap.size W w'):=(fun W hW=>by have h:=cq (F:=fun _=>True) (G:=fun _=>True) kBl kG3 (.slice (some ⟨g5,0,none⟩) 3 3) s17 W (HB5.out.below hW) (hw17s.below hW) (fun h=>kT_le _ (bf.1 h).1) (by simp [kBl]);rw [decide_eq_true kKn3] at h;exact h);clear hs hb)
  | (clear tw21;go_at_call 8;go_must (refine (HRkG4.out _ (HY.out.below hm.below)).mono ?_);rintro e w21 ⟨s21,he,hs,hb⟩;subst he;have hw21s:SlT (fun _=>True) w21 s21 kG4.l:=hs;have hb5:SlT (fun _=>True) w21 (.slice (some ⟨g5,0,none⟩) 3 3) kBl:=HB5.out.below (hm.call hb).below;replace HB5:Hid (SlT (fun _=>True) w21 (.slice (some ⟨g5,0,none⟩) 3 3) kBl):=hb5;clear hb5;have hbw:Below w.heap.size w w21:=HT.out.trans ((hm.call hb).below.mono HT.out.size);have hyw:Rdy w21:=HY.out.below (hm.call hb).below;replace HY:Hid (Rdy w21):=hyw;replace HT:Hid (Below w.heap.size w w21):=hbw;clear hyw hbw hm;have hm:=Mem.start w21;have HKkG4:Hid (∀W,Below w21.heap.size w21 W→Calls Tryz.prog 7 #[.slice none 0 0,.agg (tcs kG4 s21).toArray] W fun e w'=>e=.returned (.bool false)∧Below W.heap.size W w'):=(fun W hW=>by have h:=cq (F:=fun _=>True) (G:=fun _=>True) [] kG4 (.slice none 0 0) s21 W (SlT.nil (F:=fun _=>True)) (hw21s.below hW) (fun h=>Nat.le_trans (dn _ _) (by have h9:=(bf.1 h).1;simp [webWs];omega)) (Nat.zero_le _);rw [decide_eq_false kKn4] at h;exact h);clear hs hb)
  | (clear tw33;go_at_call 8;go_must (refine (HRkn2.out _ (HY.out.below hm.below)).mono ?_);rintro e w33 ⟨s33,he,hs,hb⟩;subst he;have hw33s:SlT (fun _=>True) w33 s33 kn2.l:=hs;have hb5:SlT (fun _=>True) w33 (.slice (some ⟨g5,0,none⟩) 3 3) kBl:=HB5.out.below (hm.call hb).below;replace HB5:Hid (SlT (fun _=>True) w33 (.slice (some ⟨g5,0,none⟩) 3 3) kBl):=hb5;clear hb5;have hbw:Below w.heap.size w w33:=HT.out.trans ((hm.call hb).below.mono HT.out.size);have hyw:Rdy w33:=HY.out.below (hm.call hb).below;replace HY:Hid (Rdy w33):=hyw;replace HT:Hid (Below w.heap.size w w33):=hbw;clear hyw hbw hm;have hm:=Mem.start w33;have HMN:Hid (∀W,Below w33.heap.size w33 W→Calls Tryz.prog 10 #[.slice (some ⟨g5,0,none⟩) 3 3,.agg (tcs kn2 s33).toArray] W fun e w'=>∃p c,e=.returned (.slice p 2 c)∧Below W.heap.size W w'):=(fun W hW=>(min_any (F:=fun _=>True) (G:=fun _=>True) kBl kn2 (.slice (some ⟨g5,0,none⟩) 3 3) s33 W (HB5.out.below hW) (hw33s.below hW) (fun h=>kT_le _ (bf.1 h).1) (by simp [kBl])).mono (by rintro e w' ⟨v,he,hs,hb⟩;obtain ⟨p,c,hv,_⟩:=hs.len;rw [kMin] at hv;exact ⟨p,c,by rw [he,hv],hb⟩));clear hs hb)
  | (clear qkn2;go_at_call 7;go_must (refine (HKkn2.out _ hm.below).mono ?_);rintro e w9 ⟨he,hb⟩;subst he;replace hm:=hm.call hb;clear hb)
  | (clear qkn5;go_at_call 7;go_must (refine (HKkn5.out _ hm.below).mono ?_);rintro e w9 ⟨he,hb⟩;subst he;replace hm:=hm.call hb;clear hb)
  | (clear qkG3;go_at_call 7;go_must (refine (HKkG3.out _ hm.below).mono ?_);rintro e w9 ⟨he,hb⟩;subst he;replace hm:=hm.call hb;clear hb)
  | (clear qkG4;go_at_call 7;go_must (refine (HKkG4.out _ hm.below).mono ?_);rintro e w9 ⟨he,hb⟩;subst he;replace hm:=hm.call hb;clear hb)
  | (go_at_call 9;go_must (refine (all_any (F:=fun _=>True) kBl (.slice (some ⟨g5,0,none⟩) 3 3) _ (HB5.out.below hm.below) (by rw [kT_len];omega) (by simp [kBl])).mono ?_);rintro e w27 ⟨v27,he,L27,hL27,hs27,hb⟩;obtain ⟨p27,c27,hv27,_⟩:=hs27.len;rw [kAll hL27] at hv27;subst hv27;subst he;replace hm:=hm.call hb;clear hb hs27 hL27)
  | (go_at_call 10;go_must (refine (HMN.out _ hm.below).mono ?_);rintro e w34 ⟨p34,c34,he,hb⟩;subst he;replace hm:=hm.call hb;clear hb))
 go_ret
 exact ⟨rfl,HT.out.trans (hm.below.mono HT.out.size)⟩
open Go Go.ChangeShapes Go.WideShapes Go.ChangeAt Go.RowKit
theorem own:ownKnob Tryz.prog.godebug=none:=by kernel_rfl
theorem dX:laidOutB Tryz.prog=true:=by kernel_rfl
theorem esx_of_var {W:World} {tp:TypeId} {p:Value} (h:W.var? Tryz.prog (Rows.closureMadeRow.named.getD 5 default)=some #[.iface tp p]):Esx W:=by
 have h0:=World.var?_cell (g:=1) (by kernel_rfl) h 0
 exact ⟨tp,p,by simpa using h0⟩
theorem esx_of {W:World} (h:laidMetH Tryz.prog Rows.closureMadeRow.laid W):Esx W:=by
 have h0:laidMet Tryz.prog Rows.closureMadeRow.laid W:=h
 have h5:=h0.tail.tail.tail.tail.tail
 obtain ⟨a,s,hv,_⟩:=laid_sentinel h5 (g:=1) (by kernel_rfl) (by kernel_rfl) Tryz.underlying95 (fun u hu=>typeName_ptr_named (nm := "errors.errorString") (by kernel_rfl) (by kernel_rfl) (by decide) u (by rw [hu];decide)) Tryz.underlying173 Tryz.underlying175 rfl rfl Tryz.underlying9 (by kernel_rfl) (by kernel_rfl)
 exact esx_of_var hv
theorem ten_of {W:World} (h:W.ShapedOpen Tryz.prog):10≤W.heap.size:=by
 have h0:9<(begin Tryz.prog (fun _ _=>0) default).world.heap.size:=by decide +kernel
 obtain ⟨o,_,ho,_⟩:=h.2 9 (of_decide_eq_true (by kernel_rfl)) h0
 exact (Array.getElem?_eq_some_iff.1 ho).1
open Go Go.RowKit
def Okd (K:List Tm) (t:Tm):Prop:=(t.k=4→∀x∈t.l,x∈K)∧(t.k=3→∀a b,t.l=[a,b]→Syn (· ∈ K) a→b∈K)
structure Taken (bl K:List Tm):Prop where
 base:∀t,inB bl t→t∈K
 okd:∀t∈K,Okd K t
 der:∀t∈K,Der (inB bl) t
def subL:Tm→List Tm:=foldT fun t r=>t::r.flatten
def add1 [∀p:Prop,Decidable p] (t:Tm) (T:List Tm):List Tm:=if t∈T then T else T++[t]
def prF [∀p:Prop,Decidable p] (t:Tm) (r:List (List Tm→List Tm)) (T:List Tm):List Tm:=r.foldl (fun a g=>g a) (add1 t T)
def prW [∀p:Prop,Decidable p]:Tm→List Tm→List Tm:=foldT prF
def prWs [∀p:Prop,Decidable p] (l:List Tm) (T:List Tm):List Tm:=l.foldl (fun a x=>prW x a) T
open Classical
open Go Go.RowKit
section
variable {a:Act} {w:World} {dst:Option Tmp} {typ:TypeId} {pos:String} {aft:Array Edge} {gd:Option (Nat×Bool)}
end
section
variable {ops:Array Oper} {rest:List Oper} {a:Act} {w w0:World} {Q:Exit→Act→World→Prop} {dst:Option Tmp} {typ:TypeId} {pos:String} {aft:Array Edge} {gd:Option (Nat×Bool)} {S:List Nat} {rows:List (Nat×List Value×TypeId)}
theorem dz {x:Operand} (t:Tm) (s:Value) (hw:Region.wanted {dst:=dst,op:=.buildSlice 22 1 #[(0,x)],type:=typ,pos:=pos,after:=aft,guard:=gd} (yielded ops a.tmps)=true) (hx:a.eval x=.agg (tcs t s).toArray) (hm:Mem w0 S w rows)
  (h:∀w' g,Below w.heap.size w w'→w.heap.size≤g→Mem w0 S w' ((g,tcs t s,24)::rows)→wpList Tryz.prog ops Q rest (a.put dst (.slice (some ⟨g,0,none⟩) 1 1)) w') :
  wpList Tryz.prog ops Q ({dst:=dst,op:=.buildSlice 22 1 #[(0,x)],type:=typ,pos:=pos,after:=aft,guard:=gd}::rest) a w:=by
 refine wpList_step fun K hK=>?_
 rw [if_pos hw]
 have hh:=hK _ _ (h _ _ ((Below.refl _ _).alloc (Nat.le_refl _) _) (Nat.le_refl _) (hm.alloc (tcs t s) 24))
 unfold Oper.wp execOp
 simp only [List.map_toArray,List.map_cons,List.map_nil,hx,run_bslK (P:=Tryz.prog) w _ (tcs t s) bc bV rfl rfl,Sem.run_bind,Sem.run_pure,Result.andThen_ok]
 exact hh
end
theorem sum_filter (p:Tm→Bool) (l:List Tm):((l.filter p).map cnt).sum≤(l.map cnt).sum:=by
 induction l with
 | nil=>simp
 | cons x l ih =>
  rw [List.filter_cons]
  split
  ·simp only [List.map_cons,List.sum_cons];omega
  ·simp only [List.map_cons,List.sum_cons];omega
theorem bA {bl:List Tm} {gt:Tm} (h:cnt gt+(bl.map cnt).sum≤380):(webW gt (webWs (bl.filter isT) [])).length≤380:=by
 have h1:=webWs_len (bl.filter isT) []
 have h2:=sum_filter isT bl
 have h3:=dn gt (webWs (bl.filter isT) [])
 simp only [List.length_nil] at h1
 omega
def Few (l:List Tm):Prop:=l.length≤10∧∀x∈l,cnt x≤20
theorem few_sum {l:List Tm} {m:Nat} (h:∀x∈l,cnt x≤m):(l.map cnt).sum≤l.length * m:=by
 induction l with
 | nil=>simp
 | cons x l ih =>
  have h1:=h x (List.mem_cons_self ..)
  have h2:=ih fun y hy=>h y (List.mem_cons_of_mem _ hy)
  simp only [List.map_cons,List.sum_cons,List.length_cons,Nat.succ_mul]
  omega
theorem OT.cells {base:Nat} {w:World} {b o n cap:Nat} {l:List Tm} (h:OT base w (.slice (some ⟨b,o,none⟩) n cap) l) {i:Nat} {t:Tm} (ht:l[i]?=some t) :
  ∃p m c,w.cell? ⟨b,o+i * 3,none⟩=some (.int .i64 t.k)∧w.cell? ⟨b,o+i * 3+1,none⟩=some (.int .i64 t.n)∧w.cell? ⟨b,o+i * 3+2,none⟩=some (.slice p m c)∧m=t.l.length∧SlT (FO w (.slice (some ⟨b,o,none⟩) n cap)) w (.slice p m c) t.l:=by
 obtain ⟨cs,ho,ht2⟩:=h
 obtain ⟨q,c,hv,_,_,hs⟩:=bN ho
 simp only [Value.slice.injEq] at hv
 obtain ⟨rfl,hl,rfl⟩:=hv
 have h0:0<l.length:=by have:=(List.getElem?_eq_some_iff.1 ht).1;omega
 obtain ⟨b',o',hp,hseg⟩:=hs h0
 simp only [Option.some.injEq,Addr.mk.injEq] at hp
 obtain ⟨rfl,rfl,_⟩:=hp
 obtain ⟨s,e1,e2,e3,e4⟩:=ht2.get ht
 rw [bq] at e4
 obtain ⟨ps,cp,hv2,_⟩:=e4.len
 subst hv2
 refine ⟨ps,_,cp,hseg _ _ e1,?_,?_,rfl,e4⟩
 ·have:=hseg _ _ e2;rw [←Nat.add_assoc] at this;exact this
 ·have:=hseg _ _ e3;rw [←Nat.add_assoc] at this;exact this
theorem OT.row {base g:Nat} {w:World} {t:Tm} {s:Value} {F:Nat→Prop} (hr:Row w g (tcs t s) 24) (hb:base≤g) (hs:SlT F w s t.l) (hF:∀b,F b→b<w.heap.size∧b≠g):OT base w (.slice (some ⟨g,0,none⟩) 1 1) [t]:=by
 refine ⟨tcs t s,⟨rfl,Or.inr ⟨g,1,(tcs t s).toArray,rfl,hb,hr,Nat.le_refl _,by unfold maxLen;omega,rfl,rfl⟩⟩,?_⟩
 refine ⟨s,[],rfl,(bq t s).2 (hs.weak fun b hb=>⟨(hF b hb).1,fun he=>(hF b hb).2 (Option.some.inj he)⟩),rfl⟩
theorem OT.ne {base:Nat} {w:World} {v:Value} {l:List Tm} (h:OT base w v l) {g:Nat} (hg:w.heap.size≤g):some g≠v.ownBlock:=fun he=>by
 have:=(h.lt he.symm).2
 omega
theorem bp {F:Nat→Prop} (l:List Tm) (p:Option Addr) (n c:Nat) (w:World) (r:Bool) (hr:r=true↔Few l) (hn:n=l.length) (hn4:n≤maxLen) (hs:SlT F w (.slice p n c) l) :
  Calls Tryz.prog 5 #[.slice p n c] w fun e w'=>e=.returned (.bool r)∧Below w.heap.size w w':=by
 have hm:=Mem.start w
 have HN:Hid (∀_:Unit,n=l.length):=fun _=>hn
 have HLL:Hid (SlT F w (.slice p n c) l):=hs
 have HR:Hid (r=true↔Few l):=hr
 have hn5:n≤9223372036854775807:=by unfold maxLen at hn4;omega
 clear hn hs hr hn4
 go_enter Tryz.func5,Tryz.ntmps5
 go_wp2_with fail
 go_loopw [3] (fun vk wr=>∃k:Nat,vk=.int .i64 (k:Int)∧k≤n∧Hid (Mem w [] wr [])∧Hid (∀j x,j<k→l[j]?=some x→cnt x≤20)) (fun vk _=>n - (intOf vk).toNat)
 case atStart=>exact ⟨0,rfl,Nat.zero_le _,hm,fun j x hj=>absurd hj (by omega)⟩
 case round =>
  clear hm
  obtain ⟨k,rfl,hkm,HMM,HNO⟩:=hrel
  by_cases hlt:k<n
  ·obtain ⟨x,hx⟩:∃x,l[k]?=some x:=⟨_,List.getElem?_eq_getElem (by rw [←HN.out ()];exact hlt)⟩
   have hm:=HMM.out
   obtain ⟨b,o,hp1⟩:=HLL.out.at (by omega)
   subst hp1
   obtain ⟨px,mx,cx,c0,c1,c2,hmx,hsx⟩:=(HLL.out.below hm.below).cells hx
   have HX:Hid (l[k]?=some x):=hx
   obtain ⟨d,hd⟩:∃d,d=min 21 (cnt x):=⟨_,rfl⟩
   have HC:Hid (∀W,Below wr.heap.size wr W→Calls Tryz.prog 11 #[.agg (tcs x (.slice px mx cx)).toArray,.int .i64 20] W fun e w'=>e=.returned (.int .i64 (d:Int))∧Below W.heap.size W w'):=fun W hW=>by
    have h9:=ea x 20 (.slice px mx cx) W (by omega) (hsx.below hW)
    rw [hd]
    exact h9
   have hki:(k:Int)<(n:Int):=by omega
   have HBW:Hid (Below wr.heap.size wr wr):=Below.refl _ _
   by_cases hc:cnt x≤20
   ·have hd2:d≤20:=by omega
    have hdi:¬(20:Int)<(d:Int):=by omega
    have HNO2:Hid (∀j x,j<k+1→l[j]?=some x→cnt x≤20):=fun j y hj hy=>by
     by_cases h:j=k
     ·subst h;rw [HX.out] at hy;rw [←Option.some.inj hy];exact hc
     ·exact HNO.out j y (by omega) hy
    clear hx hsx hmx HMM hc hd HNO
    go_wp2_with (first
     | ((with_reducible refine af (some 12) (.indexAddr 22 (.tmp 10) (.tmp 11)) ?_);go_must (refine aa (.pointer (some ⟨b,o+k * 3,none⟩)) rfl (aB k rfl rfl rfl hlt) ?_))
     | ((with_reducible refine af (some 13) (.load 24 (.tmp 12)) ?_);go_must (refine aa (.agg (tcs x (.slice px mx cx)).toArray) rfl (aJ rfl c0 c1 c2) ?_))
     | (go_at_call 11;go_must (refine (HC.out _ HBW.out).mono ?_);rintro e w4 ⟨he,hb⟩;subst he;replace hm:=hm.call hb;clear hb))
    go_roundw
    case rel=>exact ⟨k+1,by go_num,by omega,hm,HNO2.out⟩
    case measure=>simp [intOf];omega
   ·have hdi:(20:Int)<(d:Int):=by omega
    have hd21:20<d:=by omega
    have hrf:r=false:=by
     cases hrr:r with
     | false=>rfl
     | true=>exact absurd ((HR.out.1 hrr).2 x (List.mem_of_getElem? HX.out)) hc
    clear hx hsx hmx HMM hc hd HNO
    go_wp2_with (first
     | ((with_reducible refine af (some 12) (.indexAddr 22 (.tmp 10) (.tmp 11)) ?_);go_must (refine aa (.pointer (some ⟨b,o+k * 3,none⟩)) rfl (aB k rfl rfl rfl hlt) ?_))
     | ((with_reducible refine af (some 13) (.load 24 (.tmp 12)) ?_);go_must (refine aa (.agg (tcs x (.slice px mx cx)).toArray) rfl (aJ rfl c0 c1 c2) ?_))
     | (go_at_call 11;go_must (refine (HC.out _ HBW.out).mono ?_);rintro e w4 ⟨he,hb⟩;subst he;replace hm:=hm.call hb;clear hb))
    go_ret
    exact ⟨by rw [hrf];rfl,hm.below⟩
  ·have hkn:n=k:=by omega
   subst hkn
   have hni:¬(n:Int)<(n:Int):=by omega
   have HRN:Hid (∀_:Unit,r=decide ((n:Int)≤10)):=fun _=>by
    rw [Bool.eq_iff_iff,HR.out,decide_eq_true_iff]
    constructor
    ·intro h;have h1:=h.1;have h2:=HN.out ();omega
    ·intro h
     refine ⟨by have h2:=HN.out ();omega,fun x hx=>?_⟩
     obtain ⟨j,hj,he⟩:=List.getElem_of_mem hx
     exact HNO.out j x (by have h2:=HN.out ();omega) (by rw [List.getElem?_eq_getElem hj,he])
   have hm:=HMM.out
   clear HMM HNO
   go_wp2_with fail
   go_ret
   exact ⟨by rw [HRN.out ()];rfl,hm.below⟩
end Go.Proofs.YtcibhfcjbokdlabGreatDoor
