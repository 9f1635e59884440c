import Derived.Test.YtmlbjfklaehjnaaGreatDoorQc38
set_option maxRecDepth 100000
set_option maxHeartbeats 4000000
namespace Go.Proofs.YtmlbjfklaehjnaaGreatDoor
open Go Go.ChangeShapes Go.WideShapes Go.ChangeAt Go.RowKit
theorem un_bools:Tryz.prog.underlying 56=some (.slice 4):=Tryz.underlying56
theorem cells_bool:Tryz.prog.cellsOf 4=1:=by kernel_rfl
theorem open_bls {H:Type} {enc:TypeId×Value→H} {W:World} {base:Nat} {v:Value} {d:DataW H} {ps:List MemPlace} (hok:Value.okWide Tryz.prog W .any base 56 v) (h:DataW.Trod enc Tryz.prog W 0 (fun _=>true) true 56 v d ps) :
  ∃(p:Option Addr) (len cap b o:Nat) (B:Nat→Bool),v=.slice p len cap∧(0<len→p=some ⟨b,o,none⟩)∧∀i,i<len→W.cell? ⟨b,o+i,none⟩=some (.bool (B i)):=by
 obtain ⟨a,len,cap,rfl⟩:=okWide_slice un_bools hok
 obtain ⟨fuel,hf⟩:=h
 rcases Go.Deep.open_slice1 un_bools cells_bool hf with ⟨hcs,_⟩|⟨x,l,c,m,n,V,D,Pl,hcs,_,hl,_,hm,_,hel⟩
 ·simp [Value.cells] at hcs
  obtain ⟨rfl,rfl,rfl⟩:=hcs
  exact ⟨none,0,0,0,0,fun _=>false,rfl,fun h=>absurd h (by omega),fun i hi=>absurd hi (by omega)⟩
 ·simp [Value.cells] at hcs
  obtain ⟨rfl,rfl,rfl⟩:=hcs
  have hm':m=cap:=by simpa using hm
  by_cases h0:0<len
  ·obtain ⟨b,o,spot⟩:=x
   have hspot:spot=none:=by simpa [Addr.add] using World.cell?_spot (hel 0 (by omega)).1
   subst hspot
   obtain ⟨f,hf⟩:=Go.Deep.choose_lt (α:=Bool) (n:=len) (p:=fun i t=>V i=.bool t)
    (fun i hi=>by obtain ⟨q,h1,_⟩:=DataW.trod_bool Tryz.underlying4 (hel i (by omega)).2;simp only [List.cons.injEq,and_true] at h1;exact ⟨q,h1⟩)
   refine ⟨_,len,cap,b,o,f,rfl,fun _=>rfl,fun i hi=>?_⟩
   rw [←Go.WideShapes.add_plain,(hel i (by omega)).1,hf i hi]
  ·exact ⟨some x,len,cap,0,0,fun _=>false,rfl,fun h=>absurd h h0,fun i hi=>absurd hi (by omega)⟩
open Go Go.RowKit Go.Maps
section
variable {P:Program} {ops:Array Oper} {rest:List Oper} {a:Act} {w w0:World} {Q:Exit→Act→World→Prop} {dst:Option Tmp} {typ:TypeId} {pos:String} {aft:Array Edge} {gd:Option (Nat×Bool)} {S:List Nat} {rows:List (Nat×List Value×TypeId)}
theorem run_bsl2 (w:World) {t elem:TypeId} (z v0 v1:Value) (hu:P.underlying t=some (.slice elem)) (hi:(P.info? elem).map (fun i=>(i.zero,i.size))=some (some z,1)) (hz:z.cells=#[z]) (h0:v0.cells=#[v0]) (h1:v1.cells=#[v1]) :
  (Instr.buildSlice t 2 #[(0,v0),(1,v1)]).run P w=.ok (.slice (some ⟨w.heap.size,0,none⟩) 2 2) (w.alloc (.cells [v0,v1].toArray elem)):=by
 obtain ⟨hz1,hs1⟩:=zero_of_info hi
 cases hq:P.info? elem with
 | none=>simp [hq] at hi
 | some q =>
  have hs:q.size=1:=by simpa [hq] using hs1
  have e:Array.map (fun x=>([z][x % 1]?).getD default) (Array.range 2)=#[z,z]:=by
   apply Array.ext
   ·simp
   ·intro i h1 h2
    have h3:i=0∨i=1:=by
     have:i<2:=by simpa using h2
     omega
    rcases h3 with rfl|rfl<;>simp
  simp [Instr.buildSlice,run_underlying hu,sizeOf,typeInfo,hq,hs,hz1,hz,Instr.fill,h0,h1,newRow,newObj]
  rw [e]
  rfl
theorem wpl_bsl2 {t elem:TypeId} {x y:Operand} (z v0 v1:Value) (hu:P.underlying t=some (.slice elem)) (hi:(P.info? elem).map (fun i=>(i.zero,i.size))=some (some z,1)) (hz:z.cells=#[z]) (hx:a.eval x=v0) (hy:a.eval y=v1) (h0:v0.cells=#[v0]) (h1:v1.cells=#[v1]) (hm:Mem w0 S w rows)
  (h:∀w' g,Below w.heap.size w w'→Mem w0 S w' ((g,[v0,v1],elem)::rows)→wpList P ops Q rest (a.put dst (.slice (some ⟨g,0,none⟩) 2 2)) w') :
  wpList P ops Q ({dst:=dst,op:=.buildSlice t 2 #[(0,x),(1,y)],type:=typ,pos:=pos,after:=aft,guard:=none}::rest) a w:=by
 refine wpList_plain rfl fun K hK=>?_
 have hh:=hK _ _ (h _ _ ((Below.refl _ _).alloc (Nat.le_refl _) _) (hm.alloc [v0,v1] elem))
 unfold Oper.wp execOp
 simp only [List.map_toArray,List.map_cons,List.map_nil,hx,hy,run_bsl2 (P:=P) w z v0 v1 hu hi hz h0 h1,Sem.run_bind,Sem.run_pure,Result.andThen_ok]
 exact hh
end
theorem exec_ixI {P:Program} {a:Act} {w:World} {dst:Option Tmp} {typ:TypeId} {pos:String} {aft:Array Edge} {gd:Option (Nat×Bool)} {x ix:Operand} {t e:TypeId} (hu:P.underlying t=some (.slice e)) (hs:(P.info? e).map (·.size)=some 1) {b o n cap:Nat} (i:Nat) {ii:Int} (hx:a.eval x=.slice (some ⟨b,o,none⟩) n cap) (hix:a.eval ix=.int .i64 ii) (hii:ii=(i:Int)) (hi:i<n) :
  (execOp a.eval {dst:=dst,op:=.indexAddr t x ix,type:=typ,pos:=pos,after:=aft,guard:=gd}).run P w=.ok (.value (.pointer (some ⟨b,o+i,none⟩))) w:=by
 subst hii
 have h0:(0:Int)≤(i:Int)∧(i:Int)<(n:Int):=by omega
 cases hq:P.info? e with
 | none=>simp [hq] at hs
 | some q =>
  have hs1:q.size=1:=by simpa [hq] using hs
  have hsz:(sizeOf e).run P w=.ok 1 w:=by simp [sizeOf,typeInfo,hq,hs1]
  unfold execOp
  simp [hx,hix,Instr.indexAt,asIntOf,run_underlying hu,h0,aZ,hsz]
  omega
theorem mg {P:Program} {a:Act} {w:World} {dst:Option Tmp} {typ:TypeId} {pos:String} {aft:Array Edge} {gd:Option (Nat×Bool)} {x ix:Operand} {t e:TypeId} (hu:P.underlying t=some (.slice e)) (hs:(P.info? e).map (·.size)=some 1) {b n cap:Nat} (i:Nat) {ii:Int} (hx:a.eval x=.slice (some ⟨b,0,none⟩) n cap) (hix:a.eval ix=.int .i64 ii) (hii:ii=(i:Int)) (hi:i<n) :
  (execOp a.eval {dst:=dst,op:=.indexAddr t x ix,type:=typ,pos:=pos,after:=aft,guard:=gd}).run P w=.ok (.value (.pointer (some ⟨b,i,none⟩))) w:=by
 have h:=exec_ixI (dst:=dst) (typ:=typ) (pos:=pos) (aft:=aft) (gd:=gd) (w:=w) hu hs i hx hix hii hi
 rw [Nat.zero_add] at h
 exact h
theorem fU:Tryz.prog.underlying 63=some (.slice 28):=Tryz.underlying63
theorem ma:(Tryz.prog.info? 28).map (fun i=>(i.zero,i.size))=some (some (.slice none 0 0),1):=by kernel_rfl
theorem l8:(Tryz.prog.info? 28).map (fun i=>(i.zero,i.size,i.bytes))=some (some (.slice none 0 0),1,24):=by kernel_rfl
theorem notpg_u32:NotPg 25:=by unfold NotPg;decide
theorem notpg_prl:NotPg 28:=by unfold NotPg;decide
theorem notpg_pr:NotPg 44:=by unfold NotPg;decide
theorem own_row9 {w:World} {B n K g:Nat} {e:TypeId} {v:Value} {cs:List Value} (h:w.ownsRow B e K v n cs) (hg:v.ownBlock=some g):B≤g∧∃l,Row w g l e:=by
 rcases h.2 with ⟨rfl,_⟩|⟨g',cap,cur,rfl,hb,hh,_⟩
 ·simp [Value.ownBlock] at hg
 ·simp only [Value.ownBlock,Option.some.injEq] at hg
  subst hg
  exact ⟨hb,cur.toList,by unfold Row;rw [hh]⟩
theorem own_frG {w w':World} {B n K:Nat} {e:TypeId} {v:Value} {cs:List Value} (h:w.ownsRow B e K v n cs) (he:NotPg e) (hf:Fr w w'):w'.ownsRow B e K v n cs:=by
 refine ⟨h.1,?_⟩
 rcases h.2 with hn|⟨g,cap,cur,rfl,hb,hg,rest⟩
 ·exact .inl hn
 ·refine .inr ⟨g,cap,cur,rfl,hb,?_,rest⟩
  rw [hf g (Array.getElem?_eq_some_iff.1 hg).1 (gL (l:=cur.toList) he (by unfold Row;rw [hg]))]
  exact hg
theorem cH {w w':World} {B B2 n n2 K K2:Nat} {e e2:TypeId} {v v2:Value} {cs cs2:List Value} (h:w.ownsRow B e K v n cs) (h2:w.ownsRow B2 e2 K2 v2 n2 cs2) (he:e≠e2) (hg:w.grownBy w' v2.ownBlock):w'.ownsRow B e K v n cs:=by
 refine ⟨h.1,?_⟩
 rcases h.2 with hn|⟨g,cap,cur,rfl,hb,hh,rest⟩
 ·exact .inl hn
 ·refine .inr ⟨g,cap,cur,rfl,hb,?_,rest⟩
  rw [hg.block g (Array.getElem?_eq_some_iff.1 hh).1 (fun e9=>?_)]
  ·exact hh
  ·obtain ⟨_,l,hr⟩:=own_row9 h2 e9.symm
   unfold Row at hr
   rw [hr] at hh
   simp only [Option.some.injEq,Obj.cells.injEq] at hh
   exact he hh.2.1.symm
theorem Tr.grown {w0 w w':World} {gp pg n K:Nat} {R:List (List Pr)} {e:TypeId} {v:Value} {cs:List Value} (h:Tr w0 w gp pg R) (ho:w.ownsRow w0.heap.size e K v n cs) (he:NotPg e) (hg:w.grownBy w' v.ownBlock):Tr w0 w' gp pg R:=by
 obtain ⟨⟨g,mb,kv,kP,hs⟩,h1,h2,h3⟩:=h
 have u:UpdS (v.ownBlock.toList) w w':=⟨hg.os,hg.tape,hg.output,hg.size,fun q hq hn=>hg.block q hq (fun e=>hn (by rw [←e];simp))⟩
 refine ⟨⟨g,mb,kv,kP,PgS.updS hs u (fun q hq=>?_)⟩,h1,h2,h3⟩
 have hq2:v.ownBlock=some q:=by
  cases h9:v.ownBlock with
  | none=>rw [h9] at hq;simp at hq
  | some x=>rw [h9] at hq;simp at hq;rw [hq]
 obtain ⟨hb,l,hr⟩:=own_row9 ho hq2
 exact ⟨hb,gL he hr⟩
theorem own_formG {w:World} {B n K:Nat} {e:TypeId} {v:Value} {cs:List Value} (h:w.ownsRow B e K v n cs):∃p c,v=.slice p n c:=by
 rcases h.2 with ⟨h3,h4⟩|⟨g,cap,cur,h3,_⟩
 ·exact ⟨none,0,by rw [h3,h4]⟩
 ·exact ⟨_,_,h3⟩
theorem own_atG {w:World} {B n:Nat} {e:TypeId} {v:Value} {cs:List Value} (h:w.ownsRow B e 1 v n cs) {k:Nat} (hk:k<n):∃g c,v=.slice (some ⟨g,0,none⟩) n c:=by
 rcases h.2 with ⟨h3,h4⟩|⟨g,cap,cur,h3,_⟩
 ·omega
 ·exact ⟨g,cap,h3⟩
theorem own_cellG {w:World} {B n gi cap:Nat} {e:TypeId} {cs:List Value} (h:w.ownsRow B e 1 (.slice (some ⟨gi,0,none⟩) n cap) n cs) {k:Nat} (hk:k<n) {x:Value} (hx:cs[k]?=some x):w.cell? ⟨gi,k,none⟩=some x:=by
 rcases h.2 with hn|⟨g,cap',cur,he,hb,hg,h1,h2,h3,h4⟩
 ·omega
 ·simp only [Value.slice.injEq,Option.some.injEq,Addr.mk.injEq] at he
  obtain ⟨⟨rfl,_⟩,_⟩:=he
  have hr:Row w gi cur.toList e:=by unfold Row;rw [hg]
  rw [hr.cell k,←hx,←h4,List.getElem?_take]
  rw [if_pos (by omega)]
def rcs (rs:List Nat):List Value:=rs.map fun r=>.int .u32 ((r:Nat):Int)
def tcs (ts:List (Value×List Pr)):List Value:=ts.map fun x=>x.1
structure Sy (w0 w:World) (gp:Nat) (R:List (List Pr)) (rs:List Nat) (ts:List (Value×List Pr)) (vr vt:Value) (nr nt:Nat):Prop where
 tr:Tr w0 w gp 390 R
 ro:w.ownsRow w0.heap.size 25 1 vr nr (rcs rs)
 to:w.ownsRow w0.heap.size 28 1 vt nt (tcs ts)
 each:∀x∈ts,w.ownsRow w0.heap.size 44 2 x.1 x.2.length (prs x.2)
theorem Sy.start {w0 w:World} {gp:Nat} {R:List (List Pr)} (h:Tr w0 w gp 390 R):Sy w0 w gp R [] [] (.slice none 0 0) (.slice none 0 0) 0 0:=⟨h,World.ownsRow_nil _ _ _ _,World.ownsRow_nil _ _ _ _,fun x hx=>(by cases hx)⟩
theorem Sy.below {w0 w w':World} {gp:Nat} {R:List (List Pr)} {rs:List Nat} {ts:List (Value×List Pr)} {vr vt:Value} {nr nt:Nat} (h:Sy w0 w gp R rs ts vr vt nr nt) (hb:Below w.heap.size w w'):Sy w0 w' gp R rs ts vr vt nr nt:=⟨h.tr.below hb,bM h.ro hb,bM h.to hb,fun x hx=>bM (h.each x hx) hb⟩
theorem Sy.fr {w0 w w':World} {gp:Nat} {R:List (List Pr)} {rs:List Nat} {ts:List (Value×List Pr)} {vr vt:Value} {nr nt:Nat} {R':List (List Pr)} (h:Sy w0 w gp R rs ts vr vt nr nt) (ht:Tr w0 w' gp 390 R') (hf:Fr w w'):Sy w0 w' gp R' rs ts vr vt nr nt:=⟨ht,own_frG h.ro notpg_u32 hf,own_frG h.to notpg_prl hf,fun x hx=>own_frG (h.each x hx) notpg_pr hf⟩
theorem Sy.appR {w0 w w':World} {gp:Nat} {R:List (List Pr)} {rs:List Nat} {ts:List (Value×List Pr)} {vr vt:Value} {nr nt:Nat} {r:Nat} {v':Value} (h:Sy w0 w gp R rs ts vr vt nr nt) (ho:w'.ownsRow w0.heap.size 25 1 v' (nr+1) (rcs rs++[.int .u32 (r:Int)])) (hg:w.grownBy w' vr.ownBlock):Sy w0 w' gp R (rs++[r]) ts v' vt (nr+1) nt :=
 ⟨h.tr.grown h.ro notpg_u32 hg,by unfold rcs;rw [List.map_append];exact ho,cH h.to h.ro (by decide) hg,fun x hx=>cH (h.each x hx) h.ro (by decide) hg⟩
theorem Sy.appT {w0 w w':World} {gp:Nat} {R:List (List Pr)} {rs:List Nat} {ts:List (Value×List Pr)} {vr vt:Value} {nr nt:Nat} {l:List Pr} {v v':Value} (h:Sy w0 w gp R rs ts vr vt nr nt) (hv:w.ownsRow w0.heap.size 44 2 v l.length (prs l)) (ho:w'.ownsRow w0.heap.size 28 1 v' (nt+1) (tcs ts++[v])) (hg:w.grownBy w' vt.ownBlock):Sy w0 w' gp R rs (ts++[(v,l)]) vr v' nr (nt+1) :=
 ⟨h.tr.grown h.to notpg_prl hg,cH h.ro h.to (by decide) hg,by unfold tcs;rw [List.map_append];exact ho,fun x hx=>by
  rcases List.mem_append.1 hx with h1|h1
  ·exact cH (h.each x h1) h.to (by decide) hg
  ·simp only [List.mem_cons,List.not_mem_nil,or_false] at h1
   subst h1
   exact cH hv h.to (by decide) hg⟩
def Lk (R:List (List Pr)) (rs:List Nat) (ts:List (Value×List Pr)):Prop:=∀(j r:Nat) (x:Value×List Pr),rs[j]?=some r→ts[j]?=some x→R[r]?=some x.2
theorem Lk.more {R:List (List Pr)} {rs:List Nat} {ts:List (Value×List Pr)} {m:List Pr} (h:Lk R rs ts):Lk (R++[m]) rs ts:=fun j r x h1 h2=>at_more (h j r x h1 h2)
theorem Lk.snoc {R:List (List Pr)} {rs:List Nat} {ts:List (Value×List Pr)} {r:Nat} {v:Value} {l:List Pr} (h:Lk R rs ts) (hl:rs.length=ts.length) (hr:R[r]?=some l):Lk R (rs++[r]) (ts++[(v,l)]):=fun j r' x h1 h2=>by
 rcases Nat.lt_or_ge j rs.length with hj|hj
 ·rw [List.getElem?_append_left hj] at h1
  rw [List.getElem?_append_left (by omega)] at h2
  exact h j r' x h1 h2
 ·rw [List.getElem?_append_right hj] at h1
  rw [List.getElem?_append_right (by omega),←hl] at h2
  cases hk:j - rs.length with
  | zero =>
   rw [hk] at h1 h2
   simp only [List.getElem?_cons_zero,Option.some.injEq] at h1 h2
   rw [←h1,←h2]
   exact hr
  | succ k=>rw [hk] at h1;simp at h1
theorem del_L {w0 w:World} {gp pg:Nat} {R:List (List Pr)} (h:Tr w0 w gp pg R) {r:Nat} {l:List Pr} (hl:R[r]?=some l) (m:Nat) (hm:R.length=m) (key:ByteArray) (hh:hadP l key=true) (hg:GL (delP l key)) (hlt:m<pg) :
  Calls Tryz.prog 14 #[.pointer (some ⟨gp,0,none⟩),.int .u32 (r:Int),.string key] w fun e w'=>e=.returned (.tuple #[.int .u32 (m:Int),.bool true,.int .i64 0])∧Tr w0 w' gp pg (R++[delP l key])∧Fr w w':=by
 subst hm
 exact delHad_T h hl key hh hg hlt
theorem jt {a:Act} {w:World} {dst:Option Tmp} {typ:TypeId} {pos:String} {aft:Array Edge} {gd:Option (Nat×Bool)} {x:Operand} (n m:Nat) (hm:n % 16=m) (hx:a.eval x=.int .u16 (n:Int)) :
  (execOp a.eval {dst:=dst,op:=.binOp .rem 52 x (.const (.int .u16 16)) 52,type:=typ,pos:=pos,after:=aft,guard:=gd}).run Tryz.prog w=.ok (.value (.int .u16 (m:Int))) w:=by
 have h1:Int.tmod (n:Int) 16=(m:Int):=by
  rw [←hm,show (16:Int)=((16:Nat):Int) from rfl,Int.ofNat_tmod]
 unfold execOp
 simp only [hx]
 simp [Act.eval,eqGuard,binOp,go_sem,h1]
 try omega
theorem exec_cvi8 {a:Act} {w:World} {dst:Option Tmp} {typ:TypeId} {pos:String} {aft:Array Edge} {gd:Option (Nat×Bool)} {x:Operand} (m:Nat) (hm:m<256) (hx:a.eval x=.int .i64 (m:Int)) :
  (execOp a.eval {dst:=dst,op:=.convert 3 5 x,type:=typ,pos:=pos,after:=aft,guard:=gd}).run Tryz.prog w=.ok (.value (.int .u8 (m:Int))) w:=by
 have e:IntKind.u8.wrap (m:Int)=(m:Int):=by
  simp [IntKind.wrap,IntKind.bits,IntKind.signed]
  omega
 unfold execOp
 simp only [hx]
 simp [go_sem,e]
def vI (i:Nat):ByteArray:=strOf [118,((i:Nat):Int)]
theorem vI_size (i:Nat):(vI i).size=2:=by unfold vI;rw [fI];rfl
open Go Go.RowKit Go.Maps
theorem stays_many (p p1:Option Addr) (n c d c1:Nat) (h:14<n) (w:World) (ht:Tab w) (hq:QTab w) (hw2:2≤w.heap.size) :
  Calls Tryz.prog 6 #[.slice p n c,.slice p1 d c1] w fun e w'=>e=.returned (.bool true)∧Below w.heap.size w w':=by
 have h1:decide ((14:Int)<(n:Int))=true:=decide_eq_true (by omega)
 have h2:(14:Int)<(n:Int):=by omega
 have HT:Hid (Tab w):=ht
 have HQ:Hid (QTab w):=hq
 clear ht hq
 go_enter Tryz.func6,Tryz.ntmps6
 go_wp2_with (first
  | (go_at_call 9;refine (cP w HT.out HQ.out hw2).mono ?_;rintro e w1 ⟨rfl,hb⟩;have HB1:Hid (Below w.heap.size w w1):=hb;clear hb))
 go_ret
 exact ⟨rfl,HB1.out⟩
theorem stays_less (p p1:Option Addr) (n c d c1:Nat) (h:n≤14) (h2:d<n) (w:World) (ht:Tab w) (hq:QTab w) (hw2:2≤w.heap.size) :
  Calls Tryz.prog 6 #[.slice p n c,.slice p1 d c1] w fun e w'=>e=.returned (.bool true)∧Below w.heap.size w w':=by
 have h1:decide ((14:Int)<(n:Int))=false:=decide_eq_false (by omega)
 have h3:decide ((d:Int)<(n:Int))=true:=decide_eq_true (by omega)
 have h4:(d:Int)<(n:Int):=by omega
 have HT:Hid (Tab w):=ht
 have HQ:Hid (QTab w):=hq
 clear ht hq
 go_enter Tryz.func6,Tryz.ntmps6
 go_wp2_with (first
  | (go_at_call 9;refine (cP w HT.out HQ.out hw2).mono ?_;rintro e w1 ⟨rfl,hb⟩;have HB1:Hid (Below w.heap.size w w1):=hb;clear hb))
 go_ret
 exact ⟨rfl,HB1.out⟩
theorem stays_some (K:List Nat) (B:Nat→Bool) (p p1:Option Addr) (n c d c1 b1 o1:Nat) (hn:K.length=n) (h14:n≤14) (hnd:n≤d) (w:World) (hv:SlH w (.slice p n c) K) (hp1:0<d→p1=some ⟨b1,o1,none⟩) (hc1:∀i,i<d→w.cell? ⟨b1,o1+i,none⟩=some (.bool (B i))) (ht:Tab w) (hq:QTab w) (hw2:2≤w.heap.size) :
  Calls Tryz.prog 6 #[.slice p n c,.slice p1 d c1] w fun e w'=>e=.returned (.bool true)∧Below w.heap.size w w':=by
 have HT:Hid (Tab w):=ht
 have HQ:Hid (QTab w):=hq
 have HV:Hid (SlH w (.slice p n c) K):=hv
 have HN:Hid (K.length=n):=hn
 have HP1:Hid (0<d→p1=some ⟨b1,o1,none⟩):=hp1
 have HC1:Hid (∀i,i<d→w.cell? ⟨b1,o1+i,none⟩=some (.bool (B i))):=hc1
 have h1:decide ((14:Int)<(n:Int))=false:=decide_eq_false (by omega)
 have h2:decide ((d:Int)<(n:Int))=false:=decide_eq_false (by omega)
 clear ht hq hv hn hp1 hc1
 go_enter Tryz.func6,Tryz.ntmps6
 go_wp2_with (first
  | (go_at_call 9;refine (cP w HT.out HQ.out hw2).mono ?_;rintro e w1 ⟨rfl,hb⟩;have HB1:Hid (Below w.heap.size w w1):=hb;clear hb)
  | (go_at_call 10;refine (lx 390 (by omega) (by omega) _ (Tab.bel HT.out HB1.out) (QTab.bel HQ.out HB1.out) (Nat.le_trans hw2 HB1.out.size)).mono ?_;rintro e w2 ⟨gp,rfl,hs⟩;have H0:Hid (Tr w1 w2 gp 390 [[]]):=hs;clear hs))
 go_loopw [6,8,9,10] (fun va ur ut vi wr=>∃(i r:Nat) (R:List (List Pr)) (rs:List Nat) (ts:List (Value×List Pr)) (l:List Pr) (vr vt:Value),i≤n∧vi=.int .i64 (i:Int)∧va=.int .u32 (r:Int)∧ur=vr∧ut=vt∧Hid (Sy w1 wr gp R rs ts vr vt i i∧R[r]?=some l∧Wl 9 i l∧Lk R rs ts∧rs.length=i∧ts.length=i∧R.length≤1+i∧∀x∈ts,x.2.length≤14)) (fun _ _ _ vi _=>n - (RowKit.intOf vi).toNat)
 case atStart=>exact ⟨0,0,[[]],[],[],[],_,_,by omega,rfl,rfl,rfl,rfl,Sy.start H0.out,rfl,wl_nil 9,fun j r x h=>(by simp at h),rfl,rfl,Nat.le_refl _,fun x hx=>(by cases hx)⟩
 case round =>
  clear H0
  obtain ⟨i,r,R,rs,ts,l,vr,vt,hi,rfl,rfl,hur,hut,HR⟩:=hrel
  replace hur:=hur.symm
  replace hut:=hut.symm
  subst hur hut
  have HSY:Hid (Sy w1 wr gp R rs ts vr vt i i):=HR.out.1
  have HRA:Hid (R[r]?=some l):=HR.out.2.1
  have HWL:Hid (Wl 9 i l):=HR.out.2.2.1
  have HLK:Hid (Lk R rs ts):=HR.out.2.2.2.1
  have HRL:Hid (rs.length=i):=HR.out.2.2.2.2.1
  have HTL:Hid (ts.length=i):=HR.out.2.2.2.2.2.1
  have HRN:Hid (R.length≤1+i):=HR.out.2.2.2.2.2.2.1
  have HTE:Hid (∀x∈ts,x.2.length≤14):=HR.out.2.2.2.2.2.2.2
  clear HR
  by_cases hlt:i<n
  ·have hii:(i:Int)<(n:Int):=by omega
   have hid:(i:Int)<(d:Int):=by omega
   obtain ⟨b,o,hp,hbw,hc⟩:=SlH.at HV.out HN.out (by omega)
   subst hp
   have hp1:=HP1.out (by omega)
   subst hp1
   obtain ⟨x1,hx1⟩:∃x,x=K.getD i 0:=⟨_,rfl⟩
   have HCL:Hid (∀W,Below w1.heap.size w1 W→W.cell? ⟨b,o+i,none⟩=some (.int .u16 (x1:Int))):=fun W hW=>by
    have hb9:Below w.heap.size w W:=HB1.out.trans (hW.mono HB1.out.size)
    rw [World.cell?_of_block (w:=w) (a:=⟨b,o+i,none⟩) (hb9.block b hbw),hc i hlt,hx1]
   obtain ⟨bi,hbi⟩:∃x,x=B i:=⟨_,rfl⟩
   have HCB:Hid (∀W,Below w1.heap.size w1 W→W.cell? ⟨b1,o1+i,none⟩=some (.bool bi)):=fun W hW=>by
    have hb9:Below w.heap.size w W:=HB1.out.trans (hW.mono HB1.out.size)
    have h9:=HC1.out i (by omega)
    rw [World.cell?_of_block (w:=w) (a:=⟨b1,o1+i,none⟩) (hb9.block b1 (block_lt_of_cell h9)),h9,hbi]
   obtain ⟨x2,hx2⟩:∃x,x=x1 % 16:=⟨_,rfl⟩
   have HX2:Hid (x1 % 16=x2):=hx2.symm
   obtain ⟨s,hs⟩:∃s,s=nm x2:=⟨_,rfl⟩
   have HN1:Hid (∀_:Unit,nm x2=s):=fun _=>hs.symm
   have HF1:Hid (fitK s=true∧s.size=3):=by rw [hs];exact ⟨nm_fit _,d5 _⟩
   obtain ⟨N,hN⟩:∃N,N=l.length:=⟨_,rfl⟩
   have HNL:Hid (l.length=N):=hN.symm
   have hN14:N≤14:=by have h9:=HWL.out.2.2.2;omega
   have HT14:Hid (∀(v:Value),∀x∈ts++[(v,l)],x.2.length≤14):=fun v x hx=>by
    rcases List.mem_append.1 hx with h9|h9
    ·exact HTE.out x h9
    ·simp only [List.mem_cons,List.not_mem_nil,or_false] at h9
     rw [h9]
     show l.length≤14
     omega
   obtain ⟨m1,hm1⟩:∃m,m=R.length:=⟨_,rfl⟩
   have HL1:Hid (R.length=m1):=hm1.symm
   have hm390:m1<390:=by have h9:=HRN.out;omega
   have HM1:Hid (m1≤1+i):=by rw [hm1];exact HRN.out
   clear hx1 hx2 hs hN hm1 hc hbi
   cases bi with
   | true =>
    cases hhd:hadP l s with
    | true =>
     have HHD:Hid (hadP l s=true):=hhd
     have HW2:Hid (Wl 9 (i+1) (delP l s)):=(HWL.out.del s).up (by omega)
     have HGL:Hid (GL (delP l s)):=HW2.out.gl (by omega) (by omega)
     clear hhd
     go_wp2_with (first
      | (go_at_call 18;refine (kq HSY.out.tr HRA.out N HNL.out (by omega)).mono ?_;rintro e w3 ⟨p3,c3,rfl,ho,hb⟩;have HV3:Hid (w3.ownsRow w1.heap.size 44 2 (.slice p3 N c3) N (prs l)):=iy ho HSY.out.tr.bl.size;have HS3:Hid (Sy w1 w3 gp R rs ts vr vt i i):=HSY.out.below hb;clear ho hb HSY)
      | ((with_reducible refine aa (some 52) (.buildSlice 59 1 #[(0,.tmp 51)]) ?_);go_must (refine di rfl (.int .u32 0) (.int .u32 (r:Int)) dc j1 rfl rfl rfl (Mem.start w3) ?_);intro w4 g4 hb4 hm4;have HR4:Hid (Row w4 g4 [.int .u32 (r:Int)] 25):=hm4.get 0 rfl;have HS4:Hid (Sy w1 w4 gp R rs ts vr vt i i):=HS3.out.below hb4;have HV4:Hid (w4.ownsRow w1.heap.size 44 2 (.slice p3 N c3) N (prs l)):=bM HV3.out hb4;clear hb4 hm4 HS3 HV3)
      | ((with_reducible refine aa (some 53) (.call {callee:=.builtin .append,args:=#[.tmp 50,.tmp 52],argTypes:=#[59,59]}) ?_);go_must (refine cU (.int .u32 0) 1 4 rfl dc jG rfl (by omega) (by omega) HS4.out.ro HS4.out.tr.bl.size rfl rfl HR4.out rfl (by intro u hu;simp only [List.mem_cons,List.not_mem_nil,or_false] at hu;subst hu;rfl) (by omega) ?_);intro vr5 w5 ho5 hg5 _;have HS5:Hid (Sy w1 w5 gp R (rs++[r]) ts vr5 vt (i+1) i):=HS4.out.appR ho5 hg5;have HV5:Hid (w5.ownsRow w1.heap.size 44 2 (.slice p3 N c3) N (prs l)):=cH HV4.out HS4.out.ro (by decide) hg5;clear ho5 hg5 HS4 HV4 HR4)
      | ((with_reducible refine aa (some 56) (.buildSlice 63 1 #[(0,.tmp 55)]) ?_);go_must (refine di rfl (.slice none 0 0) (.slice p3 N c3) fU ma rfl rfl rfl (Mem.start w5) ?_);intro w6 g6 hb6 hm6;have HR6:Hid (Row w6 g6 [.slice p3 N c3] 28):=hm6.get 0 rfl;have HS6:Hid (Sy w1 w6 gp R (rs++[r]) ts vr5 vt (i+1) i):=HS5.out.below hb6;have HV6:Hid (w6.ownsRow w1.heap.size 44 2 (.slice p3 N c3) N (prs l)):=bM HV5.out hb6;clear hb6 hm6 HS5 HV5)
      | ((with_reducible refine aa (some 57) (.call {callee:=.builtin .append,args:=#[.tmp 54,.tmp 56],argTypes:=#[63,63]}) ?_);go_must (refine cU (.slice none 0 0) 1 24 rfl fU l8 rfl (by omega) (by omega) HS6.out.to HS6.out.tr.bl.size rfl rfl HR6.out rfl (by intro u hu;simp only [List.mem_cons,List.not_mem_nil,or_false] at hu;subst hu;rfl) (by omega) ?_);intro vt7 w7 ho7 hg7 _;have HS7:Hid (Sy w1 w7 gp R (rs++[r]) (ts++[(.slice p3 N c3,l)]) vr5 vt7 (i+1) (i+1)):=HS6.out.appT (by rw [HNL.out];exact HV6.out) ho7 hg7;clear ho7 hg7 HS6 HV6 HR6)
      | ((with_reducible refine aa (some 61) (.load 52 (.tmp 60)) ?_);go_must (refine ae (.int .u16 (x1:Int)) rfl (aj (.int .u16 (x1:Int)) (HCL.out _ HS7.out.tr.bl) rfl fL) ?_))
      | ((with_reducible refine aa (some 62) (.binOp .rem 52 (.tmp 61) (.const (.int .u16 16)) 52) ?_);go_must (refine ae (.int .u16 (x2:Int)) rfl (jt x1 x2 HX2.out rfl) ?_))
      | (go_at_call 21;refine (ei x2 _).mono ?_;rintro e w8 ⟨he,hb⟩;rw [HN1.out ()] at he;subst he;have HS8:Hid (Sy w1 w8 gp R (rs++[r]) (ts++[(.slice p3 N c3,l)]) vr5 vt7 (i+1) (i+1)):=HS7.out.below hb;clear hb HS7)
      | ((with_reducible refine aa (some 67) (.load 4 (.tmp 66)) ?_);go_must (refine ae (.bool true) rfl (aj (.bool true) (HCB.out _ HS8.out.tr.bl) rfl dm) ?_))
      | (go_at_call 14;refine (del_L HS8.out.tr HRA.out m1 HL1.out s HHD.out HGL.out hm390).mono ?_;rintro e w9 ⟨rfl,hs,hf⟩;have HS9:Hid (Sy w1 w9 gp (R++[delP l s]) (rs++[r]) (ts++[(.slice p3 N c3,l)]) vr5 vt7 (i+1) (i+1)):=HS8.out.fr hs hf;clear hs hf HS8))
     go_roundw
     case rel=>exact ⟨i+1,m1,_,rs++[r],ts++[(.slice p3 N c3,l)],_,_,_,by omega,by go_num,rfl,rfl,rfl,HS9.out,jQ HL1.out,HW2.out,Lk.more (Lk.snoc HLK.out (by rw [HRL.out,HTL.out]) HRA.out),by rw [List.length_append,HRL.out];rfl,by rw [List.length_append,HTL.out];rfl,by rw [List.length_append];show R.length+1≤1+(i+1);have h9:=HRN.out;omega,HT14.out _⟩
     case measure=>simp [RowKit.intOf];omega
    | false =>
     have HHD:Hid (hadP l s=false):=hhd
     clear hhd
     go_wp2_with (first
      | (go_at_call 18;refine (kq HSY.out.tr HRA.out N HNL.out (by omega)).mono ?_;rintro e w3 ⟨p3,c3,rfl,ho,hb⟩;have HV3:Hid (w3.ownsRow w1.heap.size 44 2 (.slice p3 N c3) N (prs l)):=iy ho HSY.out.tr.bl.size;have HS3:Hid (Sy w1 w3 gp R rs ts vr vt i i):=HSY.out.below hb;clear ho hb HSY)
      | ((with_reducible refine aa (some 52) (.buildSlice 59 1 #[(0,.tmp 51)]) ?_);go_must (refine di rfl (.int .u32 0) (.int .u32 (r:Int)) dc j1 rfl rfl rfl (Mem.start w3) ?_);intro w4 g4 hb4 hm4;have HR4:Hid (Row w4 g4 [.int .u32 (r:Int)] 25):=hm4.get 0 rfl;have HS4:Hid (Sy w1 w4 gp R rs ts vr vt i i):=HS3.out.below hb4;have HV4:Hid (w4.ownsRow w1.heap.size 44 2 (.slice p3 N c3) N (prs l)):=bM HV3.out hb4;clear hb4 hm4 HS3 HV3)
      | ((with_reducible refine aa (some 53) (.call {callee:=.builtin .append,args:=#[.tmp 50,.tmp 52],argTypes:=#[59,59]}) ?_);go_must (refine cU (.int .u32 0) 1 4 rfl dc jG rfl (by omega) (by omega) HS4.out.ro HS4.out.tr.bl.size rfl rfl HR4.out rfl (by intro u hu;simp only [List.mem_cons,List.not_mem_nil,or_false] at hu;subst hu;rfl) (by omega) ?_);intro vr5 w5 ho5 hg5 _;have HS5:Hid (Sy w1 w5 gp R (rs++[r]) ts vr5 vt (i+1) i):=HS4.out.appR ho5 hg5;have HV5:Hid (w5.ownsRow w1.heap.size 44 2 (.slice p3 N c3) N (prs l)):=cH HV4.out HS4.out.ro (by decide) hg5;clear ho5 hg5 HS4 HV4 HR4)
      | ((with_reducible refine aa (some 56) (.buildSlice 63 1 #[(0,.tmp 55)]) ?_);go_must (refine di rfl (.slice none 0 0) (.slice p3 N c3) fU ma rfl rfl rfl (Mem.start w5) ?_);intro w6 g6 hb6 hm6;have HR6:Hid (Row w6 g6 [.slice p3 N c3] 28):=hm6.get 0 rfl;have HS6:Hid (Sy w1 w6 gp R (rs++[r]) ts vr5 vt (i+1) i):=HS5.out.below hb6;have HV6:Hid (w6.ownsRow w1.heap.size 44 2 (.slice p3 N c3) N (prs l)):=bM HV5.out hb6;clear hb6 hm6 HS5 HV5)
      | ((with_reducible refine aa (some 57) (.call {callee:=.builtin .append,args:=#[.tmp 54,.tmp 56],argTypes:=#[63,63]}) ?_);go_must (refine cU (.slice none 0 0) 1 24 rfl fU l8 rfl (by omega) (by omega) HS6.out.to HS6.out.tr.bl.size rfl rfl HR6.out rfl (by intro u hu;simp only [List.mem_cons,List.not_mem_nil,or_false] at hu;subst hu;rfl) (by omega) ?_);intro vt7 w7 ho7 hg7 _;have HS7:Hid (Sy w1 w7 gp R (rs++[r]) (ts++[(.slice p3 N c3,l)]) vr5 vt7 (i+1) (i+1)):=HS6.out.appT (by rw [HNL.out];exact HV6.out) ho7 hg7;clear ho7 hg7 HS6 HV6 HR6)
      | ((with_reducible refine aa (some 61) (.load 52 (.tmp 60)) ?_);go_must (refine ae (.int .u16 (x1:Int)) rfl (aj (.int .u16 (x1:Int)) (HCL.out _ HS7.out.tr.bl) rfl fL) ?_))
      | ((with_reducible refine aa (some 62) (.binOp .rem 52 (.tmp 61) (.const (.int .u16 16)) 52) ?_);go_must (refine ae (.int .u16 (x2:Int)) rfl (jt x1 x2 HX2.out rfl) ?_))
      | (go_at_call 21;refine (ei x2 _).mono ?_;rintro e w8 ⟨he,hb⟩;rw [HN1.out ()] at he;subst he;have HS8:Hid (Sy w1 w8 gp R (rs++[r]) (ts++[(.slice p3 N c3,l)]) vr5 vt7 (i+1) (i+1)):=HS7.out.below hb;clear hb HS7)
      | ((with_reducible refine aa (some 67) (.load 4 (.tmp 66)) ?_);go_must (refine ae (.bool true) rfl (aj (.bool true) (HCB.out _ HS8.out.tr.bl) rfl dm) ?_))
      | (go_at_call 14;refine (delNot_T HS8.out.tr HRA.out s HHD.out).mono ?_;rintro e w9 ⟨rfl,hb⟩;have HS9:Hid (Sy w1 w9 gp R (rs++[r]) (ts++[(.slice p3 N c3,l)]) vr5 vt7 (i+1) (i+1)):=HS8.out.below hb;clear hb HS8))
     go_roundw
     case rel=>exact ⟨i+1,r,R,rs++[r],ts++[(.slice p3 N c3,l)],l,_,_,by omega,by go_num,rfl,rfl,rfl,HS9.out,HRA.out,HWL.out.up (by omega),Lk.snoc HLK.out (by rw [HRL.out,HTL.out]) HRA.out,by rw [List.length_append,HRL.out];rfl,by rw [List.length_append,HTL.out];rfl,by have h9:=HRN.out;omega,HT14.out _⟩
     case measure=>simp [RowKit.intOf];omega
   | false =>
    obtain ⟨vi,hvi⟩:∃v,v=vI i:=⟨_,rfl⟩
    have HVI:Hid (∀_:Unit,strOf [118,(i:Int)]=vi):=fun _=>hvi.symm
    have HVZ:Hid (vi.size=2):=by rw [hvi];exact vI_size i
    have HW2:Hid (Wl 9 (i+1) (insP l s vi)):=HWL.out.ins HF1.out.1 (by rw [HVZ.out];decide) (by rw [HVZ.out,HF1.out.2];decide)
    have HGL:Hid (GL (insP l s vi)):=HW2.out.gl (by omega) (by omega)
    clear hvi
    go_wp2_with (first
     | (go_at_call 18;refine (kq HSY.out.tr HRA.out N HNL.out (by omega)).mono ?_;rintro e w3 ⟨p3,c3,rfl,ho,hb⟩;have HV3:Hid (w3.ownsRow w1.heap.size 44 2 (.slice p3 N c3) N (prs l)):=iy ho HSY.out.tr.bl.size;have HS3:Hid (Sy w1 w3 gp R rs ts vr vt i i):=HSY.out.below hb;clear ho hb HSY)
     | ((with_reducible refine aa (some 52) (.buildSlice 59 1 #[(0,.tmp 51)]) ?_);go_must (refine di rfl (.int .u32 0) (.int .u32 (r:Int)) dc j1 rfl rfl rfl (Mem.start w3) ?_);intro w4 g4 hb4 hm4;have HR4:Hid (Row w4 g4 [.int .u32 (r:Int)] 25):=hm4.get 0 rfl;have HS4:Hid (Sy w1 w4 gp R rs ts vr vt i i):=HS3.out.below hb4;have HV4:Hid (w4.ownsRow w1.heap.size 44 2 (.slice p3 N c3) N (prs l)):=bM HV3.out hb4;clear hb4 hm4 HS3 HV3)
     | ((with_reducible refine aa (some 53) (.call {callee:=.builtin .append,args:=#[.tmp 50,.tmp 52],argTypes:=#[59,59]}) ?_);go_must (refine cU (.int .u32 0) 1 4 rfl dc jG rfl (by omega) (by omega) HS4.out.ro HS4.out.tr.bl.size rfl rfl HR4.out rfl (by intro u hu;simp only [List.mem_cons,List.not_mem_nil,or_false] at hu;subst hu;rfl) (by omega) ?_);intro vr5 w5 ho5 hg5 _;have HS5:Hid (Sy w1 w5 gp R (rs++[r]) ts vr5 vt (i+1) i):=HS4.out.appR ho5 hg5;have HV5:Hid (w5.ownsRow w1.heap.size 44 2 (.slice p3 N c3) N (prs l)):=cH HV4.out HS4.out.ro (by decide) hg5;clear ho5 hg5 HS4 HV4 HR4)
     | ((with_reducible refine aa (some 56) (.buildSlice 63 1 #[(0,.tmp 55)]) ?_);go_must (refine di rfl (.slice none 0 0) (.slice p3 N c3) fU ma rfl rfl rfl (Mem.start w5) ?_);intro w6 g6 hb6 hm6;have HR6:Hid (Row w6 g6 [.slice p3 N c3] 28):=hm6.get 0 rfl;have HS6:Hid (Sy w1 w6 gp R (rs++[r]) ts vr5 vt (i+1) i):=HS5.out.below hb6;have HV6:Hid (w6.ownsRow w1.heap.size 44 2 (.slice p3 N c3) N (prs l)):=bM HV5.out hb6;clear hb6 hm6 HS5 HV5)
     | ((with_reducible refine aa (some 57) (.call {callee:=.builtin .append,args:=#[.tmp 54,.tmp 56],argTypes:=#[63,63]}) ?_);go_must (refine cU (.slice none 0 0) 1 24 rfl fU l8 rfl (by omega) (by omega) HS6.out.to HS6.out.tr.bl.size rfl rfl HR6.out rfl (by intro u hu;simp only [List.mem_cons,List.not_mem_nil,or_false] at hu;subst hu;rfl) (by omega) ?_);intro vt7 w7 ho7 hg7 _;have HS7:Hid (Sy w1 w7 gp R (rs++[r]) (ts++[(.slice p3 N c3,l)]) vr5 vt7 (i+1) (i+1)):=HS6.out.appT (by rw [HNL.out];exact HV6.out) ho7 hg7;clear ho7 hg7 HS6 HV6 HR6)
     | ((with_reducible refine aa (some 61) (.load 52 (.tmp 60)) ?_);go_must (refine ae (.int .u16 (x1:Int)) rfl (aj (.int .u16 (x1:Int)) (HCL.out _ HS7.out.tr.bl) rfl fL) ?_))
     | ((with_reducible refine aa (some 62) (.binOp .rem 52 (.tmp 61) (.const (.int .u16 16)) 52) ?_);go_must (refine ae (.int .u16 (x2:Int)) rfl (jt x1 x2 HX2.out rfl) ?_))
     | (go_at_call 21;refine (ei x2 _).mono ?_;rintro e w8 ⟨he,hb⟩;rw [HN1.out ()] at he;subst he;have HS8:Hid (Sy w1 w8 gp R (rs++[r]) (ts++[(.slice p3 N c3,l)]) vr5 vt7 (i+1) (i+1)):=HS7.out.below hb;clear hb HS7)
     | ((with_reducible refine aa (some 67) (.load 4 (.tmp 66)) ?_);go_must (refine ae (.bool false) rfl (aj (.bool false) (HCB.out _ HS8.out.tr.bl) rfl dm) ?_))
     | ((with_reducible refine aa (some 81) (.convert 3 5 (.tmp 80)) ?_);go_must (refine ae (.int .u8 (i:Int)) rfl (exec_cvi8 i (by omega) rfl) ?_))
     | ((with_reducible refine aa (some 82) (.buildSlice 54 2 #[(0,.const (.int .u8 118)),(1,.tmp 81)]) ?_);go_must (refine wpl_bsl2 (.int .u8 0) (.int .u8 118) (.int .u8 (i:Int)) aq dN rfl rfl rfl rfl rfl (Mem.start w8) ?_);intro wb gb hbb hmb;have HRB:Hid (Row wb gb (u8s [118,(i:Int)]) 5):=hmb.get 0 rfl;have HSB:Hid (Sy w1 wb gp R (rs++[r]) (ts++[(.slice p3 N c3,l)]) vr5 vt7 (i+1) (i+1)):=HS8.out.below hbb;clear hbb hmb HS8)
     | ((with_reducible refine aa (some 83) (.convert 54 9 (.tmp 82)) ?_);go_must (refine ae (.string vi) rfl (by rw [←HVI.out ()];exact dW aq cf er [118,(i:Int)] rfl (aE HRB.out rfl (Nat.le_refl _))) ?_))
     | (go_at_call 11;refine (put_L HSB.out.tr HRA.out m1 HL1.out s vi HF1.out.1 (by rw [HVZ.out];decide) HGL.out hm390).mono ?_;rintro e w9 ⟨rfl,hs,hf⟩;have HS9:Hid (Sy w1 w9 gp (R++[insP l s vi]) (rs++[r]) (ts++[(.slice p3 N c3,l)]) vr5 vt7 (i+1) (i+1)):=HSB.out.fr hs hf;clear hs hf HSB))
    go_roundw
    case rel=>exact ⟨i+1,m1,_,rs++[r],ts++[(.slice p3 N c3,l)],_,_,_,by omega,by go_num,rfl,rfl,rfl,HS9.out,jQ HL1.out,HW2.out,Lk.more (Lk.snoc HLK.out (by rw [HRL.out,HTL.out]) HRA.out),by rw [List.length_append,HRL.out];rfl,by rw [List.length_append,HTL.out];rfl,by rw [List.length_append];show R.length+1≤1+(i+1);have h9:=HRN.out;omega,HT14.out _⟩
    case measure=>simp [RowKit.intOf];omega
  ·have hin:i=n:=by omega
   subst hin
   have hii:¬(i:Int)<(i:Int):=by omega
   obtain ⟨pr,cr,hvr⟩:=own_formG HSY.out.ro
   obtain ⟨pt,ct,hvt⟩:=own_formG HSY.out.to
   subst hvr hvt
   go_wp2_with fail
   go_loopw [14] (fun vi wr=>∃j:Nat,j≤i∧vi=.int .i64 (j:Int)∧Hid (Sy w1 wr gp R rs ts (.slice pr i cr) (.slice pt i ct) i i)) (fun vi _=>i - (RowKit.intOf vi).toNat)
   case atStart=>exact ⟨0,by omega,rfl,HSY.out⟩
   case round =>
    clear HSY
    obtain ⟨j,hj,rfl,HSY⟩:=hrel
    by_cases hlt:j<i
    ·have hji:(j:Int)<(i:Int):=by omega
     obtain ⟨gr,cr',hvr⟩:=own_atG HSY.out.ro hlt
     obtain ⟨gt,ct',hvt⟩:=own_atG HSY.out.to hlt
     cases hvr
     cases hvt
     obtain ⟨rj,hrj⟩:∃x,rs[j]?=some x:=⟨_,List.getElem?_eq_getElem (by rw [HRL.out];exact hlt)⟩
     obtain ⟨tj,htj⟩:∃x,ts[j]?=some x:=⟨_,List.getElem?_eq_getElem (by rw [HTL.out];exact hlt)⟩
     obtain ⟨vj,lj⟩:=tj
     have HRJ:Hid (R[rj]?=some lj):=HLK.out j rj (vj,lj) hrj htj
     obtain ⟨N,hN⟩:∃N,N=lj.length:=⟨_,rfl⟩
     have HNL:Hid (lj.length=N):=hN.symm
     have hN14:N≤14:=by rw [hN];exact HTE.out (vj,lj) (List.mem_of_getElem? htj)
     have HVJ:Hid (wr.ownsRow w1.heap.size 44 2 vj N (prs lj)):=by rw [hN];exact HSY.out.each (vj,lj) (List.mem_of_getElem? htj)
     obtain ⟨pj,cj,hvj⟩:=eI HVJ.out
     subst hvj
     have HSJ:Hid (SlP wr (.slice pj N cj) lj):=i8 HVJ.out HNL.out
     have HCR:Hid (wr.cell? ⟨gr,j,none⟩=some (.int .u32 (rj:Int))):=own_cellG HSY.out.ro hlt (by unfold rcs;rw [List.getElem?_map,hrj];rfl)
     have HCT:Hid (wr.cell? ⟨gt,j,none⟩=some (.slice pj N cj)):=own_cellG HSY.out.to hlt (by unfold tcs;rw [List.getElem?_map,htj];rfl)
     have HBR:Hid (Below wr.heap.size wr wr):=Below.refl _ _
     clear hrj htj hN HVJ
     go_wp2_with (first
      | ((with_reducible refine aa (some 99) (.indexAddr 59 (.tmp 97) (.tmp 98)) ?_);go_must (refine ae (.pointer (some ⟨gr,j,none⟩)) rfl (mg dc cK j rfl rfl rfl hlt) ?_))
      | ((with_reducible refine aa (some 100) (.load 25 (.tmp 99)) ?_);go_must (refine ae (.int .u32 (rj:Int)) rfl (aj (.int .u32 (rj:Int)) HCR.out rfl dC) ?_))
      | (go_at_call 18;refine (kq HSY.out.tr HRJ.out N HNL.out (by omega)).mono ?_;rintro e w3 ⟨p3,c3,rfl,ho,hb⟩;have HV3:Hid (SlP w3 (.slice p3 N c3) lj):=i8 ho HNL.out;replace HSJ:Hid (SlP w3 (.slice pj N cj) lj):=SlV.below HSJ.out hb;replace HCR:Hid (w3.cell? ⟨gr,j,none⟩=some (.int .u32 (rj:Int))):=dX HCR.out hb;replace HCT:Hid (w3.cell? ⟨gt,j,none⟩=some (.slice pj N cj)):=dX HCT.out hb;replace HSY:Hid (Sy w1 w3 gp R rs ts (.slice (some ⟨gr,0,none⟩) i cr) (.slice (some ⟨gt,0,none⟩) i ct) i i):=HSY.out.below hb;clear ho hb)
      | ((with_reducible refine aM (some 110) (.indexAddr 63 (.tmp 108) (.tmp 109)) (some (2,false)) ?_);go_must (refine ae (.pointer (some ⟨gt,j,none⟩)) rfl (mg fU lE j rfl rfl rfl hlt) ?_))
      | ((with_reducible refine aM (some 111) (.load 28 (.tmp 110)) (some (2,false)) ?_);go_must (refine ae (.slice pj N cj) rfl (aj (.slice pj N cj) HCT.out rfl bZ) ?_))
      | (go_at_call 19;refine (lF lj N c3 cj p3 pj HNL.out (by omega) _ HV3.out HSJ.out).mono ?_;rintro e w4 ⟨rfl,hb⟩;replace HCR:Hid (w4.cell? ⟨gr,j,none⟩=some (.int .u32 (rj:Int))):=dX HCR.out hb;replace HSY:Hid (Sy w1 w4 gp R rs ts (.slice (some ⟨gr,0,none⟩) i cr) (.slice (some ⟨gt,0,none⟩) i ct) i i):=HSY.out.below hb;clear hb)
      | ((with_reducible refine aM (some 119) (.indexAddr 59 (.tmp 117) (.tmp 118)) (some (11,false)) ?_);go_must (refine ae (.pointer (some ⟨gr,j,none⟩)) rfl (mg dc cK j rfl rfl rfl hlt) ?_))
      | ((with_reducible refine aM (some 120) (.load 25 (.tmp 119)) (some (11,false)) ?_);go_must (refine ae (.int .u32 (rj:Int)) rfl (aj (.int .u32 (rj:Int)) HCR.out rfl dC) ?_))
      | (go_at_call 22;refine (check_T HSY.out.tr HRJ.out).mono ?_;rintro e w5 ⟨rfl,hb⟩;replace HSY:Hid (Sy w1 w5 gp R rs ts (.slice (some ⟨gr,0,none⟩) i cr) (.slice (some ⟨gt,0,none⟩) i ct) i i):=HSY.out.below hb;clear hb))
     go_roundw
     case rel=>exact ⟨j+1,by omega,by go_num,HSY.out⟩
     case measure=>simp [RowKit.intOf];omega
    ·have hjP:j=i:=by omega
     subst hjP
     have hji:¬(j:Int)<(j:Int):=by omega
     go_wp2_with fail
     go_ret
     exact ⟨rfl,HB1.out.trans (HSY.out.tr.bl.mono HB1.out.size)⟩
theorem stays_any (K:List Nat) (B:Nat→Bool) (p p1:Option Addr) (n c d c1 b1 o1:Nat) (hn:K.length=n) (w:World) (hv:SlH w (.slice p n c) K) (hp1:0<d→p1=some ⟨b1,o1,none⟩) (hc1:∀i,i<d→w.cell? ⟨b1,o1+i,none⟩=some (.bool (B i))) (ht:Tab w) (hq:QTab w) (hw2:2≤w.heap.size) :
  Calls Tryz.prog 6 #[.slice p n c,.slice p1 d c1] w fun e w'=>e=.returned (.bool true)∧Below w.heap.size w w':=by
 rcases Nat.lt_or_ge 14 n with h1|h1
 ·exact stays_many p p1 n c d c1 h1 w ht hq hw2
 ·rcases Nat.lt_or_ge d n with h2|h2
  ·exact stays_less p p1 n c d c1 h1 h2 w ht hq hw2
  ·exact stays_some K B p p1 n c d c1 b1 o1 hn h1 h2 w hv hp1 hc1 ht hq hw2
end Go.Proofs.YtmlbjfklaehjnaaGreatDoor
