import Derived.Laws.OwnMore
import Derived.Test.YtcibhfcjbokdlaaGreatDoorQt08
set_option maxRecDepth 100000
set_option maxHeartbeats 4000000
namespace Go.Proofs.YtcibhfcjbokdlaaGreatDoor
open Go Go.RowKit Go.Maps
theorem webWs_app (a b T:List Tm):webWs (a++b) T=webWs b (webWs a T):=by simp [webWs,List.foldl_append]
theorem dC {l:List Tm} (hl:∀x∈l,okT x=true) {T:List Tm} (hT:Web T) (j:Nat):(webWs (l.take j) T).length≤(webWs l T).length:=by
 have h1:=cK (l.take j) (fun x hx=>hl x (List.mem_of_mem_take hx)) T hT
 obtain ⟨_,⟨s,e⟩,_⟩:=cK (l.drop j) (fun x hx=>hl x (List.mem_of_mem_drop hx)) _ h1.1
 have e2:webWs l T=webWs (l.drop j) (webWs (l.take j) T):=by rw [←webWs_app,List.take_append_drop]
 rw [e2,e,List.length_append]
 omega
theorem dA (t:Tm) (T:List Tm):(webWs t.l T).length≤(webW t T).length:=by
 rw [cW]
 split
 ·exact Nat.le_refl _
 ·rw [List.length_append];omega
def kidJ (T:List Tm) (t:Tm) (j i:Nat):Int:=if i<j then kidQ T t i else 0
def shJ (T:List Tm) (t:Tm) (j:Nat):List Value:=shc t.k t.n (t.l.length:Int) (kidJ T t j 0) (kidJ T t j 1)
theorem shJ_zero (T:List Tm) (t:Tm):shJ T t 0=shc t.k t.n (t.l.length:Int) 0 0:=rfl
theorem kidJ_step {T T':List Tm} (hT:Web T) (hT':Web T') (hp:∃s,T'=T++s) {t:Tm} {j i:Nat} (hin:∀y∈t.l.take j,y∈T) (hij:i≠j):kidJ T' t (j+1) i=kidJ T t j i:=by
 unfold kidJ
 by_cases h:i<j
 ·rw [if_pos h,if_pos (by omega)]
  unfold kidQ
  cases hy:t.l[i]? with
  | none=>rfl
  | some y=>simp only [idxT_app hT hT' hp (hin y (List.mem_of_getElem? (by rw [List.getElem?_take_of_lt h];exact hy)))]
 ·rw [if_neg h,if_neg (by omega)]
theorem kidJ_new {T':List Tm} {t x:Tm} {j:Nat} (hx:t.l[j]?=some x):kidJ T' t (j+1) j=(idxT T' x:Int):=by
 unfold kidJ kidQ
 rw [if_pos (by omega),hx]
theorem shJ_step {T T':List Tm} (hT:Web T) (hT':Web T') (hp:∃s,T'=T++s) {t x:Tm} {j:Nat} (hx:t.l[j]?=some x) (hj:j<2) (hin:∀y∈t.l.take j,y∈T):(shJ T t j).set (3+j) (.int .i64 (idxT T' x:Int))=shJ T' t (j+1):=by
 match j,hj with
 | 0,_ =>
  show [Value.int .i64 t.k,.int .i64 t.n,.int .i64 (t.l.length:Int),.int .i64 (idxT T' x:Int),.int .i64 (kidJ T t 0 1)]=[Value.int .i64 t.k,.int .i64 t.n,.int .i64 (t.l.length:Int),.int .i64 (kidJ T' t 1 0),.int .i64 (kidJ T' t 1 1)]
  rw [kidJ_new hx,kidJ_step hT hT' hp (j:=0) (i:=1) hin (by omega)]
 | 1,_ =>
  show [Value.int .i64 t.k,.int .i64 t.n,.int .i64 (t.l.length:Int),.int .i64 (kidJ T t 1 0),.int .i64 (idxT T' x:Int)]=[Value.int .i64 t.k,.int .i64 t.n,.int .i64 (t.l.length:Int),.int .i64 (kidJ T' t 2 0),.int .i64 (kidJ T' t 2 1)]
  rw [kidJ_new hx,kidJ_step hT hT' hp (j:=1) (i:=0) hin (by omega)]
theorem shJ_end (T:List Tm) (t:Tm):shJ T t t.l.length=shT T t:=by
 have h:∀i,kidJ T t t.l.length i=kidQ T t i:=fun i=>by
  unfold kidJ
  split
  ·rfl
  ·unfold kidQ
   rw [List.getElem?_eq_none (by omega)]
 unfold shJ shT
 rw [h,h]
theorem shT_one (T:List Tm) (t:Tm):∀v∈shT T t,v.oneCell'=true:=by
 intro v hv
 simp only [shT,shc,List.mem_cons,List.not_mem_nil,or_false] at hv
 rcases hv with rfl|rfl|rfl|rfl|rfl<;>rfl
theorem idxT_lt {T:List Tm} (hT:∀y∈T,okT y=true) {x:Tm} (hx:x∈T):idxT T x<T.length:=(List.getElem?_eq_some_iff.1 (a7 hT hx)).1
theorem okT_small {t:Tm} (h:okT t=true):(1≤t.k∧t.k≤5)∧0≤t.n∧t.n≤99:=by
 have h1:=aS h
 simp only [okF,Bool.and_eq_true,decide_eq_true_iff] at h1
 obtain ⟨⟨h2,_⟩,h3⟩:=h1
 refine ⟨h2,?_⟩
 split at h3
 ·simpa using h3
 ·have:t.n=0:=by simpa using h3
  omega
theorem fl {T:List Tm} (hT:Web T) (hl:T.length≤10000) {t:Tm} (ht:∀x∈t.l,x∈T) (j:Nat) : -1000000≤kidQ T t j∧kidQ T t j≤1000000:=by
 unfold kidQ
 split
 ·rename_i x hx
  have:=idxT_lt hT.ok (ht x (List.mem_of_getElem? hx))
  omega
 ·omega
theorem shT_key {T:List Tm} (hT:Web T) (hl:T.length≤10000) {t:Tm} (ht:∀x∈t.l,x∈T) (ho:okT t=true):∃kl,keyOf Tryz.prog 65 (.agg (shT T t).toArray)=some kl:=by
 have h1:=okT_small ho
 have h2:=ok_len ho
 have h3:kn t.k≤2:=by unfold kn;split<;>(try split)<;>omega
 exact sh_key (by omega) (by omega) (by omega) (fl hT hl ht 0) (fl hT hl ht 1)
structure Nm (T:List Tm) (AL:List (Value×List Nat)):Prop where
 al:AL.length=T.length
 web:Web T
 nmo:∀(i:Nat) (t:Tm) (v:Value) (l:List Nat),T[i]?=some t→AL[i]?=some (v,l)→∃ws,NumsOf T l ws∧∀x,x∈ws↔x∈T∧t∈x.l
 ab:∀(i:Nat) (v:Value) (l:List Nat),AL[i]?=some (v,l)→l.length≤2 * T.length
structure Nj (T:List Tm) (t:Tm) (j:Nat) (AL:List (Value×List Nat)):Prop where
 al:AL.length=T.length+1
 nmo:∀(i:Nat) (u:Tm) (v:Value) (l:List Nat),(T++[t])[i]?=some u→AL[i]?=some (v,l)→∃ws,NumsOf (T++[t]) l ws∧∀x,x∈ws↔(x∈T∧u∈x.l)∨(x=t∧u∈t.l.take j)
 ab:∀(i:Nat) (v:Value) (l:List Nat),AL[i]?=some (v,l)→l.length≤2 * T.length+j
theorem NumsOf.pre {T:List Tm} {ql:List Nat} {l:List Tm} (h:NumsOf T ql l) (s:List Tm):NumsOf (T++s) ql l:=⟨h.1,fun j q hj=>by
 obtain ⟨x,h1,h2⟩:=h.2 j q hj
 exact ⟨x,h1,by rw [List.getElem?_append_left (List.getElem?_eq_some_iff.1 h2).1];exact h2⟩⟩
theorem Nm.start {T:List Tm} {AL:List (Value×List Nat)} (h:Nm T AL) {t:Tm} (hno:t ∉ T):Nj T t 0 (AL++[(.slice none 0 0,[])]):=by
 refine ⟨by rw [List.length_append,h.al];rfl,fun i u v l hu hi=>?_,fun i v l hi=>?_⟩
 ·by_cases hlt:i<T.length
  ·rw [List.getElem?_append_left hlt] at hu
   rw [List.getElem?_append_left (by rw [h.al];exact hlt)] at hi
   obtain ⟨ws,h1,h2⟩:=h.nmo i u v l hu hi
   exact ⟨ws,h1.pre _,fun x=>by rw [h2];simp⟩
  ·have hl:=(List.getElem?_eq_some_iff.1 hu).1
   rw [List.length_append,List.length_singleton] at hl
   have he:i=T.length:=by omega
   subst he
   rw [←h.al] at hi
   simp only [List.getElem?_concat_length,Option.some.injEq,Prod.mk.injEq] at hu hi
   subst hu
   rw [←hi.2]
   refine ⟨[],NumsOf.nil _,fun x=>?_⟩
   simp only [List.not_mem_nil,List.take_zero,and_false,or_false,false_iff]
   exact fun ⟨h1,h2⟩=>hno (h.web.kids x h1 _ h2)
 ·by_cases hlt:i<AL.length
  ·rw [List.getElem?_append_left hlt] at hi
   have:=h.ab i v l hi
   omega
  ·have hl:=(List.getElem?_eq_some_iff.1 hi).1
   rw [List.length_append,List.length_singleton] at hl
   have he:i=AL.length:=by omega
   subst he
   simp only [List.getElem?_concat_length,Option.some.injEq,Prod.mk.injEq] at hi
   rw [←hi.2]
   simp
theorem Nj.step {T:List Tm} {t x:Tm} {j q:Nat} {AL:List (Value×List Nat)} {v v':Value} {l:List Nat} (h:Nj T t j AL) (hnd:T.Nodup) (hno:t ∉ T) (hx:t.l[j]?=some x) (hq:T[q]?=some x) (hi:AL[q]?=some (v,l)):Nj T t (j+1) (AL.set q (v',l++[T.length])):=by
 have htk:t.l.take (j+1)=t.l.take j++[x]:=by rw [List.take_add_one,hx];rfl
 have hql:=(List.getElem?_eq_some_iff.1 hi).1
 have hqT:=(List.getElem?_eq_some_iff.1 hq).1
 refine ⟨by rw [List.length_set];exact h.al,fun i u w k hu hk=>?_,fun i w k hk=>?_⟩
 ·by_cases he:i=q
  ·subst he
   rw [List.getElem?_set_self hql] at hk
   simp only [Option.some.injEq,Prod.mk.injEq] at hk
   obtain ⟨ws,h1,h2⟩:=h.nmo i u v l hu hi
   have hux:u=x:=by
    rw [List.getElem?_append_left hqT,hq] at hu
    exact (Option.some.inj hu).symm
   rw [←hk.2]
   refine ⟨ws++[t],h1.snoc (by simp),fun y=>?_⟩
   rw [List.mem_append,List.mem_singleton,h2,htk,List.mem_append,List.mem_singleton]
   constructor
   ·rintro (h5|h5)
    ·rcases h5 with h5|h5
     ·exact Or.inl h5
     ·exact Or.inr ⟨h5.1,Or.inl h5.2⟩
    ·exact Or.inr ⟨h5,Or.inr hux⟩
   ·rintro (h5|⟨h5,_⟩)
    ·exact Or.inl (Or.inl h5)
    ·exact Or.inr h5
  ·rw [List.getElem?_set_ne (fun e=>he e.symm)] at hk
   obtain ⟨ws,h1,h2⟩:=h.nmo i u w k hu hk
   refine ⟨ws,h1,fun y=>?_⟩
   rw [h2,htk,List.mem_append,List.mem_singleton]
   have hux:u≠x:=fun e=>by
    subst e
    by_cases hlt:i<T.length
    ·rw [List.getElem?_append_left hlt] at hu
     exact he (d8 hnd hu hq)
    ·have hl:=(List.getElem?_eq_some_iff.1 hu).1
     rw [List.length_append,List.length_singleton] at hl
     have hi2:i=T.length:=by omega
     subst hi2
     simp only [List.getElem?_concat_length,Option.some.injEq] at hu
     subst hu
     exact hno (List.mem_of_getElem? hq)
   constructor
   ·rintro (h5|h5)
    ·exact Or.inl h5
    ·exact Or.inr ⟨h5.1,Or.inl h5.2⟩
   ·rintro (h5|⟨h5,h6|h6⟩)
    ·exact Or.inl h5
    ·exact Or.inr ⟨h5,h6⟩
    ·exact absurd h6 hux
 ·by_cases he:i=q
  ·subst he
   rw [List.getElem?_set_self hql] at hk
   simp only [Option.some.injEq,Prod.mk.injEq] at hk
   have:=h.ab i v l hi
   rw [←hk.2,List.length_append,List.length_singleton]
   omega
  ·rw [List.getElem?_set_ne (fun e=>he e.symm)] at hk
   have:=h.ab i w k hk
   omega
theorem Nj.done {T:List Tm} {t:Tm} {AL:List (Value×List Nat)} (h:Nj T t t.l.length AL) (hw:Web (T++[t])) (hno:t ∉ T) (h2:t.l.length≤2):Nm (T++[t]) AL:=by
 refine ⟨by rw [h.al];simp,hw,fun i u v l hu hi=>?_,fun i v l hi=>?_⟩
 ·obtain ⟨ws,h1,h3⟩:=h.nmo i u v l hu hi
  refine ⟨ws,h1,fun x=>?_⟩
  rw [h3,List.take_length,List.mem_append,List.mem_singleton]
  constructor
  ·rintro (h5|⟨rfl,h5⟩)
   ·exact ⟨Or.inl h5.1,h5.2⟩
   ·exact ⟨Or.inr rfl,h5⟩
  ·rintro ⟨h5|h5,h6⟩
   ·exact Or.inl ⟨h5,h6⟩
   ·subst h5;exact Or.inr ⟨rfl,h6⟩
 ·have:=h.ab i v l hi
  rw [List.length_append,List.length_singleton]
  omega
theorem Keeps.of_block {F:Nat→Prop} {w w':World} (h:∀b,F b→w'.heap[b]?=w.heap[b]?):Keeps F F w w':=fun b hF=>⟨hF,fun o u hu=>by rw [World.cell?_of_block (w:=w) (a:=⟨b,o,none⟩) (h b hF)];exact hu⟩
structure Ad (b0:Nat) (w0 w:World) (p:Nat→Prop) (g m g3 g5:Nat) (TM TS:List Tm) (AL:List (Value×List Nat)) (vs va:Value) (r3 r5:List Value):Prop where
 web:WebN b0 w g m TM TS AL vs va
 fr:Fr p w0 w
 sub:∀b,Fp g m AL vs va b→p b∨w0.heap.size≤b
 row3:Row w g3 r3 24
 row5:Row w g5 r5 65
 n3:w0.heap.size≤g3∧¬Fp g m AL vs va g3
 n5:w0.heap.size≤g5∧¬Fp g m AL vs va g5
section
variable {b0:Nat} {w0 w w':World} {p:Nat→Prop} {g m g3 g5:Nat} {TM TS TM' TS':List Tm} {AL AL':List (Value×List Nat)} {vs va vs' va':Value} {r3 r5:List Value}
theorem Ad.step (h:Ad b0 w0 w p g m g3 g5 TM TS AL vs va r3 r5) (hw:WebN b0 w' g m TM' TS' AL' vs' va') (hf:Fr (Fp g m AL vs va) w w') (hs:∀b,Fp g m AL' vs' va' b→Fp g m AL vs va b∨w.heap.size≤b):Ad b0 w0 w' p g m g3 g5 TM' TS' AL' vs' va' r3 r5:=by
 have l3:=h.row3.lt
 have l5:=h.row5.lt
 have hz:=h.fr.size
 refine ⟨hw,h.fr.trans hf h.sub,fun b hb=>?_,?_,?_,⟨h.n3.1,fun hb=>?_⟩,⟨h.n5.1,fun hb=>?_⟩⟩
 ·rcases hs b hb with h1|h1
  ·exact h.sub b h1
  ·exact Or.inr (Nat.le_trans hz h1)
 ·unfold Row;rw [hf.block g3 l3 h.n3.2];exact h.row3
 ·unfold Row;rw [hf.block g5 l5 h.n5.2];exact h.row5
 ·rcases hs _ hb with h1|h1
  ·exact h.n3.2 h1
  ·omega
 ·rcases hs _ hb with h1|h1
  ·exact h.n5.2 h1
  ·omega
theorem Ad.below (h:Ad b0 w0 w p g m g3 g5 TM TS AL vs va r3 r5) (hb:Below w.heap.size w w'):Ad b0 w0 w' p g m g3 g5 TM TS AL vs va r3 r5 :=
 h.step (h.web.below hb) (Fr.of_below hb) fun _ hf=>Or.inl hf
theorem Ad.set5 {r5':List Value} (h:Ad b0 w0 w p g m g3 g5 TM TS AL vs va r3 r5) (hu:Upd g5 w w') (hr:Row w' g5 r5' 65):Ad b0 w0 w' p g m g3 g5 TM TS AL vs va r3 r5':=by
 have hne:g3≠g5:=fun he=>by
  have h1:=h.row3
  have h2:=h.row5
  rw [←he] at h2
  unfold Row at h1 h2
  rw [h1] at h2
  simp at h2
 have hk:∀b,Fp g m AL vs va b→w'.heap[b]?=w.heap[b]?:=fun b hb=>hu.block b (h.web.lt hb).2 (fun he=>h.n5.2 (he▸hb))
 exact ⟨h.web.keep hk,⟨hu.os.trans h.fr.os,hu.tape.trans h.fr.tape,hu.output.trans h.fr.output,Nat.le_trans h.fr.size hu.size,fun b hb hn=>(hu.block b (Nat.lt_of_lt_of_le hb h.fr.size) (fun he=>by have:=h.n5.1;omega)).trans (h.fr.block b hb hn)⟩,h.sub,hu.row h.row3 hne,hr,h.n3,h.n5⟩
/-- A tree that lies below. -/
theorem Ad.tree (h:Ad b0 w0 w p g m g3 g5 TM TS AL vs va r3 r5) (hp:∀b,p b→b0≤b) (hb:b0≤w0.heap.size) {v:Value} {l:List Tm} (hs:SlT (fun b=>b<b0) w0 v l):SlT (fun b=>b<b0) w v l :=
 hs.keep (Keeps.of_block fun b hlt=>h.fr.block b (Nat.lt_of_lt_of_le hlt hb) fun hpb=>by have:=hp b hpb;omega)
end
theorem made_shape:(Tryz.prog.info? 65).map (fun i=>(i.zero,i.size,i.bytes))=some (some (.agg [Value.int .i64 0,.int .i64 0,.int .i64 0,.int .i64 0,.int .i64 0].toArray),5,40):=by kernel_rfl
theorem fm:(Tryz.prog.info? 65).map (fun i=>(i.zero,i.size))=some (some (.agg [Value.int .i64 0,.int .i64 0,.int .i64 0,.int .i64 0,.int .i64 0].toArray),5):=by kernel_rfl
theorem eX:∀w,(zeroValue 65).run Tryz.prog w=.ok (.agg [Value.int .i64 0,.int .i64 0,.int .i64 0,.int .i64 0,.int .i64 0].toArray) w:=(zero_of_info fm).1
theorem un_shape:∃fs,Tryz.prog.underlying 65=some (.struct fs):=⟨_,Tryz.underlying65⟩
theorem made_ints:(Tryz.prog.info? 41).map (fun i=>(i.zero,i.size,i.bytes))=some (some (.slice none 0 0),1,24):=by kernel_rfl
theorem info_ints:(Tryz.prog.info? 41).map (fun i=>(i.zero,i.size))=some (some (.slice none 0 0),1):=by kernel_rfl
theorem sz_shapes:(Tryz.prog.info? 59).map (·.size)=some 1:=by kernel_rfl
theorem sz_arounds:(Tryz.prog.info? 60).map (·.size)=some 1:=by kernel_rfl
theorem ag_wnum:∀w,(isAgg 58).run Tryz.prog w=.ok false w:=by intro w;simp [go_sem]
theorem built_shape (k n c:Int):Tryz.prog.built 65 [(0,.int .i64 k),(1,.int .i64 n),(2,.int .i64 c)]=some (shc k n c 0 0).toArray:=by kernel_rfl
theorem run_bslS {P:Program} (w:World) {t elem:TypeId} (z l:List Value) (hu:P.underlying t=some (.slice elem)) (hi:(P.info? elem).map (fun i=>(i.zero,i.size))=some (some (.agg z.toArray),5)) (hz:z.length=5) (hl:l.length=5) :
  (Instr.buildSlice t 1 #[(0,.agg l.toArray)]).run P w=.ok (.slice (some ⟨w.heap.size,0,none⟩) 1 1) (w.alloc (.cells l.toArray elem)):=by
 obtain ⟨hz1,hs1⟩:=zero_of_info hi
 cases hq:P.info? elem with
 | none=>simp [hq] at hi
 | some qq =>
  have hs:qq.size=5:=by simpa [hq] using hs1
  have e:∀cs:Array Value,cs.size=5→List.foldl (fun (cs:Array Value) (x:Value×Nat)=>cs.setIfInBounds x.2 x.1) cs l.zipIdx=l.toArray:=by
   intro cs hcs
   apply Array.ext_getElem?
   intro i
   rw [dP l 0 cs i]
   by_cases h:i<5
   ·rw [if_pos (by omega)];simp
   ·rw [if_neg (by omega),Array.getElem?_eq_none (by omega),Array.getElem?_eq_none (by simp;omega)]
  simp [Instr.buildSlice,run_underlying hu,sizeOf,typeInfo,hq,hs,hz1,Value.cells,Instr.fill,hl,hz,newRow,newObj]
  rw [e _ (by simp)]
  rfl
section
variable {ops:Array Oper} {rest:List Oper} {a:Act} {w w0:World} {Q:Exit→Act→World→Prop} {dst:Option Tmp} {typ:TypeId} {pos:String} {aft:Array Edge} {gd:Option (Nat×Bool)} {S:List Nat} {rows:List (Nat×List Value×TypeId)}
theorem wpl_bslS {x:Operand} (l:List Value) (hl:l.length=5) (hw:Region.wanted {dst:=dst,op:=.buildSlice 59 1 #[(0,x)],type:=typ,pos:=pos,after:=aft,guard:=gd} (yielded ops a.tmps)=true) (hx:a.eval x=.agg l.toArray) (hm:Mem w0 S w rows)
  (h:∀w' g,Below w.heap.size w w'→Mem w0 S w' ((g,l,65)::rows)→wpList Tryz.prog ops Q rest (a.put dst (.slice (some ⟨g,0,none⟩) 1 1)) w') :
  wpList Tryz.prog ops Q ({dst:=dst,op:=.buildSlice 59 1 #[(0,x)],type:=typ,pos:=pos,after:=aft,guard:=gd}::rest) a w:=by
 refine wpList_step fun K hK=>?_
 rw [if_pos hw]
 have hh:=hK _ _ (h _ _ ((Below.refl _ _).alloc (Nat.le_refl _) _) (hm.alloc l 65))
 unfold Oper.wp execOp
 simp only [List.map_toArray,List.map_cons,List.map_nil,hx,run_bslS (P:=Tryz.prog) w _ l d9 fm rfl hl,Sem.run_bind,Sem.run_pure,Result.andThen_ok]
 exact hh
theorem exec_ixTwo {x ix:Operand} {b o:Nat} (i:Nat) {ii:Int} (hx:a.eval x=.pointer (some ⟨b,o,none⟩)) (hix:a.eval ix=.int .i64 ii) (hii:ii=(i:Int)) (hi:i<2) :
  (execOp a.eval {dst:=dst,op:=.indexAddr 63 x ix,type:=typ,pos:=pos,after:=aft,guard:=gd}).run Tryz.prog w=.ok (.value (.pointer (some ⟨b,o+i,none⟩))) w:=by
 subst hii
 have h0:(0:Int)≤(i:Int)∧(i:Int)<2:=by omega
 have h3:(Tryz.prog.info? 3).map (·.size)=some 1:=bB
 cases hq:Tryz.prog.info? 3 with
 | none=>rw [hq] at h3;cases h3
 | some q =>
  have hs1:q.size=1:=by simpa [hq] using h3
  unfold execOp
  simp [hx,hix,Instr.indexAt,Instr.sureAddr,asIntOf,run_underlying un_two,h0,sizeOf,typeInfo,hq,hs1,aQ]
  intro h9
  omega
/-- A store into a slice of one's own. -/
theorem wpl_stRow {x y:Operand} {base n b cap i:Nat} {cs:List Value} {v:Value} (ho:w.ownsRow base 41 1 (.slice (some ⟨b,0,none⟩) n cap) n cs) (hi:i<n) (hx:a.eval x=.pointer (some ⟨b,i,none⟩)) (hy:a.eval y=v) (hc:v.cells=#[v]) (h1:v.oneCell'=true)
  (h:∀w',Upd b w w'→w'.ownsRow base 41 1 (.slice (some ⟨b,0,none⟩) n cap) n (cs.set i v)→wpList Tryz.prog ops Q rest a w') :
  wpList Tryz.prog ops Q ({dst:=none,op:=.store 41 x y,type:=typ,pos:=pos,after:=aft,guard:=none}::rest) a w:=by
 obtain ⟨hl,h2⟩:=ho
 rcases h2 with ⟨h3,_⟩|⟨g,cap',cur,hv,hb,hh,hn,hmx,hsz,htk⟩
 ·cases h3
 ·simp only [Value.slice.injEq,Option.some.injEq,Addr.mk.injEq] at hv
  obtain ⟨⟨rfl,_,_⟩,_,rfl⟩:=hv
  have hr:Row w b cur.toList 41:=by unfold Row;rw [hh]
  have hcl:cur.toList.length=cap * 1:=by rw [Array.length_toList];exact hsz
  refine bW 0 i v (Mem.enter hr) rfl hx hy e6 (by rw [hcl];omega) hc h1 ?_
  intro w' hu hm'
  have hr':Row w' b (cur.toList.set i v) 41:=hm'.get 0 rfl
  refine h w' hu ⟨by rw [List.length_set];exact hl,Or.inr ⟨b,cap,(cur.toList.set i v).toArray,rfl,hb,hr',hn,hmx,by rw [List.size_toArray,List.length_set,hcl],?_⟩⟩
  rw [←htk]
  show ((cur.toList.set i v).toArray.toList).take _=_
  rw [List.toList_toArray,List.take_set]
end
end Go.Proofs.YtcibhfcjbokdlaaGreatDoor
