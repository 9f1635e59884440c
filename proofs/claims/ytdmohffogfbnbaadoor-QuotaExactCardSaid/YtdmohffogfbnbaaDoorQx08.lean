import Derived.Test.YtdmohffogfbnbaaDoorQx07
import Derived.Maps.RangeWalk
import Derived.Test.YtdmohffogfbnbaaDoorQx03
import Derived.Test.YtdmohffogfbnbaaDoorQx05
set_option maxRecDepth 100000
set_option maxHeartbeats 4000000
namespace Go.Proofs.YtdmohffogfbnbaaDoor
open Go Go.RowKit
def sumI (f:Sp→Int):Nms→Int
 | []=>0
 | x::p=>f x+sumI f p
theorem sumI_append (f:Sp→Int) (p q:Nms):sumI f (p++q)=sumI f p+sumI f q:=by
 induction p with
 | nil=>simp [sumI]
 | cons x p ih=>rw [List.cons_append,sumI,sumI,ih];omega
theorem aB {f g:Sp→Int} {p:Nms} (h:∀x∈p,f x=g x):sumI f p=sumI g p:=by
 induction p with
 | nil=>rfl
 | cons x p ih=>rw [sumI,sumI,h x (List.mem_cons_self ..),ih fun y hy=>h y (List.mem_cons_of_mem _ hy)]
theorem aY {f:Sp→Int} {p:Nms} (h:∀x∈p,f x=0):sumI f p=0:=by
 induction p with
 | nil=>rfl
 | cons x p ih=>rw [sumI,h x (List.mem_cons_self ..),ih fun y hy=>h y (List.mem_cons_of_mem _ hy)];rfl
theorem cr (f g:Sp→Int) (p:Nms):sumI (fun x=>f x+g x) p=sumI f p+sumI g p:=by
 induction p with
 | nil=>rfl
 | cons x p ih=>rw [sumI,sumI,sumI,ih];omega
theorem sumI_comm (g:Sp→Sp→Int) (p q:Nms):sumI (fun y=>sumI (fun z=>g y z) p) q=sumI (fun z=>sumI (fun y=>g y z) q) p:=by
 induction q with
 | nil=>exact (aY fun _ _=>rfl).symm
 | cons x q ih =>
  rw [sumI,ih,←cr]
  rfl
theorem sumI_perm {f:Sp→Int} {p q:Nms} (h:p.Perm q):sumI f p=sumI f q:=by
 induction h with
 | nil=>rfl
 | cons x _ ih=>rw [sumI,sumI,ih]
 | swap x y l=>rw [sumI,sumI,sumI,sumI];omega
 | trans _ _ h1 h2=>exact h1.trans h2
theorem cb {f:Sp→Int} {p:Nms} (hn:p.Pairwise fun x y=>x.1≠y.1) {x:Sp} (hx:x∈p) (h:∀y∈p,y.1≠x.1→f y=0):sumI f p=f x:=by
 induction p with
 | nil=>cases hx
 | cons a p ih =>
  obtain ⟨h1,h2⟩:=List.pairwise_cons.1 hn
  rw [sumI]
  rcases List.mem_cons.1 hx with rfl|hx
  ·rw [aY fun y hy=>h y (List.mem_cons_of_mem _ hy) (fun e=>h1 y hy e.symm)];omega
  ·rw [h a (List.mem_cons_self ..) (h1 x hx),ih h2 hx fun y hy=>h y (List.mem_cons_of_mem _ hy)];omega
theorem cI (f:Sp→Int) (t:Sp→Bool) (p:Nms):sumI f p=sumI f (p.filter t)+sumI f (p.filter fun x => !t x):=by
 induction p with
 | nil=>rfl
 | cons x p ih =>
  cases ht:t x with
  | true=>rw [List.filter_cons_of_pos ht,List.filter_cons_of_neg (by simp [ht]),sumI,sumI,ih];omega
  | false=>rw [List.filter_cons_of_neg (by simp [ht]),List.filter_cons_of_pos (by simp [ht]),sumI,sumI,ih];omega
theorem sumI_map (f:Sp→Int) (t:Sp→Sp) (p:Nms):sumI f (p.map t)=sumI (fun x=>f (t x)) p:=by
 induction p with
 | nil=>rfl
 | cons x p ih=>rw [List.map_cons,sumI,sumI,ih]
theorem NmOk.keys {p:Nms} (h:NmOk p):p.Pairwise fun x y=>x.1≠y.1 :=
 h.srt.imp fun {x y} hlt e=>by rw [e] at hlt;exact List.lt_irrefl _ hlt
theorem anc {p:Nms} (hpar:∀x∈p,x.1≠[]→hasN p x.1.dropLast=true):∀(n:Nat) {z:Sp},z.1.length=n→z∈p→∀ {ks:List ByteArray},ks <+: z.1→hasN p ks=true:=by
 intro n
 induction n with
 | zero =>
  intro z hl hz ks hk
  have h0:z.1=[]:=List.length_eq_zero_iff.1 hl
  rw [h0] at hk
  have:ks=[]:=List.prefix_nil.1 hk
  exact ar.2 ⟨z,hz,by rw [h0,this]⟩
 | succ n ih =>
  intro z hl hz ks hk
  by_cases he:ks=z.1
  ·exact ar.2 ⟨z,hz,he.symm⟩
  ·have hne:z.1≠[]:=fun e=>by rw [e] at hl;cases hl
   obtain ⟨y,hy,e⟩:=ar.1 (hpar z hz hne)
   refine ih (by rw [e,List.length_dropLast,hl];rfl) hy ?_
   rw [e]
   have h1:=List.prefix_iff_eq_take.1 hk
   have h2:ks.length≠z.1.length:=fun e2=>he (by rw [h1,e2,List.take_length])
   have h3:=hk.length_le
   rw [h1,List.dropLast_eq_take]
   exact List.take_prefix_take_left (by omega)
def unS (o:List ByteArray→Int) (p:Nms) (ks:List ByteArray):Int:=sumI (fun z=>if undB z.1 ks=true then o z.1 else 0) p
def isKid (y:Sp) (ks:List ByteArray):Bool := !decide (y.1=[])&&decide (y.1.dropLast=ks)
theorem cx {y:Sp} {ks:List ByteArray}:isKid y ks=true↔y.1≠[]∧y.1.dropLast=ks:=by
 unfold isKid
 simp
theorem unS_inner (o:List ByteArray→Int) {p:Nms} (hn:p.Pairwise fun x y=>x.1≠y.1) (hpar:∀x∈p,x.1≠[]→hasN p x.1.dropLast=true) (ks:List ByteArray) {z:Sp} (hz:z∈p) :
  sumI (fun y=>if isKid y ks=true∧undB z.1 y.1=true then o z.1 else 0) p=if undB z.1 ks=true∧z.1≠ks then o z.1 else 0:=by
 by_cases h:undB z.1 ks=true∧z.1≠ks
 ·rw [if_pos h]
  have hk:=aA.1 h.1
  have e1:=List.prefix_iff_eq_take.1 hk
  have hlt:ks.length<z.1.length:=by
   have:=hk.length_le
   rcases Nat.lt_or_ge ks.length z.1.length with h2|h2
   ·exact h2
   ·exact absurd (hk.eq_of_length (by omega)).symm h.2
  obtain ⟨y0,hy0,e0⟩:=ar.1 (anc hpar _ rfl hz (List.take_prefix (ks.length+1) z.1))
  have hyd:y0.1.dropLast=ks:=by
   rw [e0,List.dropLast_eq_take,List.length_take,List.take_take,show min (min (ks.length+1) z.1.length - 1) (ks.length+1)=ks.length by omega,←e1]
  have hy1:y0.1≠[]:=fun e=>by
   rw [e] at e0
   have:=congrArg List.length e0
   rw [List.length_take] at this
   simp at this
   omega
  rw [cb hn hy0 fun y hy hne=>?_]
  ·rw [if_pos ⟨cx.2 ⟨hy1,hyd⟩,aA.2 (by rw [e0];exact List.take_prefix _ _)⟩]
  ·refine if_neg fun hc=>hne ?_
   obtain ⟨k1,k2⟩:=cx.1 hc.1
   have e2:=List.prefix_iff_eq_take.1 (aA.1 hc.2)
   have hl:y.1.length=ks.length+1:=by
    have h3:=congrArg List.length k2
    rw [List.length_dropLast] at h3
    have:=List.length_pos_iff.2 k1
    omega
   rw [e2,hl,e0]
 ·rw [if_neg h]
  refine aY fun y _=>if_neg fun hc=>h ?_
  obtain ⟨k1,k2⟩:=cx.1 hc.1
  have e2:=aA.1 hc.2
  have e3:ks <+: y.1:=by rw [←k2];exact List.dropLast_prefix _
  refine ⟨aA.2 (e3.trans e2),fun e4=>?_⟩
  have h3:=congrArg List.length k2
  rw [List.length_dropLast] at h3
  have:=List.length_pos_iff.2 k1
  have h5:=e2.length_le
  rw [e4] at h5
  omega
/-- What a namespace and all under it have is what it has of its own and what its kids have. -/
theorem unS_split (o:List ByteArray→Int) {p:Nms} (hn:p.Pairwise fun x y=>x.1≠y.1) (hpar:∀x∈p,x.1≠[]→hasN p x.1.dropLast=true) {x:Sp} (hx:x∈p) :
  unS o p x.1=o x.1+sumI (fun y=>if isKid y x.1=true then unS o p y.1 else 0) p:=by
 have h1:sumI (fun y=>if isKid y x.1=true then unS o p y.1 else 0) p=sumI (fun z=>if undB z.1 x.1=true∧z.1≠x.1 then o z.1 else 0) p:=by
  have e1:sumI (fun y=>if isKid y x.1=true then unS o p y.1 else 0) p=sumI (fun y=>sumI (fun z=>if isKid y x.1=true∧undB z.1 y.1=true then o z.1 else 0) p) p:=by
   refine aB fun y _=>?_
   by_cases hk:isKid y x.1=true
   ·rw [if_pos hk]
    unfold unS
    exact aB fun z _=>by simp [hk]
   ·rw [if_neg hk]
    exact (aY fun z _=>by simp [hk]).symm
  rw [e1,sumI_comm]
  exact aB fun z hz=>unS_inner o hn hpar x.1 hz
 have h2:o x.1=sumI (fun z=>if z.1=x.1 then o z.1 else 0) p:=by
  rw [cb hn hx fun y _ hne=>if_neg hne,if_pos rfl]
 rw [h1,h2,←cr]
 unfold unS
 refine aB fun z _=>?_
 by_cases hz:z.1=x.1
 ·rw [hz,if_pos (aA.2 (List.prefix_refl _)),if_pos rfl,if_neg (fun h=>h.2 rfl)];omega
 ·rw [if_neg hz]
  by_cases hu:undB z.1 x.1=true
  ·rw [if_pos hu,if_pos ⟨hu,hz⟩];omega
  ·rw [if_neg hu,if_neg (fun h=>hu h.1)];rfl
def upO (o:List ByteArray→Int) (ks:List ByteArray) (b:Int):List ByteArray→Int:=fun k=>if k=ks then o k+b else o k
theorem cX (o:List ByteArray→Int) {p:Nms} (hn:p.Pairwise fun x y=>x.1≠y.1) {x:Sp} (hx:x∈p) (b:Int) (ks:List ByteArray):unS (upO o x.1 b) p ks=unS o p ks+if undB x.1 ks=true then b else 0:=by
 have h2:(if undB x.1 ks=true then b else 0)=sumI (fun z=>if z.1=x.1 then (if undB x.1 ks=true then b else 0) else 0) p:=by
  rw [cb hn hx fun y _ hne=>if_neg hne,if_pos rfl]
 rw [h2]
 unfold unS
 rw [←cr]
 refine aB fun z _=>?_
 unfold upO
 by_cases hz:z.1=x.1
 ·rw [hz,if_pos rfl,if_pos rfl]
  by_cases hu:undB x.1 ks=true
  ·rw [if_pos hu,if_pos hu,if_pos hu]
  ·rw [if_neg hu,if_neg hu,if_neg hu];rfl
 ·rw [if_neg hz,if_neg hz];omega
theorem unS_add (o:List ByteArray→Int) (p:Nms) (x:Sp) (h0:o x.1=0) (ks:List ByteArray):unS o (addN p x) ks=unS o p ks:=by
 unfold unS
 rw [sumI_perm (add_perm p x),sumI,h0]
 split<;>omega
theorem unS_new {p:Nms} (o:List ByteArray→Int) (x:Sp) (h0:o x.1=0) (hno:∀z∈p,¬x.1 <+: z.1):unS o (addN p x) x.1=0:=by
 rw [unS_add o p x h0]
 exact aY fun z hz=>if_neg fun h=>hno z hz (aA.1 h)
theorem cp (o:List ByteArray→Int) (t:Sp→Sp) (ht:∀x,(t x).1=x.1) (p:Nms) (ks:List ByteArray):unS o (p.map t) ks=unS o p ks:=by
 unfold unS
 rw [sumI_map]
 exact aB fun z _=>by rw [ht]
theorem unS_del (o:List ByteArray→Int) (p:Nms) (ks qs:List ByteArray) (hq:undB qs ks=false):unS o (delN p ks) qs=unS o p qs - if undB ks qs=true then unS o p ks else 0:=by
 have h1:=cI (fun z=>if undB z.1 qs=true then o z.1 else 0) (fun z=>undB z.1 ks) p
 have h2:sumI (fun z=>if undB z.1 qs=true then o z.1 else 0) (p.filter fun z=>undB z.1 ks)=if undB ks qs=true then unS o p ks else 0:=by
  by_cases hu:undB ks qs=true
  ·rw [if_pos hu]
   have h3:=cI (fun z=>if undB z.1 ks=true then o z.1 else 0) (fun z=>undB z.1 ks) p
   have h4:sumI (fun z=>if undB z.1 ks=true then o z.1 else 0) (p.filter fun z => !undB z.1 ks)=0 :=
    aY fun z hz=>by
     have:=(List.mem_filter.1 hz).2
     rw [if_neg]
     intro h;rw [h] at this;cases this
   unfold unS
   rw [h3,h4,Int.add_zero]
   refine aB fun z hz=>?_
   have hz2:undB z.1 ks=true:=(List.mem_filter.1 hz).2
   rw [if_pos hz2,if_pos (aA.2 ((aA.1 hu).trans (aA.1 hz2)))]
  ·rw [if_neg hu]
   refine aY fun z hz=>if_neg fun h=>?_
   have hz2:undB z.1 ks=true:=(List.mem_filter.1 hz).2
   rcases List.prefix_or_prefix_of_prefix (aA.1 h) (aA.1 hz2) with h5|h5
   ·exact hu (aA.2 h5)
   ·rw [aA.2 h5] at hq;cases hq
 unfold delN
 unfold unS at h2 ⊢
 rw [h1,h2]
 omega
open Go Go.RowKit
def lmB (x:Sp):Int:=x.2.1
def lmE (x:Sp):Int:=x.2.2.1
def usB (x:Sp):Int:=x.2.2.2.1
def usE (x:Sp):Int:=x.2.2.2.2.1
def owB (x:Sp):Int:=x.2.2.2.2.2.1
def owE (x:Sp):Int:=x.2.2.2.2.2.2
theorem c4 (t:Sp→Sp) (ht:∀x,(t x).1=x.1) (p:Nms) (ks:List ByteArray):hasN (p.map t) ks=hasN p ks:=by
 unfold hasN
 rw [List.any_map]
 congr 1
 funext x
 simp [ht]
theorem kidsN_map (t:Sp→Sp) (ht:∀x,(t x).1=x.1) (p:Nms) (s:ByteArray):kidsN (p.map t) s=kidsN p s:=by
 unfold kidsN
 rw [List.filter_map,List.map_map]
 have e1:((fun x:Sp=>decide (tx x.1.dropLast=s) && !decide (x.1=[]))∘t)=fun x=>decide (tx x.1.dropLast=s) && !decide (x.1=[]):=by
  funext x;simp [ht]
 have e2:((fun x:Sp=>lastS x.1)∘t)=fun x=>lastS x.1:=by
  funext x;simp [ht]
 rw [e1,e2]
theorem NmOk.map {p:Nms} (h:NmOk p) (t:Sp→Sp) (ht:∀x,(t x).1=x.1):NmOk (p.map t):=by
 refine ⟨fun x hx=>?_,?_⟩
 ·obtain ⟨y,hy,rfl⟩:=List.mem_map.1 hx
  rw [ht];exact h.ok y hy
 ·rw [List.pairwise_map]
  exact h.srt.imp fun {x y} hl=>by rw [ht,ht];exact hl
theorem TrOk.map {p:Nms} (h:TrOk p) (t:Sp→Sp) (ht:∀x,(t x).1=x.1):TrOk (p.map t):=by
 refine ⟨h.ok.map t ht,?_,fun x hx h0=>?_,fun s=>by rw [kidsN_map t ht];exact h.kids s⟩
 ·obtain ⟨r,l,rfl,hr⟩:=h.root
  exact ⟨t r,l.map t,rfl,by rw [ht];exact hr⟩
 ·obtain ⟨y,hy,rfl⟩:=List.mem_map.1 hx
  rw [ht] at h0 ⊢
  rw [c4 t ht]
  exact h.par y hy h0
structure QtOk (p:Nms) (oB oE:List ByteArray→Int):Prop where
 tr:TrOk p
 sums:∀x∈p,usB x=unS oB p x.1∧usE x=unS oE p x.1
 own:∀k,0≤oB k∧0≤oE k
 lim:∀x∈p,usB x≤lmB x∧usE x≤lmE x
 room:∀x∈p,lmB x≤1000000∧lmE x≤1000000
 no:∀k,hasN p k=false→oB k=0∧oE k=0
 ow:∀x∈p,owB x=oB x.1∧owE x=oE x.1
theorem unS_pos {o:List ByteArray→Int} (h:∀k,0≤o k) (p:Nms) (ks:List ByteArray):0≤unS o p ks:=by
 unfold unS
 induction p with
 | nil=>exact Int.le_refl 0
 | cons x p ih =>
  rw [sumI]
  have:=h x.1
  split<;>omega
theorem QtOk.pos {p:Nms} {oB oE:List ByteArray→Int} (h:QtOk p oB oE) {x:Sp} (hx:x∈p):0≤usB x∧0≤usE x:=by
 rw [(h.sums x hx).1,(h.sums x hx).2]
 exact ⟨unS_pos (fun k=>(h.own k).1) _ _,unS_pos (fun k=>(h.own k).2) _ _⟩
theorem QtOk.bounds {p:Nms} {oB oE:List ByteArray→Int} (h:QtOk p oB oE) {x:Sp} (hx:x∈p):0≤usB x∧usB x≤1000000∧0≤usE x∧usE x≤1000000:=by
 have h1:=h.pos hx
 have h2:=h.lim x hx
 have h3:=h.room x hx
 omega
theorem ce (b:Int):0≤heldI b∧heldI b≤1000000:=by unfold heldI;omega
theorem QtOk.new (b e:Int):QtOk (newN b e) (fun _=>0) (fun _=>0):=by
 have hz:∀ks,unS (fun _=>0) (newN b e) ks=0:=fun ks=>aY fun z _=>by simp
 refine ⟨TrOk.new b e,fun x hx=>?_,fun _=>⟨Int.le_refl _,Int.le_refl _⟩,fun x hx=>?_,fun x hx=>?_,fun _ _=>⟨rfl,rfl⟩,fun x hx=>by rw [List.mem_singleton.1 hx];exact ⟨rfl,rfl⟩⟩
 ·rw [hz,List.mem_singleton.1 hx];exact ⟨rfl,rfl⟩
 ·rw [List.mem_singleton.1 hx];exact ⟨(ce b).1,(ce e).1⟩
 ·rw [List.mem_singleton.1 hx];exact ⟨(ce b).2,(ce e).2⟩
/-- What a namespace has of its own, as it is reckoned: what it has, less what its kids have. -/
theorem QtOk.own_is {p:Nms} {oB oE:List ByteArray→Int} (h:QtOk p oB oE) {x:Sp} (hx:x∈p) :
  usB x=oB x.1+sumI (fun y=>if isKid y x.1=true then usB y else 0) p∧usE x=oE x.1+sumI (fun y=>if isKid y x.1=true then usE y else 0) p:=by
 have k1:=unS_split oB h.tr.ok.keys h.tr.par hx
 have k2:=unS_split oE h.tr.ok.keys h.tr.par hx
 rw [(h.sums x hx).1,(h.sums x hx).2]
 constructor
 ·rw [k1]
  congr 1
  exact aB fun y hy=>by rw [(h.sums y hy).1]
 ·rw [k2]
  congr 1
  exact aB fun y hy=>by rw [(h.sums y hy).2]
def chg (ks:List ByteArray) (b e:Int) (y:Sp):Sp:=if undB ks y.1=true then (y.1,lmB y,lmE y,usB y+b,usE y+e,(if y.1=ks then owB y+b else owB y),(if y.1=ks then owE y+e else owE y)) else y
theorem ca (ks:List ByteArray) (b e:Int) (y:Sp):(chg ks b e y).1=y.1:=by unfold chg;split<;>rfl
theorem cR (ks:List ByteArray) (b e:Int) (y:Sp):usB (chg ks b e y)=usB y+if undB ks y.1=true then b else 0:=by
 unfold chg
 by_cases h:undB ks y.1=true
 ·rw [if_pos h,if_pos h];rfl
 ·rw [if_neg h,if_neg h];omega
theorem cN (ks:List ByteArray) (b e:Int) (y:Sp):usE (chg ks b e y)=usE y+if undB ks y.1=true then e else 0:=by
 unfold chg
 by_cases h:undB ks y.1=true
 ·rw [if_pos h,if_pos h];rfl
 ·rw [if_neg h,if_neg h];omega
theorem cQ (ks:List ByteArray) (b e:Int) (y:Sp):lmB (chg ks b e y)=lmB y:=by unfold chg;split<;>rfl
theorem cO (ks:List ByteArray) (b e:Int) (y:Sp):lmE (chg ks b e y)=lmE y:=by unfold chg;split<;>rfl
theorem cv (ks:List ByteArray):undB ks ks=true:=aA.2 (List.prefix_refl ks)
theorem chg_ow (ks:List ByteArray) (b e:Int) (y:Sp):owB (chg ks b e y)=(if y.1=ks then owB y+b else owB y)∧owE (chg ks b e y)=(if y.1=ks then owE y+e else owE y):=by
 unfold chg
 by_cases h:undB ks y.1=true
 ·rw [if_pos h];exact ⟨rfl,rfl⟩
 ·have hne:y.1≠ks:=fun e=>h (by rw [e];exact cv ks)
  rw [if_neg h,if_neg hne,if_neg hne];exact ⟨rfl,rfl⟩
def chgN (p:Nms) (ks:List ByteArray) (b e:Int):Nms:=p.map (chg ks b e)
theorem QtOk.charge {p:Nms} {oB oE:List ByteArray→Int} (h:QtOk p oB oE) {x:Sp} (hx:x∈p) {b e:Int} (hb:0≤oB x.1+b) (he:0≤oE x.1+e)
  (hl:∀y∈p,undB x.1 y.1=true→(0<b→usB y+b≤lmB y)∧(0<e→usE y+e≤lmE y)):QtOk (chgN p x.1 b e) (upO oB x.1 b) (upO oE x.1 e):=by
 have hk:=ca x.1 b e
 refine ⟨h.tr.map _ hk,fun z hz=>?_,fun k=>?_,fun z hz=>?_,fun z hz=>?_,fun k hno=>?_,fun z hz=>?_⟩
 ·obtain ⟨y,hy,rfl⟩:=List.mem_map.1 hz
  unfold chgN
  rw [cR,cN,hk,cp _ _ hk,cp _ _ hk,cX oB h.tr.ok.keys hx,cX oE h.tr.ok.keys hx,(h.sums y hy).1,(h.sums y hy).2]
  exact ⟨rfl,rfl⟩
 ·unfold upO
  by_cases hkx:k=x.1
  ·subst hkx;rw [if_pos rfl,if_pos rfl];exact ⟨hb,he⟩
  ·rw [if_neg hkx,if_neg hkx];exact h.own k
 ·obtain ⟨y,hy,rfl⟩:=List.mem_map.1 hz
  rw [cR,cN,cQ,cO]
  have h1:=h.lim y hy
  by_cases hu:undB x.1 y.1=true
  ·rw [if_pos hu,if_pos hu]
   obtain ⟨h2,h3⟩:=hl y hy hu
   constructor
   ·by_cases h0:0<b
    ·exact h2 h0
    ·omega
   ·by_cases h0:0<e
    ·exact h3 h0
    ·omega
  ·rw [if_neg hu,if_neg hu];omega
 ·obtain ⟨y,hy,rfl⟩:=List.mem_map.1 hz
  rw [cQ,cO]
  exact h.room y hy
 ·unfold chgN at hno
  rw [c4 _ hk] at hno
  have hne:k≠x.1:=fun e=>by
   have:hasN p k=true:=ar.2 ⟨x,hx,e.symm⟩
   rw [this] at hno;cases hno
  unfold upO
  rw [if_neg hne,if_neg hne]
  exact h.no k hno
 ·obtain ⟨y,hy,rfl⟩:=List.mem_map.1 hz
  obtain ⟨e1,e2⟩:=chg_ow x.1 b e y
  obtain ⟨o1,o2⟩:=h.ow y hy
  rw [e1,e2,hk,o1,o2]
  unfold upO
  exact ⟨rfl,rfl⟩
theorem QtOk.add {p:Nms} {oB oE:List ByteArray→Int} (h:QtOk p oB oE) {s:ByteArray} {b e:Int} (he:addE p s b e=0):QtOk (addN p (segsB s,b,e,0,0,0,0)) oB oE:=by
 obtain ⟨x,hxd⟩:∃x:Sp,x=(segsB s,b,e,0,0,0,0):=⟨_,rfl⟩
 have hk:x.1=segsB s:=by rw [hxd]
 have hno:hasN p x.1=false∧limOk b e=true:=by
  unfold addE at he
  rw [hk]
  split at he;· cases he
  split at he;· cases he
  split at he;· cases he
  next hl =>
  split at he;· cases he
  next hn=>exact ⟨by simpa using hn,by simpa using hl⟩
 have hl:(0≤b∧b≤1000000)∧0≤e∧e≤1000000:=by
  have:=hno.2
  unfold limOk at this
  simpa using this
 have h0:=h.no x.1 hno.1
 have hnz:∀z∈p,¬x.1 <+: z.1:=fun z hz hp=>by
  have:=anc h.tr.par _ rfl hz hp
  rw [hno.1] at this;cases this
 have ht:TrOk (addN p x):=by rw [hxd];exact h.tr.add he
 rw [←hxd]
 have m:∀ {z:Sp},z∈addN p x→z=x∨z∈p:=fun hz=>bu.1 hz
 refine ⟨ht,fun z hz=>?_,h.own,fun z hz=>?_,fun z hz=>?_,fun k hkn=>?_,fun z hz=>?_⟩
 ·rcases m hz with rfl|hz
  ·rw [unS_new oB _ h0.1 hnz,unS_new oE _ h0.2 hnz,hxd];exact ⟨rfl,rfl⟩
  ·rw [unS_add oB p x h0.1,unS_add oE p x h0.2];exact h.sums z hz
 ·rcases m hz with rfl|hz
  ·rw [hxd];exact ⟨hl.1.1,hl.2.1⟩
  ·exact h.lim z hz
 ·rcases m hz with rfl|hz
  ·rw [hxd];exact ⟨hl.1.2,hl.2.2⟩
  ·exact h.room z hz
 ·refine h.no k ?_
  cases hc:hasN p k with
  | false=>rfl
  | true =>
   obtain ⟨y,hy,e2⟩:=ar.1 hc
   rw [ar.2 ⟨y,bu.2 (Or.inr hy),e2⟩] at hkn
   cases hkn
 ·rcases m hz with rfl|hz
  ·rw [h0.1,h0.2,hxd];exact ⟨rfl,rfl⟩
  ·exact h.ow z hz
def dropN (p:Nms) (x:Sp):Nms:=chgN (delN p x.1) x.1 (- usB x) (- usE x)
def ofO (o:List ByteArray→Int) (ks:List ByteArray):List ByteArray→Int:=fun k=>if undB k ks=true then 0 else o k
theorem unS_of (o:List ByteArray→Int) (p:Nms) (ks qs:List ByteArray):unS (ofO o ks) (delN p ks) qs=unS o (delN p ks) qs:=by
 unfold unS
 refine aB fun z hz=>?_
 have h1:undB z.1 ks=false:=by simpa [delN] using (List.mem_filter.1 hz).2
 unfold ofO
 rw [h1]
 rfl
theorem QtOk.drop {p:Nms} {oB oE:List ByteArray→Int} (h:QtOk p oB oE) {x:Sp} (hx:x∈p) (h0:x.1≠[]):QtOk (dropN p x) (ofO oB x.1) (ofO oE x.1):=by
 have hk:=ca x.1 (- usB x) (- usE x)
 have ht:TrOk (delN p x.1):=h.tr.del h0
 have hpx:=h.pos hx
 refine ⟨ht.map _ hk,fun z hz=>?_,fun k=>?_,fun z hz=>?_,fun z hz=>?_,fun k hno=>?_,fun z hz=>?_⟩
 ·obtain ⟨y,hy,rfl⟩:=List.mem_map.1 hz
  obtain ⟨hy1,hy2⟩:=List.mem_filter.1 hy
  have hyu:undB y.1 x.1=false:=by simpa using hy2
  unfold dropN chgN
  rw [cR,cN,hk,cp _ _ hk,cp _ _ hk,unS_of,unS_of,unS_del oB p x.1 y.1 hyu,unS_del oE p x.1 y.1 hyu,(h.sums y hy1).1,(h.sums y hy1).2,(h.sums x hx).1,(h.sums x hx).2]
  by_cases hu:undB x.1 y.1=true
  ·rw [if_pos hu,if_pos hu,if_pos hu,if_pos hu];omega
  ·rw [if_neg hu,if_neg hu,if_neg hu,if_neg hu];omega
 ·unfold ofO
  have:=h.own k
  split
  ·exact ⟨Int.le_refl _,Int.le_refl _⟩
  ·exact this
 ·obtain ⟨y,hy,rfl⟩:=List.mem_map.1 hz
  obtain ⟨hy1,_⟩:=List.mem_filter.1 hy
  rw [cR,cN,cQ,cO]
  have h1:=h.lim y hy1
  split<;>omega
 ·obtain ⟨y,hy,rfl⟩:=List.mem_map.1 hz
  rw [cQ,cO]
  exact h.room y (List.mem_filter.1 hy).1
 ·unfold dropN chgN at hno
  rw [c4 _ hk] at hno
  unfold ofO
  by_cases hu:undB k x.1=true
  ·rw [if_pos hu,if_pos hu];exact ⟨rfl,rfl⟩
  ·rw [if_neg hu,if_neg hu]
   refine h.no k ?_
   cases hc:hasN p k with
   | false=>rfl
   | true =>
    obtain ⟨y,hy,e2⟩:=ar.1 hc
    have:y∈delN p x.1:=List.mem_filter.2 ⟨hy,by rw [e2];simpa using hu⟩
    rw [ar.2 ⟨y,this,e2⟩] at hno
    cases hno
 ·obtain ⟨y,hy,rfl⟩:=List.mem_map.1 hz
  obtain ⟨hy1,hy2⟩:=List.mem_filter.1 hy
  have hyu:undB y.1 x.1=false:=by simpa using hy2
  have hne:y.1≠x.1:=fun e=>by rw [e,cv] at hyu;cases hyu
  obtain ⟨e1,e2⟩:=chg_ow x.1 (- usB x) (- usE x) y
  obtain ⟨o1,o2⟩:=h.ow y hy1
  rw [e1,e2,hk,if_neg hne,if_neg hne,o1,o2]
  unfold ofO
  rw [hyu]
  exact ⟨rfl,rfl⟩
open Go Go.RowKit
theorem sumI_pos {f:Sp→Int} {p:Nms} (h:∀x∈p,0≤f x):0≤sumI f p:=by
 induction p with
 | nil=>exact Int.le_refl 0
 | cons x p ih =>
  rw [sumI]
  have h1:=h x (List.mem_cons_self ..)
  have h2:=ih fun y hy=>h y (List.mem_cons_of_mem _ hy)
  omega
theorem sumI_part {f:Sp→Int} {p:Nms} (h:∀x∈p,0≤f x) (k:Nat):0≤sumI f (p.take k)∧sumI f (p.take k)≤sumI f p:=by
 have e:=sumI_append f (p.take k) (p.drop k)
 rw [List.take_append_drop] at e
 have h1:=sumI_pos (f:=f) (p:=p.take k) fun x hx=>h x (List.mem_of_mem_take hx)
 have h2:=sumI_pos (f:=f) (p:=p.drop k) fun x hx=>h x (List.mem_of_mem_drop hx)
 omega
theorem isKid_tx {y:Sp} {ks:List ByteArray} (hy:PlOk y.1) (hk:PlOk ks):isKid y ks=(!decide (y.1=[])&&decide (tx y.1.dropLast=tx ks)):=by
 unfold isKid
 congr 1
 rw [Bool.eq_iff_iff,decide_eq_true_iff,decide_eq_true_iff]
 exact ⟨fun h=>by rw [h],fun h=>tx_inj hy.drop hk h⟩
def leftK (f:Sp→Int) (p:Nms) (x:Sp) (k:Nat):Int:=f x - sumI (fun y=>if isKid y x.1=true then f y else 0) (p.take k)
theorem QtOk.leftB {p:Nms} {oB oE:List ByteArray→Int} (h:QtOk p oB oE) {x:Sp} (hx:x∈p) (k:Nat):0≤leftK usB p x k∧leftK usB p x k≤1000000:=by
 have h1:=(h.own_is hx).1
 have h2:=sumI_part (f:=fun y=>if isKid y x.1=true then usB y else 0) (p:=p) (fun y hy=>by
  show 0≤if isKid y x.1=true then usB y else 0
  have:=(h.pos hy).1
  split<;>omega) k
 have h3:=(h.own x.1).1
 have h4:=h.bounds hx
 unfold leftK
 omega
theorem QtOk.leftE {p:Nms} {oB oE:List ByteArray→Int} (h:QtOk p oB oE) {x:Sp} (hx:x∈p) (k:Nat):0≤leftK usE p x k∧leftK usE p x k≤1000000:=by
 have h1:=(h.own_is hx).2
 have h2:=sumI_part (f:=fun y=>if isKid y x.1=true then usE y else 0) (p:=p) (fun y hy=>by
  show 0≤if isKid y x.1=true then usE y else 0
  have:=(h.pos hy).2
  split<;>omega) k
 have h3:=(h.own x.1).2
 have h4:=h.bounds hx
 unfold leftK
 omega
theorem QtOk.leftAll {p:Nms} {oB oE:List ByteArray→Int} (h:QtOk p oB oE) {x:Sp} (hx:x∈p):leftK usB p x p.length=oB x.1∧leftK usE p x p.length=oE x.1:=by
 have h1:=h.own_is hx
 unfold leftK
 rw [List.take_length]
 omega
def heldC (x:Int):Int:=max (-1000000) (min x 1000000)
theorem cq (x:Int) : -1000000≤heldC x∧heldC x≤1000000:=by unfold heldC;omega
def overS (b e:Int) (y:Sp):Bool:=(decide (0<b)&&decide (lmB y<usB y+b))||(decide (0<e)&&decide (lmE y<usE y+e))
def canE (p:Nms) (oB oE:List ByteArray→Int) (s:ByteArray) (b e:Int):Int :=
 if getB p s=false then 100 else if oB (segsB s)+heldC b<0∨oE (segsB s)+heldC e<0 then 12 else
 if (p.any fun y=>undB (segsB s) y.1&&overS (heldC b) (heldC e) y)=true then 170 else 0
theorem canE_zero {p:Nms} {oB oE:List ByteArray→Int} {s:ByteArray} {b e:Int} (h:canE p oB oE s b e=0) :
  getB p s=true∧0≤oB (segsB s)+heldC b∧0≤oE (segsB s)+heldC e∧∀y∈p,undB (segsB s) y.1=true→(0<heldC b→usB y+heldC b≤lmB y)∧(0<heldC e→usE y+heldC e≤lmE y):=by
 unfold canE at h
 split at h;· cases h
 next h1 =>
 split at h;· cases h
 next h2 =>
 split at h;· cases h
 next h3 =>
 refine ⟨by simpa using h1,by omega,by omega,fun y hy hu=>?_⟩
 have h4:overS (heldC b) (heldC e) y=false:=by
  cases hc:overS (heldC b) (heldC e) y with
  | false=>rfl
  | true=>exact absurd (List.any_eq_true.2 ⟨y,hy,by rw [hu,hc];rfl⟩) h3
 unfold overS at h4
 rw [Bool.or_eq_false_iff,Bool.and_eq_false_iff,Bool.and_eq_false_iff,decide_eq_false_iff_not,decide_eq_false_iff_not,decide_eq_false_iff_not,decide_eq_false_iff_not] at h4
 omega
theorem QtOk.chargeE {p:Nms} {oB oE:List ByteArray→Int} (h:QtOk p oB oE) {s:ByteArray} {b e:Int} (hc:canE p oB oE s b e=0) :
  QtOk (chgN p (segsB s) (heldC b) (heldC e)) (upO oB (segsB s) (heldC b)) (upO oE (segsB s) (heldC e)):=by
 obtain ⟨h1,h2,h3,h4⟩:=canE_zero hc
 unfold getB at h1
 rw [Bool.and_eq_true] at h1
 obtain ⟨x,hx,hk⟩:=ar.1 h1.2
 rw [←hk] at h2 h3 h4 ⊢
 exact h.charge hx h2 h3 h4
open Go Go.RowKit Go.Maps Go.ChangeShapes Go.WideShapes Go.MapKept Go.MapFrom
open Go.ChangeMaps (notKey putKey delKey mem_insert_iff eq_of_perm_sorted rising_of_pairwise filter_eq_eraseIdx hit_apart setBlock map_eraseIdx set_perm modify_eq_set eraseDups_of_nodup heap_setBlock_same heap_setBlock_other)
open Go.WideElems (Fit rd rg pl rd_key rd_val rg_of rd_mk rd_stay elemAt other_key trod_map_eq mapM_reads)
theorem setHeld {P:Program} {k t e:TypeId} {w:World} {b r n:Nat} {D:DataW Value} {left:Lit→Bool} {cnt:Nat} (h:w.ranges P k rdV b r n D left cnt) (K:Keyed P k) (ht:P.underlying t=some (.map k e)) {key:Value} {kl:Lit} (hkey:keyOf P k key=some kl) (hl:Maps.has D kl=true) (hn:n<1000000) (val:Value) :
  ∃w',(Instr.mapUpdate t (.map (some b)) key val).run P w=.ok () w'∧w'.ranges P k rdV b r n (D.put kl (.held val)) left cnt∧Upd b w w':=by
 have hne:=h.ne
 have howns:=h.owns
 obtain ⟨es,clock,since,seen,c0,hb,F,hs,rfl,hr,hold,rfl,hl1,hl2,hsc,hsk⟩:=h
 have hv:rdV val=some (.held val,[]):=rfl
 obtain ⟨es',clock',hrun,F',hput,_,_,_⟩:=Maps.fit_store (R':=rdV) K ht hb F (by unfold maxLen;omega) (fun _ _ _ _ hz=>hz) hkey hv
 rcases K.find w hkey es.toList F.keys with ⟨h1,h2⟩|⟨j,e0,h1,h2,h3⟩
 ·exfalso
  rw [Maps.has_eq,List.any_eq_true] at hl
  obtain ⟨p,hp,hpk⟩:=hl
  obtain ⟨x,hx,rfl⟩:=List.mem_map.1 (mem_sorted.1 hp)
  obtain ⟨y,hy⟩:=F.reads x hx
  have m1:=rd_key hy
  have e1:=WideAt.sameKey_eq hpk
  rw [rg_of hy] at e1
  rw [e1] at m1
  exact h2 x hx (K.inj m1 hkey)
 ·have hj:es[j]?=some e0:=by simpa using h2
  have hjl:j<es.toList.length:=(List.getElem?_eq_some_iff.1 h2).1
  have hrun2:(Instr.mapUpdate t (.map (some b)) key val).run P w=.ok () (setBlock w b (.map (es.modify j (fun e'=>{e' with key:=key,val:=val})) clock)):=by
   simp [Instr.mapUpdate,run_underlying ht,MapKept.run_getObj_map hb,K.check w false hkey,h1,hj,h3,K.stays w hkey,MapKept.run_setObj_map _ hb,Result.andThen,setBlock]
  have heq:setBlock w b (.map es' clock')=setBlock w b (.map (es.modify j (fun e'=>{e' with key:=key,val:=val})) clock):=by
   have h9:=hrun.symm.trans hrun2
   injection h9
  have hb1:=heap_setBlock_same hb (.map es' clock')
  rw [heq,heap_setBlock_same hb] at hb1
  simp only [Option.some.injEq,Obj.map.injEq] at hb1
  obtain ⟨hb1,hb2⟩:=hb1
  subst hb1 hb2
  have hlist:(es.modify j (fun e'=>{e' with key:=key,val:=val})).toList=es.toList.set j {e0 with key:=key,val:=val}:=by rw [Array.toList_modify,modify_eq_set _ _ _ _ h2]
  have hm0:e0∈es.toList:=List.mem_of_getElem? h2
  have hk0:(rg P k rdV e0).1=kl:=by
   obtain ⟨y0,hy0⟩:=F.reads e0 hm0
   have m0:=rd_key hy0
   rw [rg_of hy0]
   rw [h3,hkey] at m0
   exact (Option.some.inj m0).symm
  have hkn:(rg P k rdV {e0 with key:=key,val:=val}).1=kl:=by rw [rg_of (rd_mk hkey hv)]
  have who:∀x∈es.toList.set j {e0 with key:=key,val:=val},x={e0 with key:=key,val:=val}∨x∈es.toList:=fun x hx=>(List.mem_or_eq_of_mem_set hx).symm
  refine ⟨_,hrun2,⟨_,_,since,seen,c0,heap_setBlock_same hb _,F',by simpa using hs,by rw [DataW.put_eq,hput],(heap_setBlock_other hb _ hne).trans hr,fun x hx=>?_,?_,fun x hx=>?_,fun kl' hk'=>?_,hsc,hsk⟩,⟨rfl,rfl,rfl,by simp [setBlock],fun i hi he=>heap_setBlock_other hb _ he⟩⟩
  ·rw [hlist] at hx
   rcases who x hx with rfl|hx
   ·exact hold e0 hm0
   ·exact hold x hx
  ·have e1:∀a:Array MapEntry,(leftOf a seen).size=((a.toList.map (·.born)).filter fun b => !seen.contains b).length:=fun a=>by
    unfold leftOf
    rw [←Array.length_toList,Array.toList_filter,List.filter_map,List.length_map]
    rfl
   rw [e1,e1,hlist,List.map_set]
   congr 2
   have e2:(es.toList.map (·.born))[j]?=some e0.born:=by rw [List.getElem?_map,h2];rfl
   refine List.ext_getElem? fun i=>?_
   rw [List.getElem?_set]
   by_cases hij:j=i
   ·subst hij
    rw [if_pos rfl,e2,if_pos (by rw [List.length_map];exact hjl)]
   ·rw [if_neg hij]
  ·rw [hlist] at hx
   rcases who x hx with rfl|hx
   ·rw [hkn,←hk0];exact hl1 e0 hm0
   ·exact hl1 x hx
  ·obtain ⟨x,hx,rfl⟩:=hl2 kl' hk'
   rw [hlist]
   obtain ⟨i,hi⟩:=List.getElem?_of_mem hx
   by_cases hij:i=j
   ·subst hij
    rw [h2] at hi
    cases hi
    exact ⟨{e0 with key:=key,val:=val},List.mem_iff_getElem?.2 ⟨i,by rw [List.getElem?_set,if_pos rfl,if_pos hjl]⟩,by rw [hkn,hk0]⟩
   ·exact ⟨x,List.mem_iff_getElem?.2 ⟨i,by rw [List.getElem?_set,if_neg (fun e=>hij e.symm)];exact hi⟩,rfl⟩
def KMD (P:Program) (kT:TypeId) (D:DataW Value) (p:Value→Value→Prop):Prop :=
 (∀k kl,keyOf P kT k=some kl→(Maps.has D kl=true↔∃v,p k v))∧(∀k kl v z,keyOf P kT k=some kl→p k v→D.atKey kl z=.held v)
section
variable {P:Program} {kT:TypeId} {w w':World} {m q:Nat} {p:Value→Value→Prop} {D:DataW Value} {key v:Value} {kl:Lit}
theorem KMD.km (h:KMD P kT D p) (ho:w.ownsMap P kT rdV m q D):KM P kT w m q p:=⟨D,ho,h.1,h.2⟩
theorem KMD.same {p':Value→Value→Prop} (h:KMD P kT D p) (hp:∀k v,p k v↔p' k v):KMD P kT D p' :=
 ⟨fun k kl hk=>(h.1 k kl hk).trans ⟨fun ⟨v,hv⟩=>⟨v,(hp k v).1 hv⟩,fun ⟨v,hv⟩=>⟨v,(hp k v).2 hv⟩⟩,fun k kl v z hk hv=>h.2 k kl v z hk ((hp k v).2 hv)⟩
theorem KMD.val (h:KMD P kT D p) (hkey:keyOf P kT key=some kl) (hh:Maps.has D kl=true) {y:DataW Value×List MemPlace} (hv:rdV v=some y) (hat:∀zd,D.atKey kl zd=y.1):p key v:=by
 obtain ⟨v0,h0⟩:=(h.1 key kl hkey).1 hh
 have e1:=h.2 key kl v0 (.held v) hkey h0
 rw [hat] at e1
 unfold rdV at hv
 simp only [Option.some.injEq] at hv
 subst hv
 simp only [DataW.held.injEq] at e1
 rw [e1];exact h0
theorem KMD.put (h:KMD P kT D p) (K:Keyed P kT) (hD:IsMap D) (hk:keyOf P kT key=some kl) (val:Value):KMD P kT (D.put kl (.held val)) (putK p key val):=by
 refine ⟨fun k kl' hk'=>?_,fun k kl' v z hk' hv=>?_⟩
 ·by_cases he:kl'=kl
  ·subst he
   rw [has_put_same hD (K.key hk)]
   have e2:k=key:=K.inj hk' hk
   exact ⟨fun _=>⟨val,Or.inl ⟨e2,rfl⟩⟩,fun _=>rfl⟩
  ·have e2:k≠key:=fun e=>he (by subst e;exact Option.some.inj (hk'.symm.trans hk))
   rw [has_put_other he,h.1 k kl' hk']
   constructor
   ·rintro ⟨v,hv⟩;exact ⟨v,Or.inr ⟨e2,hv⟩⟩
   ·rintro ⟨v,hv⟩
    rcases hv with ⟨e3,_⟩|⟨_,hv⟩
    ·exact absurd e3 e2
    ·exact ⟨v,hv⟩
 ·by_cases he:kl'=kl
  ·subst he
   have e2:k=key:=K.inj hk' hk
   rw [atKey_put_same hD (K.key hk)]
   rcases hv with ⟨_,e3⟩|⟨e3,_⟩
   ·rw [e3]
   ·exact absurd e2 e3
  ·have e2:k≠key:=fun e=>he (by subst e;exact Option.some.inj (hk'.symm.trans hk))
   rw [atKey_put_other he]
   rcases hv with ⟨e3,_⟩|⟨_,hv⟩
   ·exact absurd e3 e2
   ·exact h.2 k kl' v z hk' hv
theorem has_putHas (hD:IsMap D) (hk:WideAt.IsKeyLit kl) (hl:Maps.has D kl=true) (d:DataW Value) (kl':Lit):Maps.has (D.put kl d) kl'=Maps.has D kl':=by
 by_cases he:kl'=kl
 ·subst he
  rw [has_put_same hD hk,hl]
 ·rw [has_put_other he]
end
section
variable {P:Program} {kT:TypeId} {ops:Array Oper} {rest:List Oper} {a:Act} {w w0 w':World} {Q:Exit→Act→World→Prop} {dst:Option Tmp} {typ:TypeId} {pos:String} {aft:Array Edge} {gd:Option (Nat×Bool)} {m q r cnt:Nat} {p:Value→Value→Prop} {D:DataW Value} {left:Lit→Bool}
theorem bt {x:Operand} {t e:TypeId} (km:KM P kT w m q p) (K:Keyed P kT) (ht:P.underlying t=some (.map kT e)) (hx:a.eval x=.map (some m))
  (h:∀w' r D,w'.ranges P kT rdV m r q D (Maps.has D) (Maps.size D)→KMD P kT D p→Below w.heap.size w w'→w.heap.size≤r→r<w'.heap.size→wpList P ops Q rest (a.put dst (.pointer (some ⟨r,0,none⟩))) w') :
  wpList P ops Q ({dst:=dst,op:=.range t x,type:=typ,pos:=pos,after:=aft,guard:=none}::rest) a w:=by
 obtain ⟨D,ho,h1,h2⟩:=km
 refine wpList_range_own w rfl x t rfl kT e K ht rdV m q D hx ho ?_
 intro w' hrg hg hs
 exact h w' w.heap.size D hrg ⟨h1,h2⟩ ⟨hg.os,hg.tape,hg.output,hg.size,fun k hk=>hg.block k hk (by simp)⟩ (Nat.le_refl _) (by omega)
theorem wpl_setQ {x k y:Operand} {t e:TypeId} {key val:Value} {kl:Lit} (hr:w.ranges P kT rdV m r q D left cnt) (K:Keyed P kT) (ht:P.underlying t=some (.map kT e)) (hq:q<1000000) (hkey:keyOf P kT key=some kl) (hh:Maps.has D kl=true) (hx:a.eval x=.map (some m)) (hk:a.eval k=key) (hy:a.eval y=val)
  (h:∀w',w'.ranges P kT rdV m r q (D.put kl (.held val)) left cnt→Upd m w w'→wpList P ops Q rest (a.put dst undef) w') :
  wpList P ops Q ({dst:=dst,op:=.mapUpdate t x k y,type:=typ,pos:=pos,after:=aft,guard:=none}::rest) a w:=by
 obtain ⟨w',hrun,h1,h2⟩:=setHeld hr K ht hkey hh hq val
 refine wpList_plain rfl fun K' hK'=>?_
 have hh:=hK' _ _ (h w' h1 h2)
 unfold Oper.wp
 simp [execOp,hx,hk,hy,hrun,Result.andThen]
 exact hh
end
theorem Upd.of_grown {g:Nat} {w w':World} (h:w.grownBy w' (some g)):Upd g w w' :=
 ⟨h.os,h.tape,h.output,h.size,fun k hk hne=>h.block k hk (fun e=>hne (Option.some.inj e))⟩
theorem Mem.join {w0 w1 w2:World} {S:List Nat} {rows:List (Nat×List Value×TypeId)} (h1:Mem w0 S w1 []) (h2:Mem w1 [] w2 rows):Mem w0 S w2 []:=by
 refine ⟨h2.os.trans h1.os,h2.tape.trans h1.tape,h2.output.trans h1.output,Nat.le_trans h1.size h2.size,fun k hk hn=>(h2.block k (Nat.lt_of_lt_of_le hk h1.size) (by simp)).trans (h1.block k hk hn),fun r hr=>absurd hr (by simp),h1.nodup,fun r hr=>absurd hr (by simp)⟩
open Go Go.RowKit Go.Maps
def addV (V:List ByteArray→Bool) (k:List ByteArray):List ByteArray→Bool:=fun ks=>V ks||decide (ks=k)
structure Vis (p:Nms) (V:List ByteArray→Bool) (D:DataW Value) (left:Lit→Bool):Prop where
 sub:∀kl,left kl=true→Maps.has D kl=true
 all:∀x∈p,∀kl,keyOf Tryd.prog 42 (.agg (pvv x.1).toArray)=some kl→left kl = !V x.1
theorem Vis.start {p:Nms} {D:DataW Value} (hD:KMD Tryd.prog 42 D (NmK p)):Vis p (fun _=>false) D (Maps.has D) :=
 ⟨fun _ h=>h,fun x hx kl hk=>(hD.1 _ kl hk).2 ⟨_,x,hx,rfl,rfl⟩⟩
theorem Vis.next {p:Nms} {V:List ByteArray→Bool} {D:DataW Value} {left:Lit→Bool} (h:Vis p V D left) (hp:NmOk p) {x0:Sp} (hx0:x0∈p) {kl:Lit} (hk:keyOf Tryd.prog 42 (.agg (pvv x0.1).toArray)=some kl):Vis p (addV V x0.1) D (fun z=>left z && !z.sameKey kl):=by
 refine ⟨fun k h1=>?_,fun x hx k h1=>?_⟩
 ·simp only [Bool.and_eq_true] at h1
  exact h.sub k h1.1
 ·show (left k && !k.sameKey kl) = !(V x.1||decide (x.1=x0.1))
  rw [h.all x hx k h1]
  by_cases he:x.1=x0.1
  ·have e2:k=kl:=by rw [he,hk] at h1;exact (Option.some.inj h1).symm
   rw [e2,WideAt.sameKey_self (ax.key hk),decide_eq_true he]
   simp
  ·have hne:k.sameKey kl=false:=Maps.sameKey_ne fun e=>he (bG (hp.ok x hx) (hp.ok x0 hx0) (ax.inj (e▸h1) hk))
   rw [hne,decide_eq_false he]
   simp
theorem Vis.put {p:Nms} {V:List ByteArray→Bool} {D:DataW Value} {left:Lit→Bool} (h:Vis p V D left) (hD:IsMap D) {kl:Lit} (hk:WideAt.IsKeyLit kl) (hl:Maps.has D kl=true) (d:DataW Value):Vis p V (D.put kl d) left :=
 ⟨fun k h1=>by rw [has_putHas hD hk hl];exact h.sub k h1,h.all⟩
theorem Vis.fresh {p:Nms} {V:List ByteArray→Bool} {D:DataW Value} {left:Lit→Bool} (h:Vis p V D left) {x0:Sp} (hx0:x0∈p) {kl:Lit} (hk:keyOf Tryd.prog 42 (.agg (pvv x0.1).toArray)=some kl) (hl:left kl=true):V x0.1=false:=by
 have h1:=h.all x0 hx0 kl hk
 rw [hl] at h1
 cases hv:V x0.1 with
 | false=>rfl
 | true=>rw [hv] at h1;cases h1
theorem Vis.done {p:Nms} {V:List ByteArray→Bool} {D:DataW Value} {left:Lit→Bool} (h:Vis p V D left) (hp:NmOk p) (h0:∀kl,left kl=false):∀x∈p,V x.1=true:=fun x hx=>by
 obtain ⟨kl,hk⟩:=cD (hp.ok x hx)
 have h1:=h.all x hx kl hk
 rw [h0] at h1
 cases hv:V x.1 with
 | false=>rw [hv] at h1;cases h1
 | true=>rfl
def visN (t:Sp→Sp) (V:List ByteArray→Bool) (p:Nms):Nms:=p.map fun y=>if V y.1=true then t y else y
theorem visN_none (t:Sp→Sp) (p:Nms):visN t (fun _=>false) p=p:=by
 unfold visN
 simp
theorem visN_all {t:Sp→Sp} {V:List ByteArray→Bool} {p:Nms} (h:∀x∈p,V x.1=true):visN t V p=p.map t:=by
 unfold visN
 exact List.map_congr_left fun x hx=>if_pos (h x hx)
theorem nmK_vis {t:Sp→Sp} (ht:∀x,(t x).1=x.1) {p:Nms} (hp:NmOk p) {x0:Sp} (hx:x0∈p) (V:List ByteArray→Bool) (k v:Value) :
  putK (NmK (visN t V p)) (.agg (pvv x0.1).toArray) (.agg (spw (t x0)).toArray) k v↔NmK (visN t (addV V x0.1) p) k v:=by
 have hk:∀(W:List ByteArray→Bool) (y:Sp),(if W y.1=true then t y else y).1=y.1:=fun W y=>by split;exact ht y;rfl
 constructor
 ·rintro (⟨rfl,rfl⟩|⟨h1,z,hz,rfl,rfl⟩)
  ·refine ⟨t x0,List.mem_map.2 ⟨x0,hx,?_⟩,by rw [ht],rfl⟩
   rw [if_pos];unfold addV;simp
  ·obtain ⟨y,hy,rfl⟩:=List.mem_map.1 hz
   rw [hk] at h1
   have hne:y.1≠x0.1:=fun e=>h1 (by rw [e])
   refine ⟨_,List.mem_map.2 ⟨y,hy,rfl⟩,?_,?_⟩
   ·rw [hk,hk]
   ·unfold addV;rw [decide_eq_false hne,Bool.or_false]
 ·rintro ⟨z,hz,rfl,rfl⟩
  obtain ⟨y,hy,rfl⟩:=List.mem_map.1 hz
  rw [hk]
  by_cases he:y.1=x0.1
  ·have e2:=hp.uniq hy hx he
   subst e2
   refine Or.inl ⟨rfl,?_⟩
   rw [if_pos];unfold addV;simp
  ·refine Or.inr ⟨fun e=>he (bG (hp.ok y hy) (hp.ok x0 hx) e),_,List.mem_map.2 ⟨y,hy,rfl⟩,by rw [hk],?_⟩
   unfold addV;rw [decide_eq_false he,Bool.or_false]
theorem vis_get {t:Sp→Sp} (ht:∀x,(t x).1=x.1) {p:Nms} {V:List ByteArray→Bool} {key v:Value} (h:NmK (visN t V p) key v):∃x0,x0∈p∧key=.agg (pvv x0.1).toArray∧(V x0.1=false→v=.agg (spw x0).toArray):=by
 obtain ⟨z,hz,rfl,rfl⟩:=h
 obtain ⟨y,hy,rfl⟩:=List.mem_map.1 hz
 refine ⟨y,hy,?_,fun hv=>?_⟩
 ·split
  ·rw [ht]
  ·rfl
 ·rw [hv];rfl
def kC (V:List ByteArray→Bool) (t:ByteArray) (y:Sp):Bool:=V y.1&&(!decide (y.1=[])&&decide (tx y.1.dropLast=t))
def kS (f:Sp→Int) (p:Nms) (V:List ByteArray→Bool) (t:ByteArray):Int:=sumI (fun y=>if kC V t y=true then f y else 0) p
theorem kS_next {f:Sp→Int} {p:Nms} (hp:NmOk p) {x0:Sp} (hx:x0∈p) {V:List ByteArray→Bool} (hV:V x0.1=false) (t:ByteArray) :
  kS f p (addV V x0.1) t=kS f p V t+if (!decide (x0.1=[])&&decide (tx x0.1.dropLast=t))=true then f x0 else 0:=by
 have e1:kS f p (addV V x0.1) t=sumI (fun y=>(if kC V t y=true then f y else 0)+(if y.1=x0.1 then (if (!decide (y.1=[])&&decide (tx y.1.dropLast=t))=true then f y else 0) else 0)) p:=by
  unfold kS
  refine aB fun y hy=>?_
  by_cases he:y.1=x0.1
  ·have e2:=hp.uniq hy hx he
   subst e2
   unfold kC addV
   rw [hV]
   simp
  ·unfold kC addV
   rw [decide_eq_false he,if_neg he,Bool.or_false,Int.add_zero]
 rw [e1,cr,cb hp.keys hx fun y hy hne=>if_neg hne,if_pos rfl]
 rfl
theorem kS_all {f:Sp→Int} {p:Nms} (hp:NmOk p) {V:List ByteArray→Bool} (hV:∀x∈p,V x.1=true) {ks:List ByteArray} (hk:PlOk ks):kS f p V (tx ks)=sumI (fun y=>if isKid y ks=true then f y else 0) p:=by
 unfold kS
 refine aB fun y hy=>?_
 rw [isKid_tx (hp.ok y hy) hk]
 unfold kC
 rw [hV y hy,Bool.true_and]
theorem kS_bound {f:Sp→Int} {p:Nms} (h:∀x∈p,0≤f x∧f x≤1000000) (V:List ByteArray→Bool) (t:ByteArray):0≤kS f p V t∧kS f p V t≤1000000 * (p.length:Int):=by
 unfold kS
 induction p with
 | nil=>exact ⟨Int.le_refl 0,Int.le_refl 0⟩
 | cons x p ih =>
  have h1:=h x (List.mem_cons_self ..)
  have h2:=ih fun y hy=>h y (List.mem_cons_of_mem _ hy)
  rw [sumI,List.length_cons]
  split<;>omega
theorem kS_zero {f:Sp→Int} {p:Nms} {V:List ByteArray→Bool} {t:ByteArray} (h:¬ ∃y∈p,kC V t y=true):kS f p V t=0:=by
 unfold kS
 exact aY fun y hy=>if_neg fun hc=>h ⟨y,hy,hc⟩
def KdK (p:Nms) (V:List ByteArray→Bool):Value→Value→Prop:=fun k v=>∃t:ByteArray,t.size≤1000∧(∃y∈p,kC V t y=true)∧k=.string t∧v=.agg [Value.int .i64 (kS usB p V t),.int .i64 (kS usE p V t)].toArray
theorem kdK_start (p:Nms) (k v:Value):(fun (_ _:Value)=>False) k v↔KdK p (fun _=>false) k v:=by
 refine ⟨fun h=>h.elim,?_⟩
 rintro ⟨t,_,⟨y,_,hc⟩,_⟩
 unfold kC at hc
 simp at hc
theorem kdK_put {p:Nms} (hp:NmOk p) {x0:Sp} (hx:x0∈p) {V:List ByteArray→Bool} (hV:V x0.1=false) (h0:x0.1≠[]) (k v:Value) :
  putK (KdK p V) (.string (tx x0.1.dropLast)) (.agg [Value.int .i64 (kS usB p V (tx x0.1.dropLast)+usB x0),.int .i64 (kS usE p V (tx x0.1.dropLast)+usE x0)].toArray) k v↔KdK p (addV V x0.1) k v:=by
 have hn:∀(f:Sp→Int) (t:ByteArray),t≠tx x0.1.dropLast→kS f p (addV V x0.1) t=kS f p V t:=fun f t ht=>by
  rw [kS_next hp hx hV t,if_neg (by simp;exact fun _ e=>ht e.symm)];omega
 have hs:∀f:Sp→Int,kS f p (addV V x0.1) (tx x0.1.dropLast)=kS f p V (tx x0.1.dropLast)+f x0:=fun f=>by
  rw [kS_next hp hx hV,if_pos (by simp [h0])]
 have hc0:kC (addV V x0.1) (tx x0.1.dropLast) x0=true:=by unfold kC addV;simp [h0]
 have hcn:∀(t:ByteArray) (y:Sp),t≠tx x0.1.dropLast→kC (addV V x0.1) t y=kC V t y:=fun t y ht=>by
  unfold kC addV
  by_cases he:y.1=x0.1
  ·have:decide (tx y.1.dropLast=t)=false:=decide_eq_false fun e=>ht (by rw [←e,he])
   rw [this,Bool.and_false,Bool.and_false,Bool.and_false]
  ·rw [decide_eq_false he,Bool.or_false]
 constructor
 ·rintro (⟨rfl,rfl⟩|⟨h1,t,ht,⟨y,hy,hc⟩,rfl,rfl⟩)
  ·exact ⟨_,by have:=bd (hp.ok x0 hx).drop;omega,⟨x0,hx,hc0⟩,rfl,by rw [hs,hs]⟩
  ·have hne:t≠tx x0.1.dropLast:=fun e=>h1 (by rw [e])
   exact ⟨t,ht,⟨y,hy,by rw [hcn t y hne];exact hc⟩,rfl,by rw [hn _ t hne,hn _ t hne]⟩
 ·rintro ⟨t,ht,⟨y,hy,hc⟩,rfl,rfl⟩
  by_cases he:t=tx x0.1.dropLast
  ·subst he
   exact Or.inl ⟨rfl,by rw [hs,hs]⟩
  ·exact Or.inr ⟨fun e=>he (by simpa using e),t,ht,⟨y,hy,by rw [←hcn t y he];exact hc⟩,rfl,by rw [hn _ t he,hn _ t he]⟩
theorem kdK_root {p:Nms} {x0:Sp} {V:List ByteArray→Bool} (h0:x0.1=[]) (k v:Value):KdK p V k v↔KdK p (addV V x0.1) k v:=by
 have hc:∀(t:ByteArray) (y:Sp),kC (addV V x0.1) t y=kC V t y:=fun t y=>by
  unfold kC addV
  by_cases he:y.1=x0.1
  ·have:decide (y.1=[])=true:=decide_eq_true (he.trans h0)
   rw [this];simp
  ·rw [decide_eq_false he,Bool.or_false]
 have hs:∀(f:Sp→Int) (t:ByteArray),kS f p (addV V x0.1) t=kS f p V t:=fun f t=>by
  unfold kS
  exact aB fun y _=>by rw [hc]
 unfold KdK
 simp only [hc,hs]
theorem cz {ks:List ByteArray} (hk:PlOk ks) (s:ByteArray):tx ks=s↔isP (bs s)=true∧segsB s=ks:=by
 constructor
 ·rintro rfl;exact ⟨isP_tx hk,co hk⟩
 ·rintro ⟨h1,h2⟩;rw [←h2,tx_segs h1]
theorem getB_tx {p:Nms} (hp:NmOk p) (s:ByteArray):getB p s=true↔∃x∈p,tx x.1=s:=by
 unfold getB
 rw [Bool.and_eq_true]
 constructor
 ·rintro ⟨h1,h2⟩
  obtain ⟨x,hx,e⟩:=ar.1 h2
  exact ⟨x,hx,(cz (hp.ok x hx) s).2 ⟨h1,e.symm⟩⟩
 ·rintro ⟨x,hx,e⟩
  obtain ⟨h1,h2⟩:=(cz (hp.ok x hx) s).1 e
  exact ⟨h1,ar.2 ⟨x,hx,h2.symm⟩⟩
open Go Go.RowKit Go.Maps
theorem bw (x:Int) (h0 : -1000000000000≤x) (h1:x≤1000000000000):IntKind.i64.wrap x=x:=by
 simp [IntKind.wrap,IntKind.bits,IntKind.signed]
 omega
def sm (a b:Int):List Value:=[.int .i64 a,.int .i64 b]
theorem aS (a b:Int):∀v∈sm a b,v.oneCell'=true:=by intro v hv;simp [sm] at hv;rcases hv with rfl|rfl<;>rfl
theorem bc:Tryd.prog.underlying 59=some (.struct (Tryd.prog.fieldsOf 59)):=by kernel_rfl
theorem info_qs:(Tryd.prog.info? 59).map (fun i=>(i.zero,i.size))=some (some (.agg (sm 0 0).toArray),2):=by kernel_rfl
theorem aM:∀w,(zeroValue 59).run Tryd.prog w=.ok (.agg (sm 0 0).toArray) w:=(zero_of_info info_qs).1
theorem aC:(Tryd.prog.info? 59).map (·.size)=some 2:=(zero_of_info info_qs).2
theorem ag_pn:∀w,(isAgg 24).run Tryd.prog w=.ok false w:=by intro w;simp [go_sem]
theorem be (a b:Int):Tryd.prog.built 59 [(0,.int .i64 a),(1,.int .i64 b)]=some (sm a b).toArray:=by kernel_rfl
theorem built_lg (v:Option Addr):Tryd.prog.built 56 [(0,.pointer v)]=some [Value.pointer v].toArray:=by kernel_rfl
structure LgAt (w:World) (lb nb m c:Nat) (p:Nms):Prop where
 row:Row w lb [.pointer (some ⟨nb,0,none⟩)] 56
 nm:NmAt w nb m c p
theorem LgAt.below {w w':World} {lb nb m c:Nat} {p:Nms} (h:LgAt w lb nb m c p) (hb:Below w.heap.size w w'):LgAt w' lb nb m c p:=⟨Row.bel h.row hb,h.nm.below hb⟩
theorem LgAt.ne {w:World} {lb nb m c:Nat} {p:Nms} (h:LgAt w lb nb m c p):lb≠m∧nb≠m:=by
 obtain ⟨es,cc,hes⟩:=h.nm.isMap
 exact ⟨aq h.row hes,aq h.nm.row hes⟩
theorem LgAt.turn {w w':World} {lb nb m c c':Nat} {p p':Nms} (h:LgAt w lb nb m c p) (hu:Upd m w w') (hn:NmAt w' nb m c' p'):LgAt w' lb nb m c' p':=⟨hu.row h.row h.ne.1,hn⟩
theorem newL_q {nb m c:Nat} {p:Nms} (w:World) (h:NmAt w nb m c p) :
  Calls Tryd.prog 7 #[.pointer (some ⟨nb,0,none⟩)] w fun e w'=>∃lb,e=.returned (.pointer (some ⟨lb,0,none⟩))∧w.heap.size≤lb∧LgAt w' lb nb m c p∧Below w.heap.size w w':=by
 have hm:=Mem.start w
 have HR:Hid (NmAt w nb m c p):=h
 clear h
 go_enter Tryd.func7,Tryd.ntmps7
 go_wp2_with (first
  | ((with_reducible refine aa (some 4) (.build 56 #[(0,.tmp 3)]) ?_);refine an [Value.pointer (some ⟨nb,0,none⟩)] [(0,.pointer (some ⟨nb,0,none⟩))] rfl (built_lg _) ?_)
  | ((with_reducible refine aa (some 5) (.box 56 (.tmp 4)) ?_);refine cU [Value.pointer (some ⟨nb,0,none⟩)] rfl hm ?_;clear hm;intro w3 lb hm hb3))
 go_ret
 exact ⟨lb,rfl,(hm.fresh _ (List.mem_cons_self ..)).resolve_left (by simp),⟨hm.get 0 rfl,HR.out.below hm.below⟩,hm.below⟩
theorem ci {lb nb m c:Nat} {p:Nms} (w:World) (h:LgAt w lb nb m c p) :
  Calls Tryd.prog 9 #[.pointer (some ⟨lb,0,none⟩)] w fun e w'=>e=.returned (.pointer (some ⟨nb,0,none⟩))∧Below w.heap.size w w':=by
 have hm:=Mem.start w
 have HL:Hid (Row w lb [.pointer (some ⟨nb,0,none⟩)] 56):=h.row
 clear h
 go_enter Tryd.func9,Tryd.ntmps9
 go_wp2_with (first
  | ((with_reducible refine aa (some 6) (.load 24 (.tmp 5)) ?_);go_must (refine ab (.pointer (some ⟨nb,0,none⟩)) rfl (ae 0 (.pointer (some ⟨nb,0,none⟩)) (Row.bel HL.out hm.below) rfl ag_pn rfl) ?_)))
 go_ret
 exact ⟨rfl,hm.below⟩
theorem bT (x r:Int) (hr:r=heldC x) (w:World) :
  Calls Tryd.prog 21 #[.int .i64 x] w fun e w'=>e=.returned (.int .i64 r)∧Below w.heap.size w w':=by
 have hm:=Mem.start w
 have HR:Hid (r=heldC x):=hr
 clear hr
 go_enter Tryd.func21,Tryd.ntmps21
 go_wp2_with fail
 go_ret
 exact ⟨by rw [HR.out];rfl,hm.below⟩
theorem plus_q (a b c d x y:Int) (hx:IntKind.i64.wrap (a+c)=x) (hy:IntKind.i64.wrap (b+d)=y) (w:World) :
  Calls Tryd.prog 26 #[.agg (sm a b).toArray,.agg (sm c d).toArray] w fun e w'=>e=.returned (.agg (sm x y).toArray)∧Below w.heap.size w w':=by
 have hm:=Mem.start w
 go_enter Tryd.func26,Tryd.ntmps26
 go_wp2_with (first
  | ((with_reducible refine aa (some 2) (.box 59 (.tmp 0)) ?_);refine aE (sm a b) rfl hm ?_;clear hm;intro w1 g2 hm)
  | ((with_reducible refine aa (some 3) (.box 59 (.tmp 1)) ?_);refine aE (sm c d) rfl hm ?_;clear hm;intro w2 g3 hm)
  | ((with_reducible refine aa (some 4) (.alloc 59) ?_);refine ad _ aM hm ?_;clear hm;intro w3 g4 hm)
  | ((with_reducible refine aa (some 6) (.load 3 (.tmp 5)) ?_);refine al 2 0 (.int .i64 a) hm rfl rfl aj (rfl) ?_)
  | ((with_reducible refine aa (some 8) (.load 3 (.tmp 7)) ?_);refine al 1 0 (.int .i64 c) hm rfl rfl aj (rfl) ?_)
  | ((with_reducible refine aa (some 11) (.load 3 (.tmp 10)) ?_);refine al 2 1 (.int .i64 b) hm rfl rfl aj (rfl) ?_)
  | ((with_reducible refine aa (some 13) (.load 3 (.tmp 12)) ?_);refine al 1 1 (.int .i64 d) hm rfl rfl aj (rfl) ?_)
  | ((with_reducible refine aa (some 15) (.build 59 #[(0,.tmp 9),(1,.tmp 14)]) ?_);refine an (sm x y) [(0,.int .i64 x),(1,.int .i64 y)] rfl (be _ _) ?_)
  | ((with_reducible refine aa none (.store 59 (.tmp 4) (.tmp 15)) ?_);refine af 0 (sm x y) hm rfl rfl rfl 2 aC rfl rfl (aS _ _) ?_;clear hm;intro w4 hm))
 refine bv 0 hm rfl Tryd.results26 rfl _ bc rfl 2 aC rfl rfl ?_
 exact ⟨rfl,hm.below⟩
theorem exceeds_q (x y z s:Int) (hs:IntKind.i64.wrap (x+y)=s) (r:Bool) (hr:r=(decide (0<y)&&decide (z<s))) (w:World) :
  Calls Tryd.prog 40 #[.int .i64 x,.int .i64 y,.int .i64 z] w fun e w'=>e=.returned (.bool r)∧Below w.heap.size w w':=by
 have hm:=Mem.start w
 by_cases h1:0<y
 ·by_cases h2:z<s
  ·have e1:r=true:=by rw [hr,decide_eq_true h1,decide_eq_true h2];rfl
   subst e1
   clear hr
   go_enter Tryd.func40,Tryd.ntmps40
   go_wp2_with fail
   go_ret
   exact ⟨rfl,hm.below⟩
  ·have e1:r=false:=by rw [hr,decide_eq_false h2,Bool.and_false]
   subst e1
   clear hr
   go_enter Tryd.func40,Tryd.ntmps40
   go_wp2_with fail
   go_ret
   exact ⟨rfl,hm.below⟩
 ·have e1:r=false:=by rw [hr,decide_eq_false h1,Bool.false_and]
  subst e1
  clear hr
  go_enter Tryd.func40,Tryd.ntmps40
  go_wp2_with fail
  go_ret
  exact ⟨rfl,hm.below⟩
theorem bl {P:Program} {k:TypeId} {w:World} {b r n:Nat} {D:DataW Value} {left:Lit→Bool} {cnt:Nat} (h:w.ranges P k rdV b r n D left cnt):∃x y z,w.heap[r]?=some (.mapIter (some b) x y z):=by
 obtain ⟨es,clock,since,seen,c0,_,_,_,_,hr,_⟩:=h
 exact ⟨_,_,_,hr⟩
theorem c8 {P:Program} {k:TypeId} {w:World} {b r n:Nat} {D:DataW Value} {left:Lit→Bool} {cnt:Nat} (h:w.ranges P k rdV b r n D left cnt):∃es c,w.heap[b]?=some (.map es c):=by
 obtain ⟨es,clock,_,_,_,hb,_⟩:=h
 exact ⟨es,clock,hb⟩
theorem Mem.updI {w0 w w':World} {S:List Nat} {rows:List (Nat×List Value×TypeId)} {r:Nat} (hm:Mem w0 S w rows) (hi:∃a x y z,w.heap[r]?=some (.mapIter a x y z)) (hS:r∈S∨w0.heap.size≤r) (hu:Upd r w w'):Mem w0 S w' rows:=by
 refine ⟨hu.os.trans hm.os,hu.tape.trans hm.tape,hu.output.trans hm.output,Nat.le_trans hm.size hu.size,fun k hk hn=>?_,fun q hq=>hu.row (hm.row q hq) (fun e=>?_),hm.nodup,hm.fresh⟩
 ·refine (hu.block k (Nat.lt_of_lt_of_le hk hm.size) ?_).trans (hm.block k hk hn)
  rintro rfl
  rcases hS with h|h
  ·exact hn h
  ·omega
 ·obtain ⟨a,x,y,z,hz⟩:=hi
  have h1:=hm.row q hq
  unfold Row at h1
  rw [e,hz] at h1
  cases h1
def Past (p:Nms) (V:List ByteArray→Bool) (f:Sp→Bool):Prop:=∀x∈p,V x.1=true→f x=false
theorem Past.none (p:Nms) (f:Sp→Bool):Past p (fun _=>false) f:=fun _ _ h=>by cases h
theorem Past.next {p:Nms} {V:List ByteArray→Bool} {f:Sp→Bool} (h:Past p V f) (hp:NmOk p) {x0:Sp} (hx:x0∈p) (h0:f x0=false):Past p (addV V x0.1) f:=fun x hx1 hv=>by
 rcases (Bool.or_eq_true _ _).mp hv with h9|h9
 ·exact h x hx1 h9
 ·rw [hp.uniq hx1 hx (of_decide_eq_true h9)];exact h0
theorem Past.done {p:Nms} {V:List ByteArray→Bool} {f:Sp→Bool} (h:Past p V f) (hd:∀x∈p,V x.1=true):∀x∈p,f x=false:=fun x hx=>h x hx (hd x hx)
def isT (s:ByteArray) (x:Sp):Bool:=decide (tx x.1=s)
def ovT (ks:List ByteArray) (b e:Int) (x:Sp):Bool:=undB ks x.1&&overS b e x
theorem bI (x:Sp):∃(y:ByteArray) (a1 a2 a3 a4 a5 a6:Int),spw x=[.string y,.int .i64 a1,.int .i64 a2,.int .i64 a3,.int .i64 a4,.int .i64 a5,.int .i64 a6]∧y=tx x.1∧a1=lmB x∧a2=lmE x∧a3=usB x∧a4=usE x∧a5=owB x∧a6=owE x :=
 ⟨_,_,_,_,_,_,_,rfl,rfl,rfl,rfl,rfl,rfl,rfl,rfl⟩
end Go.Proofs.YtdmohffogfbnbaaDoor
