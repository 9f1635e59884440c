import Derived.Test.YtdmohffogfbnbaaGreatDoorQp10
import Derived.Maps.RangeWalk
import Derived.Test.YtdmohffogfbnbaaGreatDoorQp03
import Derived.Test.YtdmohffogfbnbaaGreatDoorQp06
set_option maxRecDepth 100000
set_option maxHeartbeats 4000000
namespace Go.Proofs.YtdmohffogfbnbaaGreatDoor
open Go Go.RowKit
theorem sumI_take {f:Sp→Int} {p:Nms} {k:Nat} {x:Sp} (hx:p[k]?=some x):sumI f (p.take (k+1))=sumI f (p.take k)+f x:=by
 rw [List.take_add_one,hx,ev]
 show _+(f x+0)=_
 omega
theorem sumI_pos {f:Sp→Int} {p:Nms} (h:∀x∈p,0≤f x):0≤sumI f p:=by
 induction p with
 | nil=>exact Int.le_refl 0
 | cons x p ih =>
  rw [sumI]
  have h1:=h x (List.mem_cons_self ..)
  have h2:=ih fun y hy=>h y (List.mem_cons_of_mem _ hy)
  omega
theorem sumI_part {f:Sp→Int} {p:Nms} (h:∀x∈p,0≤f x) (k:Nat):0≤sumI f (p.take k)∧sumI f (p.take k)≤sumI f p:=by
 have e:=ev f (p.take k) (p.drop k)
 rw [List.take_append_drop] at e
 have h1:=sumI_pos (f:=f) (p:=p.take k) fun x hx=>h x (List.mem_of_mem_take hx)
 have h2:=sumI_pos (f:=f) (p:=p.drop k) fun x hx=>h x (List.mem_of_mem_drop hx)
 omega
theorem isKid_tx {y:Sp} {ks:List ByteArray} (hy:PlOk y.1) (hk:PlOk ks):isKid y ks=(!decide (y.1=[])&&decide (tx y.1.dropLast=tx ks)):=by
 unfold isKid
 congr 1
 rw [Bool.eq_iff_iff,decide_eq_true_iff,decide_eq_true_iff]
 exact ⟨fun h=>by rw [h],fun h=>tx_inj hy.drop hk h⟩
def leftK (f:Sp→Int) (p:Nms) (x:Sp) (k:Nat):Int:=f x - sumI (fun y=>if isKid y x.1=true then f y else 0) (p.take k)
theorem fg (f:Sp→Int) (p:Nms) (x:Sp):leftK f p x 0=f x:=by
 unfold leftK
 rw [List.take_zero,sumI]
 omega
theorem eX {f:Sp→Int} {p:Nms} {x y:Sp} {k:Nat} (hy:p[k]?=some y):leftK f p x (k+1)=leftK f p x k - if isKid y x.1=true then f y else 0:=by
 unfold leftK
 rw [sumI_take hy]
 omega
theorem QtOk.leftB {p:Nms} {oB oE:List ByteArray→Int} (h:QtOk p oB oE) {x:Sp} (hx:x∈p) (k:Nat):0≤leftK usB p x k∧leftK usB p x k≤1000000:=by
 have h1:=(h.own_is hx).1
 have h2:=sumI_part (f:=fun y=>if isKid y x.1=true then usB y else 0) (p:=p) (fun y hy=>by
  show 0≤if isKid y x.1=true then usB y else 0
  have:=(h.pos hy).1
  split<;>omega) k
 have h3:=(h.own x.1).1
 have h4:=h.bounds hx
 unfold leftK
 omega
theorem QtOk.leftE {p:Nms} {oB oE:List ByteArray→Int} (h:QtOk p oB oE) {x:Sp} (hx:x∈p) (k:Nat):0≤leftK usE p x k∧leftK usE p x k≤1000000:=by
 have h1:=(h.own_is hx).2
 have h2:=sumI_part (f:=fun y=>if isKid y x.1=true then usE y else 0) (p:=p) (fun y hy=>by
  show 0≤if isKid y x.1=true then usE y else 0
  have:=(h.pos hy).2
  split<;>omega) k
 have h3:=(h.own x.1).2
 have h4:=h.bounds hx
 unfold leftK
 omega
theorem QtOk.leftAll {p:Nms} {oB oE:List ByteArray→Int} (h:QtOk p oB oE) {x:Sp} (hx:x∈p):leftK usB p x p.length=oB x.1∧leftK usE p x p.length=oE x.1:=by
 have h1:=h.own_is hx
 unfold leftK
 rw [List.take_length]
 omega
def heldC (x:Int):Int:=max (-1000000) (min x 1000000)
theorem bT (x:Int) : -1000000≤heldC x∧heldC x≤1000000:=by unfold heldC;omega
def overS (b e:Int) (y:Sp):Bool:=(decide (0<b)&&decide (lmB y<usB y+b))||(decide (0<e)&&decide (lmE y<usE y+e))
def canE (p:Nms) (oB oE:List ByteArray→Int) (s:ByteArray) (b e:Int):Int :=
 if getB p s=false then 100 else if oB (segsB s)+heldC b<0∨oE (segsB s)+heldC e<0 then 12 else
 if (p.any fun y=>undB (segsB s) y.1&&overS (heldC b) (heldC e) y)=true then 170 else 0
theorem ef {p:Nms} {oB oE:List ByteArray→Int} {s:ByteArray} {b e:Int} (h:canE p oB oE s b e=0) :
  getB p s=true∧0≤oB (segsB s)+heldC b∧0≤oE (segsB s)+heldC e∧∀y∈p,undB (segsB s) y.1=true→(0<heldC b→usB y+heldC b≤lmB y)∧(0<heldC e→usE y+heldC e≤lmE y):=by
 unfold canE at h
 split at h;· cases h
 next h1 =>
 split at h;· cases h
 next h2 =>
 split at h;· cases h
 next h3 =>
 refine ⟨by simpa using h1,by omega,by omega,fun y hy hu=>?_⟩
 have h4:overS (heldC b) (heldC e) y=false:=by
  cases hc:overS (heldC b) (heldC e) y with
  | false=>rfl
  | true=>exact absurd (List.any_eq_true.2 ⟨y,hy,by rw [hu,hc];rfl⟩) h3
 unfold overS at h4
 rw [Bool.or_eq_false_iff,Bool.and_eq_false_iff,Bool.and_eq_false_iff,decide_eq_false_iff_not,decide_eq_false_iff_not,decide_eq_false_iff_not,decide_eq_false_iff_not] at h4
 omega
theorem QtOk.chargeE {p:Nms} {oB oE:List ByteArray→Int} (h:QtOk p oB oE) {s:ByteArray} {b e:Int} (hc:canE p oB oE s b e=0) :
  QtOk (chgN p (segsB s) (heldC b) (heldC e)) (upO oB (segsB s) (heldC b)) (upO oE (segsB s) (heldC e)):=by
 obtain ⟨h1,h2,h3,h4⟩:=ef hc
 unfold getB at h1
 rw [Bool.and_eq_true] at h1
 obtain ⟨x,hx,hk⟩:=aE.1 h1.2
 rw [←hk] at h2 h3 h4 ⊢
 exact h.charge hx h2 h3 h4
open Go Go.RowKit Go.Maps Go.ChangeShapes Go.WideShapes Go.MapKept Go.MapFrom
open Go.ChangeMaps (notKey putKey delKey mem_insert_iff eq_of_perm_sorted rising_of_pairwise filter_eq_eraseIdx hit_apart setBlock map_eraseIdx set_perm modify_eq_set eraseDups_of_nodup heap_setBlock_same heap_setBlock_other)
open Go.WideElems (Fit rd rg pl rd_key rd_val rg_of rd_mk rd_stay elemAt other_key trod_map_eq mapM_reads)
theorem setHeld {P:Program} {k t e:TypeId} {w:World} {b r n:Nat} {D:DataW Value} {left:Lit→Bool} {cnt:Nat} (h:w.ranges P k rdV b r n D left cnt) (K:Keyed P k) (ht:P.underlying t=some (.map k e)) {key:Value} {kl:Lit} (hkey:keyOf P k key=some kl) (hl:Maps.has D kl=true) (hn:n<1000000) (val:Value) :
  ∃w',(Instr.mapUpdate t (.map (some b)) key val).run P w=.ok () w'∧w'.ranges P k rdV b r n (D.put kl (.held val)) left cnt∧Upd b w w':=by
 have hne:=h.ne
 have howns:=h.owns
 obtain ⟨es,clock,since,seen,c0,hb,F,hs,rfl,hr,hold,rfl,hl1,hl2,hsc,hsk⟩:=h
 have hv:rdV val=some (.held val,[]):=rfl
 obtain ⟨es',clock',hrun,F',hput,_,_,_⟩:=Maps.fit_store (R':=rdV) K ht hb F (by unfold maxLen;omega) (fun _ _ _ _ hz=>hz) hkey hv
 rcases K.find w hkey es.toList F.keys with ⟨h1,h2⟩|⟨j,e0,h1,h2,h3⟩
 ·exfalso
  rw [Maps.has_eq,List.any_eq_true] at hl
  obtain ⟨p,hp,hpk⟩:=hl
  obtain ⟨x,hx,rfl⟩:=List.mem_map.1 (mem_sorted.1 hp)
  obtain ⟨y,hy⟩:=F.reads x hx
  have m1:=rd_key hy
  have e1:=WideAt.sameKey_eq hpk
  rw [rg_of hy] at e1
  rw [e1] at m1
  exact h2 x hx (K.inj m1 hkey)
 ·have hj:es[j]?=some e0:=by simpa using h2
  have hjl:j<es.toList.length:=(List.getElem?_eq_some_iff.1 h2).1
  have hrun2:(Instr.mapUpdate t (.map (some b)) key val).run P w=.ok () (setBlock w b (.map (es.modify j (fun e'=>{e' with key:=key,val:=val})) clock)):=by
   simp [Instr.mapUpdate,run_underlying ht,MapKept.run_getObj_map hb,K.check w false hkey,h1,hj,h3,K.stays w hkey,MapKept.run_setObj_map _ hb,Result.andThen,setBlock]
  have heq:setBlock w b (.map es' clock')=setBlock w b (.map (es.modify j (fun e'=>{e' with key:=key,val:=val})) clock):=by
   have h9:=hrun.symm.trans hrun2
   injection h9
  have hb1:=heap_setBlock_same hb (.map es' clock')
  rw [heq,heap_setBlock_same hb] at hb1
  simp only [Option.some.injEq,Obj.map.injEq] at hb1
  obtain ⟨hb1,hb2⟩:=hb1
  subst hb1 hb2
  have hlist:(es.modify j (fun e'=>{e' with key:=key,val:=val})).toList=es.toList.set j {e0 with key:=key,val:=val}:=by rw [Array.toList_modify,modify_eq_set _ _ _ _ h2]
  have hm0:e0∈es.toList:=List.mem_of_getElem? h2
  have hk0:(rg P k rdV e0).1=kl:=by
   obtain ⟨y0,hy0⟩:=F.reads e0 hm0
   have m0:=rd_key hy0
   rw [rg_of hy0]
   rw [h3,hkey] at m0
   exact (Option.some.inj m0).symm
  have hkn:(rg P k rdV {e0 with key:=key,val:=val}).1=kl:=by rw [rg_of (rd_mk hkey hv)]
  have who:∀x∈es.toList.set j {e0 with key:=key,val:=val},x={e0 with key:=key,val:=val}∨x∈es.toList:=fun x hx=>(List.mem_or_eq_of_mem_set hx).symm
  refine ⟨_,hrun2,⟨_,_,since,seen,c0,heap_setBlock_same hb _,F',by simpa using hs,by rw [DataW.put_eq,hput],(heap_setBlock_other hb _ hne).trans hr,fun x hx=>?_,?_,fun x hx=>?_,fun kl' hk'=>?_,hsc,hsk⟩,⟨rfl,rfl,rfl,by simp [setBlock],fun i hi he=>heap_setBlock_other hb _ he⟩⟩
  ·rw [hlist] at hx
   rcases who x hx with rfl|hx
   ·exact hold e0 hm0
   ·exact hold x hx
  ·have e1:∀a:Array MapEntry,(leftOf a seen).size=((a.toList.map (·.born)).filter fun b => !seen.contains b).length:=fun a=>by
    unfold leftOf
    rw [←Array.length_toList,Array.toList_filter,List.filter_map,List.length_map]
    rfl
   rw [e1,e1,hlist,List.map_set]
   congr 2
   have e2:(es.toList.map (·.born))[j]?=some e0.born:=by rw [List.getElem?_map,h2];rfl
   refine List.ext_getElem? fun i=>?_
   rw [List.getElem?_set]
   by_cases hij:j=i
   ·subst hij
    rw [if_pos rfl,e2,if_pos (by rw [List.length_map];exact hjl)]
   ·rw [if_neg hij]
  ·rw [hlist] at hx
   rcases who x hx with rfl|hx
   ·rw [hkn,←hk0];exact hl1 e0 hm0
   ·exact hl1 x hx
  ·obtain ⟨x,hx,rfl⟩:=hl2 kl' hk'
   rw [hlist]
   obtain ⟨i,hi⟩:=List.getElem?_of_mem hx
   by_cases hij:i=j
   ·subst hij
    rw [h2] at hi
    cases hi
    exact ⟨{e0 with key:=key,val:=val},List.mem_iff_getElem?.2 ⟨i,by rw [List.getElem?_set,if_pos rfl,if_pos hjl]⟩,by rw [hkn,hk0]⟩
   ·exact ⟨x,List.mem_iff_getElem?.2 ⟨i,by rw [List.getElem?_set,if_neg (fun e=>hij e.symm)];exact hi⟩,rfl⟩
def KMD (P:Program) (kT:TypeId) (D:DataW Value) (p:Value→Value→Prop):Prop :=
 (∀k kl,keyOf P kT k=some kl→(Maps.has D kl=true↔∃v,p k v))∧(∀k kl v z,keyOf P kT k=some kl→p k v→D.atKey kl z=.held v)
section
variable {P:Program} {kT:TypeId} {w w':World} {m q:Nat} {p:Value→Value→Prop} {D:DataW Value} {key v:Value} {kl:Lit}
theorem KMD.km (h:KMD P kT D p) (ho:w.ownsMap P kT rdV m q D):KM P kT w m q p:=⟨D,ho,h.1,h.2⟩
theorem KMD.same {p':Value→Value→Prop} (h:KMD P kT D p) (hp:∀k v,p k v↔p' k v):KMD P kT D p' :=
 ⟨fun k kl hk=>(h.1 k kl hk).trans ⟨fun ⟨v,hv⟩=>⟨v,(hp k v).1 hv⟩,fun ⟨v,hv⟩=>⟨v,(hp k v).2 hv⟩⟩,fun k kl v z hk hv=>h.2 k kl v z hk ((hp k v).2 hv)⟩
theorem KMD.val (h:KMD P kT D p) (hkey:keyOf P kT key=some kl) (hh:Maps.has D kl=true) {y:DataW Value×List MemPlace} (hv:rdV v=some y) (hat:∀zd,D.atKey kl zd=y.1):p key v:=by
 obtain ⟨v0,h0⟩:=(h.1 key kl hkey).1 hh
 have e1:=h.2 key kl v0 (.held v) hkey h0
 rw [hat] at e1
 unfold rdV at hv
 simp only [Option.some.injEq] at hv
 subst hv
 simp only [DataW.held.injEq] at e1
 rw [e1];exact h0
theorem KMD.put (h:KMD P kT D p) (K:Keyed P kT) (hD:IsMap D) (hk:keyOf P kT key=some kl) (val:Value):KMD P kT (D.put kl (.held val)) (putK p key val):=by
 refine ⟨fun k kl' hk'=>?_,fun k kl' v z hk' hv=>?_⟩
 ·by_cases he:kl'=kl
  ·subst he
   rw [has_put_same hD (K.key hk)]
   have e2:k=key:=K.inj hk' hk
   exact ⟨fun _=>⟨val,Or.inl ⟨e2,rfl⟩⟩,fun _=>rfl⟩
  ·have e2:k≠key:=fun e=>he (by subst e;exact Option.some.inj (hk'.symm.trans hk))
   rw [has_put_other he,h.1 k kl' hk']
   constructor
   ·rintro ⟨v,hv⟩;exact ⟨v,Or.inr ⟨e2,hv⟩⟩
   ·rintro ⟨v,hv⟩
    rcases hv with ⟨e3,_⟩|⟨_,hv⟩
    ·exact absurd e3 e2
    ·exact ⟨v,hv⟩
 ·by_cases he:kl'=kl
  ·subst he
   have e2:k=key:=K.inj hk' hk
   rw [atKey_put_same hD (K.key hk)]
   rcases hv with ⟨_,e3⟩|⟨e3,_⟩
   ·rw [e3]
   ·exact absurd e2 e3
  ·have e2:k≠key:=fun e=>he (by subst e;exact Option.some.inj (hk'.symm.trans hk))
   rw [atKey_put_other he]
   rcases hv with ⟨e3,_⟩|⟨_,hv⟩
   ·exact absurd e3 e2
   ·exact h.2 k kl' v z hk' hv
theorem has_putHas (hD:IsMap D) (hk:WideAt.IsKeyLit kl) (hl:Maps.has D kl=true) (d:DataW Value) (kl':Lit):Maps.has (D.put kl d) kl'=Maps.has D kl':=by
 by_cases he:kl'=kl
 ·subst he
  rw [has_put_same hD hk,hl]
 ·rw [has_put_other he]
end
section
variable {P:Program} {kT:TypeId} {ops:Array Oper} {rest:List Oper} {a:Act} {w w0 w':World} {Q:Exit→Act→World→Prop} {dst:Option Tmp} {typ:TypeId} {pos:String} {aft:Array Edge} {gd:Option (Nat×Bool)} {m q r cnt:Nat} {p:Value→Value→Prop} {D:DataW Value} {left:Lit→Bool}
theorem cC {x:Operand} {t e:TypeId} (km:KM P kT w m q p) (K:Keyed P kT) (ht:P.underlying t=some (.map kT e)) (hx:a.eval x=.map (some m))
  (h:∀w' r D,w'.ranges P kT rdV m r q D (Maps.has D) (Maps.size D)→KMD P kT D p→Below w.heap.size w w'→w.heap.size≤r→r<w'.heap.size→wpList P ops Q rest (a.put dst (.pointer (some ⟨r,0,none⟩))) w') :
  wpList P ops Q ({dst:=dst,op:=.range t x,type:=typ,pos:=pos,after:=aft,guard:=none}::rest) a w:=by
 obtain ⟨D,ho,h1,h2⟩:=km
 refine wpList_range_own w rfl x t rfl kT e K ht rdV m q D hx ho ?_
 intro w' hrg hg hs
 exact h w' w.heap.size D hrg ⟨h1,h2⟩ ⟨hg.os,hg.tape,hg.output,hg.size,fun k hk=>hg.block k hk (by simp)⟩ (Nat.le_refl _) (by omega)
theorem wpl_setQ {x k y:Operand} {t e:TypeId} {key val:Value} {kl:Lit} (hr:w.ranges P kT rdV m r q D left cnt) (K:Keyed P kT) (ht:P.underlying t=some (.map kT e)) (hq:q<1000000) (hkey:keyOf P kT key=some kl) (hh:Maps.has D kl=true) (hx:a.eval x=.map (some m)) (hk:a.eval k=key) (hy:a.eval y=val)
  (h:∀w',w'.ranges P kT rdV m r q (D.put kl (.held val)) left cnt→Upd m w w'→wpList P ops Q rest (a.put dst undef) w') :
  wpList P ops Q ({dst:=dst,op:=.mapUpdate t x k y,type:=typ,pos:=pos,after:=aft,guard:=none}::rest) a w:=by
 obtain ⟨w',hrun,h1,h2⟩:=setHeld hr K ht hkey hh hq val
 refine wpList_plain rfl fun K' hK'=>?_
 have hh:=hK' _ _ (h w' h1 h2)
 unfold Oper.wp
 simp [execOp,hx,hk,hy,hrun,Result.andThen]
 exact hh
end
theorem Upd.of_grown {g:Nat} {w w':World} (h:w.grownBy w' (some g)):Upd g w w' :=
 ⟨h.os,h.tape,h.output,h.size,fun k hk hne=>h.block k hk (fun e=>hne (Option.some.inj e))⟩
theorem Mem.join {w0 w1 w2:World} {S:List Nat} {rows:List (Nat×List Value×TypeId)} (h1:Mem w0 S w1 []) (h2:Mem w1 [] w2 rows):Mem w0 S w2 []:=by
 refine ⟨h2.os.trans h1.os,h2.tape.trans h1.tape,h2.output.trans h1.output,Nat.le_trans h1.size h2.size,fun k hk hn=>(h2.block k (Nat.lt_of_lt_of_le hk h1.size) (by simp)).trans (h1.block k hk hn),fun r hr=>absurd hr (by simp),h1.nodup,fun r hr=>absurd hr (by simp)⟩
open Go Go.RowKit Go.Maps
def addV (V:List ByteArray→Bool) (k:List ByteArray):List ByteArray→Bool:=fun ks=>V ks||decide (ks=k)
structure Vis (p:Nms) (V:List ByteArray→Bool) (D:DataW Value) (left:Lit→Bool):Prop where
 sub:∀kl,left kl=true→Maps.has D kl=true
 all:∀x∈p,∀kl,keyOf Tryz.prog 63 (.agg (pvv x.1).toArray)=some kl→left kl = !V x.1
theorem Vis.start {p:Nms} {D:DataW Value} (hD:KMD Tryz.prog 63 D (NmK p)):Vis p (fun _=>false) D (Maps.has D) :=
 ⟨fun _ h=>h,fun x hx kl hk=>(hD.1 _ kl hk).2 ⟨_,x,hx,rfl,rfl⟩⟩
theorem Vis.next {p:Nms} {V:List ByteArray→Bool} {D:DataW Value} {left:Lit→Bool} (h:Vis p V D left) (hp:NmOk p) {x0:Sp} (hx0:x0∈p) {kl:Lit} (hk:keyOf Tryz.prog 63 (.agg (pvv x0.1).toArray)=some kl):Vis p (addV V x0.1) D (fun z=>left z && !z.sameKey kl):=by
 refine ⟨fun k h1=>?_,fun x hx k h1=>?_⟩
 ·simp only [Bool.and_eq_true] at h1
  exact h.sub k h1.1
 ·show (left k && !k.sameKey kl) = !(V x.1||decide (x.1=x0.1))
  rw [h.all x hx k h1]
  by_cases he:x.1=x0.1
  ·have e2:k=kl:=by rw [he,hk] at h1;exact (Option.some.inj h1).symm
   rw [e2,WideAt.sameKey_self (aQ.key hk),decide_eq_true he]
   simp
  ·have hne:k.sameKey kl=false:=Maps.sameKey_ne fun e=>he (cB (hp.ok x hx) (hp.ok x0 hx0) (aQ.inj (e▸h1) hk))
   rw [hne,decide_eq_false he]
   simp
theorem Vis.put {p:Nms} {V:List ByteArray→Bool} {D:DataW Value} {left:Lit→Bool} (h:Vis p V D left) (hD:IsMap D) {kl:Lit} (hk:WideAt.IsKeyLit kl) (hl:Maps.has D kl=true) (d:DataW Value):Vis p V (D.put kl d) left :=
 ⟨fun k h1=>by rw [has_putHas hD hk hl];exact h.sub k h1,h.all⟩
theorem Vis.fresh {p:Nms} {V:List ByteArray→Bool} {D:DataW Value} {left:Lit→Bool} (h:Vis p V D left) {x0:Sp} (hx0:x0∈p) {kl:Lit} (hk:keyOf Tryz.prog 63 (.agg (pvv x0.1).toArray)=some kl) (hl:left kl=true):V x0.1=false:=by
 have h1:=h.all x0 hx0 kl hk
 rw [hl] at h1
 cases hv:V x0.1 with
 | false=>rfl
 | true=>rw [hv] at h1;cases h1
theorem Vis.done {p:Nms} {V:List ByteArray→Bool} {D:DataW Value} {left:Lit→Bool} (h:Vis p V D left) (hp:NmOk p) (h0:∀kl,left kl=false):∀x∈p,V x.1=true:=fun x hx=>by
 obtain ⟨kl,hk⟩:=dF (hp.ok x hx)
 have h1:=h.all x hx kl hk
 rw [h0] at h1
 cases hv:V x.1 with
 | false=>rw [hv] at h1;cases h1
 | true=>rfl
def visN (t:Sp→Sp) (V:List ByteArray→Bool) (p:Nms):Nms:=p.map fun y=>if V y.1=true then t y else y
theorem visN_none (t:Sp→Sp) (p:Nms):visN t (fun _=>false) p=p:=by
 unfold visN
 simp
theorem visN_all {t:Sp→Sp} {V:List ByteArray→Bool} {p:Nms} (h:∀x∈p,V x.1=true):visN t V p=p.map t:=by
 unfold visN
 exact List.map_congr_left fun x hx=>if_pos (h x hx)
theorem nmK_vis {t:Sp→Sp} (ht:∀x,(t x).1=x.1) {p:Nms} (hp:NmOk p) {x0:Sp} (hx:x0∈p) (V:List ByteArray→Bool) (k v:Value) :
  putK (NmK (visN t V p)) (.agg (pvv x0.1).toArray) (.agg (spw (t x0)).toArray) k v↔NmK (visN t (addV V x0.1) p) k v:=by
 have hk:∀(W:List ByteArray→Bool) (y:Sp),(if W y.1=true then t y else y).1=y.1:=fun W y=>by split;exact ht y;rfl
 constructor
 ·rintro (⟨rfl,rfl⟩|⟨h1,z,hz,rfl,rfl⟩)
  ·refine ⟨t x0,List.mem_map.2 ⟨x0,hx,?_⟩,by rw [ht],rfl⟩
   rw [if_pos];unfold addV;simp
  ·obtain ⟨y,hy,rfl⟩:=List.mem_map.1 hz
   rw [hk] at h1
   have hne:y.1≠x0.1:=fun e=>h1 (by rw [e])
   refine ⟨_,List.mem_map.2 ⟨y,hy,rfl⟩,?_,?_⟩
   ·rw [hk,hk]
   ·unfold addV;rw [decide_eq_false hne,Bool.or_false]
 ·rintro ⟨z,hz,rfl,rfl⟩
  obtain ⟨y,hy,rfl⟩:=List.mem_map.1 hz
  rw [hk]
  by_cases he:y.1=x0.1
  ·have e2:=hp.uniq hy hx he
   subst e2
   refine Or.inl ⟨rfl,?_⟩
   rw [if_pos];unfold addV;simp
  ·refine Or.inr ⟨fun e=>he (cB (hp.ok y hy) (hp.ok x0 hx) e),_,List.mem_map.2 ⟨y,hy,rfl⟩,by rw [hk],?_⟩
   unfold addV;rw [decide_eq_false he,Bool.or_false]
theorem vis_get {t:Sp→Sp} (ht:∀x,(t x).1=x.1) {p:Nms} {V:List ByteArray→Bool} {key v:Value} (h:NmK (visN t V p) key v):∃x0,x0∈p∧key=.agg (pvv x0.1).toArray∧(V x0.1=false→v=.agg (spw x0).toArray):=by
 obtain ⟨z,hz,rfl,rfl⟩:=h
 obtain ⟨y,hy,rfl⟩:=List.mem_map.1 hz
 refine ⟨y,hy,?_,fun hv=>?_⟩
 ·split
  ·rw [ht]
  ·rfl
 ·rw [hv];rfl
def kC (V:List ByteArray→Bool) (t:ByteArray) (y:Sp):Bool:=V y.1&&(!decide (y.1=[])&&decide (tx y.1.dropLast=t))
def kS (f:Sp→Int) (p:Nms) (V:List ByteArray→Bool) (t:ByteArray):Int:=sumI (fun y=>if kC V t y=true then f y else 0) p
theorem kS_next {f:Sp→Int} {p:Nms} (hp:NmOk p) {x0:Sp} (hx:x0∈p) {V:List ByteArray→Bool} (hV:V x0.1=false) (t:ByteArray) :
  kS f p (addV V x0.1) t=kS f p V t+if (!decide (x0.1=[])&&decide (tx x0.1.dropLast=t))=true then f x0 else 0:=by
 have e1:kS f p (addV V x0.1) t=sumI (fun y=>(if kC V t y=true then f y else 0)+(if y.1=x0.1 then (if (!decide (y.1=[])&&decide (tx y.1.dropLast=t))=true then f y else 0) else 0)) p:=by
  unfold kS
  refine aZ fun y hy=>?_
  by_cases he:y.1=x0.1
  ·have e2:=hp.uniq hy hx he
   subst e2
   unfold kC addV
   rw [hV]
   simp
  ·unfold kC addV
   rw [decide_eq_false he,if_neg he,Bool.or_false,Int.add_zero]
 rw [e1,dN,dM hp.keys hx fun y hy hne=>if_neg hne,if_pos rfl]
 rfl
theorem kS_all {f:Sp→Int} {p:Nms} (hp:NmOk p) {V:List ByteArray→Bool} (hV:∀x∈p,V x.1=true) {ks:List ByteArray} (hk:PlOk ks):kS f p V (tx ks)=sumI (fun y=>if isKid y ks=true then f y else 0) p:=by
 unfold kS
 refine aZ fun y hy=>?_
 rw [isKid_tx (hp.ok y hy) hk]
 unfold kC
 rw [hV y hy,Bool.true_and]
theorem kS_bound {f:Sp→Int} {p:Nms} (h:∀x∈p,0≤f x∧f x≤1000000) (V:List ByteArray→Bool) (t:ByteArray):0≤kS f p V t∧kS f p V t≤1000000 * (p.length:Int):=by
 unfold kS
 induction p with
 | nil=>exact ⟨Int.le_refl 0,Int.le_refl 0⟩
 | cons x p ih =>
  have h1:=h x (List.mem_cons_self ..)
  have h2:=ih fun y hy=>h y (List.mem_cons_of_mem _ hy)
  rw [sumI,List.length_cons]
  split<;>omega
theorem kS_zero {f:Sp→Int} {p:Nms} {V:List ByteArray→Bool} {t:ByteArray} (h:¬ ∃y∈p,kC V t y=true):kS f p V t=0:=by
 unfold kS
 exact bw fun y hy=>if_neg fun hc=>h ⟨y,hy,hc⟩
def KdK (p:Nms) (V:List ByteArray→Bool):Value→Value→Prop:=fun k v=>∃t:ByteArray,t.size≤1000∧(∃y∈p,kC V t y=true)∧k=.string t∧v=.agg [Value.int .i64 (kS usB p V t),.int .i64 (kS usE p V t)].toArray
theorem kdK_start (p:Nms) (k v:Value):(fun (_ _:Value)=>False) k v↔KdK p (fun _=>false) k v:=by
 refine ⟨fun h=>h.elim,?_⟩
 rintro ⟨t,_,⟨y,_,hc⟩,_⟩
 unfold kC at hc
 simp at hc
theorem kdK_put {p:Nms} (hp:NmOk p) {x0:Sp} (hx:x0∈p) {V:List ByteArray→Bool} (hV:V x0.1=false) (h0:x0.1≠[]) (k v:Value) :
  putK (KdK p V) (.string (tx x0.1.dropLast)) (.agg [Value.int .i64 (kS usB p V (tx x0.1.dropLast)+usB x0),.int .i64 (kS usE p V (tx x0.1.dropLast)+usE x0)].toArray) k v↔KdK p (addV V x0.1) k v:=by
 have hn:∀(f:Sp→Int) (t:ByteArray),t≠tx x0.1.dropLast→kS f p (addV V x0.1) t=kS f p V t:=fun f t ht=>by
  rw [kS_next hp hx hV t,if_neg (by simp;exact fun _ e=>ht e.symm)];omega
 have hs:∀f:Sp→Int,kS f p (addV V x0.1) (tx x0.1.dropLast)=kS f p V (tx x0.1.dropLast)+f x0:=fun f=>by
  rw [kS_next hp hx hV,if_pos (by simp [h0])]
 have hc0:kC (addV V x0.1) (tx x0.1.dropLast) x0=true:=by unfold kC addV;simp [h0]
 have hcn:∀(t:ByteArray) (y:Sp),t≠tx x0.1.dropLast→kC (addV V x0.1) t y=kC V t y:=fun t y ht=>by
  unfold kC addV
  by_cases he:y.1=x0.1
  ·have:decide (tx y.1.dropLast=t)=false:=decide_eq_false fun e=>ht (by rw [←e,he])
   rw [this,Bool.and_false,Bool.and_false,Bool.and_false]
  ·rw [decide_eq_false he,Bool.or_false]
 constructor
 ·rintro (⟨rfl,rfl⟩|⟨h1,t,ht,⟨y,hy,hc⟩,rfl,rfl⟩)
  ·exact ⟨_,by have:=aX (hp.ok x0 hx).drop;omega,⟨x0,hx,hc0⟩,rfl,by rw [hs,hs]⟩
  ·have hne:t≠tx x0.1.dropLast:=fun e=>h1 (by rw [e])
   exact ⟨t,ht,⟨y,hy,by rw [hcn t y hne];exact hc⟩,rfl,by rw [hn _ t hne,hn _ t hne]⟩
 ·rintro ⟨t,ht,⟨y,hy,hc⟩,rfl,rfl⟩
  by_cases he:t=tx x0.1.dropLast
  ·subst he
   exact Or.inl ⟨rfl,by rw [hs,hs]⟩
  ·exact Or.inr ⟨fun e=>he (by simpa using e),t,ht,⟨y,hy,by rw [←hcn t y he];exact hc⟩,rfl,by rw [hn _ t he,hn _ t he]⟩
theorem kdK_root {p:Nms} {x0:Sp} {V:List ByteArray→Bool} (h0:x0.1=[]) (k v:Value):KdK p V k v↔KdK p (addV V x0.1) k v:=by
 have hc:∀(t:ByteArray) (y:Sp),kC (addV V x0.1) t y=kC V t y:=fun t y=>by
  unfold kC addV
  by_cases he:y.1=x0.1
  ·have:decide (y.1=[])=true:=decide_eq_true (he.trans h0)
   rw [this];simp
  ·rw [decide_eq_false he,Bool.or_false]
 have hs:∀(f:Sp→Int) (t:ByteArray),kS f p (addV V x0.1) t=kS f p V t:=fun f t=>by
  unfold kS
  exact aZ fun y _=>by rw [hc]
 unfold KdK
 simp only [hc,hs]
theorem dq {ks:List ByteArray} (hk:PlOk ks) (s:ByteArray):tx ks=s↔isP (bs s)=true∧segsB s=ks:=by
 constructor
 ·rintro rfl;exact ⟨dH hk,cF hk⟩
 ·rintro ⟨h1,h2⟩;rw [←h2,bE h1]
theorem getB_tx {p:Nms} (hp:NmOk p) (s:ByteArray):getB p s=true↔∃x∈p,tx x.1=s:=by
 unfold getB
 rw [Bool.and_eq_true]
 constructor
 ·rintro ⟨h1,h2⟩
  obtain ⟨x,hx,e⟩:=aE.1 h2
  exact ⟨x,hx,(dq (hp.ok x hx) s).2 ⟨h1,e.symm⟩⟩
 ·rintro ⟨x,hx,e⟩
  obtain ⟨h1,h2⟩:=(dq (hp.ok x hx) s).1 e
  exact ⟨h1,aE.2 ⟨x,hx,h2.symm⟩⟩
open Go Go.RowKit Go.Maps
theorem bt (x:Int) (h0 : -1000000000000≤x) (h1:x≤1000000000000):IntKind.i64.wrap x=x:=by
 simp [IntKind.wrap,IntKind.bits,IntKind.signed]
 omega
def sm (a b:Int):List Value:=[.int .i64 a,.int .i64 b]
theorem bv (a b:Int):∀v∈sm a b,v.oneCell'=true:=by intro v hv;simp [sm] at hv;rcases hv with rfl|rfl<;>rfl
theorem bM:Tryz.prog.underlying 75=some (.struct (Tryz.prog.fieldsOf 75)):=by kernel_rfl
theorem info_qs:(Tryz.prog.info? 75).map (fun i=>(i.zero,i.size))=some (some (.agg (sm 0 0).toArray),2):=by kernel_rfl
theorem bj:∀w,(zeroValue 75).run Tryz.prog w=.ok (.agg (sm 0 0).toArray) w:=(zero_of_info info_qs).1
theorem a7:(Tryz.prog.info? 75).map (·.size)=some 2:=(zero_of_info info_qs).2
theorem c8:∀w,(isAgg 26).run Tryz.prog w=.ok false w:=by intro w;simp [go_sem]
theorem bA (a b:Int):Tryz.prog.built 75 [(0,.int .i64 a),(1,.int .i64 b)]=some (sm a b).toArray:=by kernel_rfl
theorem built_lg (v:Option Addr):Tryz.prog.built 60 [(0,.pointer v)]=some [Value.pointer v].toArray:=by kernel_rfl
structure LgAt (w:World) (lb nb m c:Nat) (p:Nms):Prop where
 row:Row w lb [.pointer (some ⟨nb,0,none⟩)] 60
 nm:NmAt w nb m c p
theorem LgAt.below {w w':World} {lb nb m c:Nat} {p:Nms} (h:LgAt w lb nb m c p) (hb:Below w.heap.size w w'):LgAt w' lb nb m c p:=⟨Row.bel h.row hb,h.nm.below hb⟩
theorem LgAt.ne {w:World} {lb nb m c:Nat} {p:Nms} (h:LgAt w lb nb m c p):lb≠m∧nb≠m:=by
 obtain ⟨es,cc,hes⟩:=h.nm.isMap
 exact ⟨aB h.row hes,aB h.nm.row hes⟩
theorem LgAt.turn {w w':World} {lb nb m c c':Nat} {p p':Nms} (h:LgAt w lb nb m c p) (hu:Upd m w w') (hn:NmAt w' nb m c' p'):LgAt w' lb nb m c' p':=⟨hu.row h.row h.ne.1,hn⟩
theorem newL_q {nb m c:Nat} {p:Nms} (w:World) (h:NmAt w nb m c p) :
  Calls Tryz.prog 7 #[.pointer (some ⟨nb,0,none⟩)] w fun e w'=>∃lb,e=.returned (.pointer (some ⟨lb,0,none⟩))∧w.heap.size≤lb∧LgAt w' lb nb m c p∧Below w.heap.size w w':=by
 have hm:=Mem.start w
 have HR:Hid (NmAt w nb m c p):=h
 clear h
 go_enter Tryz.func7,Tryz.ntmps7
 go_wp2_with (first
  | ((with_reducible refine ab (some 4) (.build 60 #[(0,.tmp 3)]) ?_);refine az [Value.pointer (some ⟨nb,0,none⟩)] [(0,.pointer (some ⟨nb,0,none⟩))] rfl (built_lg _) ?_)
  | ((with_reducible refine ab (some 5) (.box 60 (.tmp 4)) ?_);refine dW [Value.pointer (some ⟨nb,0,none⟩)] rfl hm ?_;clear hm;intro w3 lb hm hb3))
 go_ret
 exact ⟨lb,rfl,(hm.fresh _ (List.mem_cons_self ..)).resolve_left (by simp),⟨hm.get 0 rfl,HR.out.below hm.below⟩,hm.below⟩
theorem d6 {lb nb m c:Nat} {p:Nms} (w:World) (h:LgAt w lb nb m c p) :
  Calls Tryz.prog 14 #[.pointer (some ⟨lb,0,none⟩)] w fun e w'=>e=.returned (.pointer (some ⟨nb,0,none⟩))∧Below w.heap.size w w':=by
 have hm:=Mem.start w
 have HL:Hid (Row w lb [.pointer (some ⟨nb,0,none⟩)] 60):=h.row
 clear h
 go_enter Tryz.func14,Tryz.ntmps14
 go_wp2_with (first
  | ((with_reducible refine ab (some 6) (.load 26 (.tmp 5)) ?_);go_must (refine aa (.pointer (some ⟨nb,0,none⟩)) rfl (ad 0 (.pointer (some ⟨nb,0,none⟩)) (Row.bel HL.out hm.below) rfl c8 rfl) ?_)))
 go_ret
 exact ⟨rfl,hm.below⟩
theorem dc (x r:Int) (hr:r=heldC x) (w:World) :
  Calls Tryz.prog 30 #[.int .i64 x] w fun e w'=>e=.returned (.int .i64 r)∧Below w.heap.size w w':=by
 have hm:=Mem.start w
 have HR:Hid (r=heldC x):=hr
 clear hr
 go_enter Tryz.func30,Tryz.ntmps30
 go_wp2_with fail
 go_ret
 exact ⟨by rw [HR.out];rfl,hm.below⟩
theorem plus_q (a b c d x y:Int) (hx:IntKind.i64.wrap (a+c)=x) (hy:IntKind.i64.wrap (b+d)=y) (w:World) :
  Calls Tryz.prog 48 #[.agg (sm a b).toArray,.agg (sm c d).toArray] w fun e w'=>e=.returned (.agg (sm x y).toArray)∧Below w.heap.size w w':=by
 have hm:=Mem.start w
 go_enter Tryz.func48,Tryz.ntmps48
 go_wp2_with (first
  | ((with_reducible refine ab (some 2) (.box 75 (.tmp 0)) ?_);refine aU (sm a b) rfl hm ?_;clear hm;intro w1 g2 hm)
  | ((with_reducible refine ab (some 3) (.box 75 (.tmp 1)) ?_);refine aU (sm c d) rfl hm ?_;clear hm;intro w2 g3 hm)
  | ((with_reducible refine ab (some 4) (.alloc 75) ?_);refine ae _ bj hm ?_;clear hm;intro w3 g4 hm)
  | ((with_reducible refine ab (some 6) (.load 3 (.tmp 5)) ?_);refine aw 2 0 (.int .i64 a) hm rfl rfl ah (rfl) ?_)
  | ((with_reducible refine ab (some 8) (.load 3 (.tmp 7)) ?_);refine aw 1 0 (.int .i64 c) hm rfl rfl ah (rfl) ?_)
  | ((with_reducible refine ab (some 11) (.load 3 (.tmp 10)) ?_);refine aw 2 1 (.int .i64 b) hm rfl rfl ah (rfl) ?_)
  | ((with_reducible refine ab (some 13) (.load 3 (.tmp 12)) ?_);refine aw 1 1 (.int .i64 d) hm rfl rfl ah (rfl) ?_)
  | ((with_reducible refine ab (some 15) (.build 75 #[(0,.tmp 9),(1,.tmp 14)]) ?_);refine az (sm x y) [(0,.int .i64 x),(1,.int .i64 y)] rfl (bA _ _) ?_)
  | ((with_reducible refine ab none (.store 75 (.tmp 4) (.tmp 15)) ?_);refine af 0 (sm x y) hm rfl rfl rfl 2 a7 rfl rfl (bv _ _) ?_;clear hm;intro w4 hm))
 refine ct 0 hm rfl Tryz.results48 rfl _ bM rfl 2 a7 rfl rfl ?_
 exact ⟨rfl,hm.below⟩
theorem exceeds_q (x y z s:Int) (hs:IntKind.i64.wrap (x+y)=s) (r:Bool) (hr:r=(decide (0<y)&&decide (z<s))) (w:World) :
  Calls Tryz.prog 70 #[.int .i64 x,.int .i64 y,.int .i64 z] w fun e w'=>e=.returned (.bool r)∧Below w.heap.size w w':=by
 have hm:=Mem.start w
 by_cases h1:0<y
 ·by_cases h2:z<s
  ·have e1:r=true:=by rw [hr,decide_eq_true h1,decide_eq_true h2];rfl
   subst e1
   clear hr
   go_enter Tryz.func70,Tryz.ntmps70
   go_wp2_with fail
   go_ret
   exact ⟨rfl,hm.below⟩
  ·have e1:r=false:=by rw [hr,decide_eq_false h2,Bool.and_false]
   subst e1
   clear hr
   go_enter Tryz.func70,Tryz.ntmps70
   go_wp2_with fail
   go_ret
   exact ⟨rfl,hm.below⟩
 ·have e1:r=false:=by rw [hr,decide_eq_false h1,Bool.false_and]
  subst e1
  clear hr
  go_enter Tryz.func70,Tryz.ntmps70
  go_wp2_with fail
  go_ret
  exact ⟨rfl,hm.below⟩
theorem bV {P:Program} {k:TypeId} {w:World} {b r n:Nat} {D:DataW Value} {left:Lit→Bool} {cnt:Nat} (h:w.ranges P k rdV b r n D left cnt):∃x y z,w.heap[r]?=some (.mapIter (some b) x y z):=by
 obtain ⟨es,clock,since,seen,c0,_,_,_,_,hr,_⟩:=h
 exact ⟨_,_,_,hr⟩
theorem fj {P:Program} {k:TypeId} {w:World} {b r n:Nat} {D:DataW Value} {left:Lit→Bool} {cnt:Nat} (h:w.ranges P k rdV b r n D left cnt):∃es c,w.heap[b]?=some (.map es c):=by
 obtain ⟨es,clock,_,_,_,hb,_⟩:=h
 exact ⟨es,clock,hb⟩
theorem Mem.updI {w0 w w':World} {S:List Nat} {rows:List (Nat×List Value×TypeId)} {r:Nat} (hm:Mem w0 S w rows) (hi:∃a x y z,w.heap[r]?=some (.mapIter a x y z)) (hS:r∈S∨w0.heap.size≤r) (hu:Upd r w w'):Mem w0 S w' rows:=by
 refine ⟨hu.os.trans hm.os,hu.tape.trans hm.tape,hu.output.trans hm.output,Nat.le_trans hm.size hu.size,fun k hk hn=>?_,fun q hq=>hu.row (hm.row q hq) (fun e=>?_),hm.nodup,hm.fresh⟩
 ·refine (hu.block k (Nat.lt_of_lt_of_le hk hm.size) ?_).trans (hm.block k hk hn)
  rintro rfl
  rcases hS with h|h
  ·exact hn h
  ·omega
 ·obtain ⟨a,x,y,z,hz⟩:=hi
  have h1:=hm.row q hq
  unfold Row at h1
  rw [e,hz] at h1
  cases h1
def Past (p:Nms) (V:List ByteArray→Bool) (f:Sp→Bool):Prop:=∀x∈p,V x.1=true→f x=false
theorem Past.none (p:Nms) (f:Sp→Bool):Past p (fun _=>false) f:=fun _ _ h=>by cases h
theorem Past.next {p:Nms} {V:List ByteArray→Bool} {f:Sp→Bool} (h:Past p V f) (hp:NmOk p) {x0:Sp} (hx:x0∈p) (h0:f x0=false):Past p (addV V x0.1) f:=fun x hx1 hv=>by
 rcases (Bool.or_eq_true _ _).mp hv with h9|h9
 ·exact h x hx1 h9
 ·rw [hp.uniq hx1 hx (of_decide_eq_true h9)];exact h0
theorem Past.done {p:Nms} {V:List ByteArray→Bool} {f:Sp→Bool} (h:Past p V f) (hd:∀x∈p,V x.1=true):∀x∈p,f x=false:=fun x hx=>h x hx (hd x hx)
def isT (s:ByteArray) (x:Sp):Bool:=decide (tx x.1=s)
def ovT (ks:List ByteArray) (b e:Int) (x:Sp):Bool:=undB ks x.1&&overS b e x
theorem cO (x:Sp):∃(y:ByteArray) (a1 a2 a3 a4 a5 a6:Int),spw x=[.string y,.int .i64 a1,.int .i64 a2,.int .i64 a3,.int .i64 a4,.int .i64 a5,.int .i64 a6]∧y=tx x.1∧a1=lmB x∧a2=lmE x∧a3=usB x∧a4=usE x∧a5=owB x∧a6=owE x :=
 ⟨_,_,_,_,_,_,_,rfl,rfl,rfl,rfl,rfl,rfl,rfl,rfl⟩
open Go Go.RowKit Go.Maps
theorem bZ (y0:ByteArray) (a1 a2 a3 a4 a5 a6:Int):∀v∈[Value.string y0,.int .i64 a1,.int .i64 a2,.int .i64 a3,.int .i64 a4,.int .i64 a5,.int .i64 a6],v.oneCell'=true:=by
 intro v hv
 simp at hv
 rcases hv with rfl|rfl|rfl|rfl|rfl|rfl|rfl<;>rfl
theorem own_l {w:World} {lb nb m c:Nat} {p:Nms} (h:LgAt w lb nb m c p) (s:ByteArray) (a b:Int) (g:Bool) (hy:∀x∈p,tx x.1=s→g=true∧owB x=a∧owE x=b) (hn:(∀x∈p,tx x.1≠s)→g=false∧a=0∧b=0) :
  Calls Tryz.prog 45 #[.pointer (some ⟨lb,0,none⟩),.string s] w fun e w'=>e=.returned (.tuple #[.agg (sm a b).toArray,.bool g])∧Below w.heap.size w w':=by
 have hm:=Mem.start w
 have HL:Hid (Row w lb [.pointer (some ⟨nb,0,none⟩)] 60):=h.row
 have HR:Hid (NmAt w nb m c p):=h.nm
 have HOK:Hid (NmOk p):=h.nm.ok
 obtain ⟨q,hq,km⟩:=h.nm.map
 have HKM:Hid (KM Tryz.prog 63 w m q (NmK p)):=km
 have HY:Hid (∀x∈p,tx x.1=s→g=true∧owB x=a∧owE x=b):=hy
 have HN:Hid ((∀x∈p,tx x.1≠s)→g=false∧a=0∧b=0):=hn
 clear h km hy hn hq
 go_enter Tryz.func45,Tryz.ntmps45
 go_wp2_with (first
  | ((with_reducible refine ab (some 4) (.alloc 75) ?_);refine ae _ bj hm ?_;clear hm;intro w1 g4 hm)
  | ((with_reducible refine ab (some 11) (.load 26 (.tmp 10)) ?_);go_must (refine aa (.pointer (some ⟨nb,0,none⟩)) rfl (ad 0 (.pointer (some ⟨nb,0,none⟩)) (Row.bel HL.out hm.below) rfl c8 rfl) ?_))
  | ((with_reducible refine ab (some 14) (.load 67 (.tmp 13)) ?_);go_must (refine aa (.map (some m)) rfl (ad 0 (.map (some m)) ((HR.out.below hm.below).row) rfl cE rfl) ?_))
  | ((with_reducible refine ab (some 15) (.range 67 (.tmp 14)) ?_);go_must (refine cC (HKM.out.below hm.below) aQ bW rfl ?_);intro w2 r D hrg hD hb2 hr1 hr2))
 go_frame
 have hw1:=hm.size
 have hz2:=hb2.size
 have hrB:r<w2.heap.size:=hr2
 have hwr:w.heap.size≤r:=by omega
 have HM0:Hid (Mem w [] w2 [(g4,sm 0 0,75)]):=(hm.call hb2).weak
 have HLP:Hid (w2.ranges Tryz.prog 63 rdV m r q D (Maps.has D) (Maps.size D)∧Vis p (fun _=>false) D (Maps.has D)∧KMD Tryz.prog 63 D (NmK p)):=⟨hrg,Vis.start hD,hD⟩
 clear hm hb2 hrg hD hw1 hr1 hr2 hz2
 go_loopw [16] (fun _ wr=>∃(D:DataW Value) (V:List ByteArray→Bool) (left:Lit→Bool) (cnt:Nat),Hid (Mem w [] wr [(g4,sm 0 0,75)]∧(wr.ranges Tryz.prog 63 rdV m r q D left cnt∧Vis p V D left∧KMD Tryz.prog 63 D (NmK p))∧Past p V (isT s))) (fun _ wr=>wr.rangeLeft m r)
 case atStart=>exact ⟨D,_,_,_,HM0.out,HLP.out,Past.none p _⟩
 case round =>
  obtain ⟨D,V,left,cnt,HALL⟩:=hrel
  have HMM:Hid (Mem w [] wr [(g4,sm 0 0,75)]):=HALL.out.1
  have HLW:Hid (wr.ranges Tryz.prog 63 rdV m r q D left cnt∧Vis p V D left∧KMD Tryz.prog 63 D (NmK p)):=HALL.out.2.1
  have HNO:Hid (Past p V (isT s)):=HALL.out.2.2
  clear HALL
  rcases World.ranges.next HLW.out.1 aQ 0 with ⟨h0,hl0,hrun⟩|⟨key,vv,kl,yv,w3,cnt',hkey,hlk,hv,hat,hrun,hrg1,hlt,hgr1,hsz,hen⟩
  ·have HRUN:Hid ((Instr.next (.pointer (some ⟨r,0,none⟩)) false 0).run Tryz.prog wr=.ok (.tuple #[.bool false]) wr):=hrun
   have HDONE:Hid (∀x∈p,V x.1=true):=HLW.out.2.1.done HOK.out hl0
   clear hrun hl0 h0
   obtain ⟨e1,e2,e3⟩:=HN.out fun x hx=>of_decide_eq_false (HNO.out.done HDONE.out x hx)
   subst e1 e2 e3
   have hm:=HMM.out
   go_wp2_with (first
    | ((with_reducible refine ab (some 16) (.next (.tmp 15) false) ?_);go_must (refine aC HRUN.out rfl ?_))
    | ((with_reducible refine ab (some 30) (.build 75 #[]) ?_);refine az (sm 0 0) [] rfl (by kernel_rfl) ?_)
    | ((with_reducible refine ab none (.store 75 (.tmp 4) (.tmp 30)) ?_);refine af 0 (sm 0 0) hm rfl rfl rfl 2 a7 rfl rfl (bv _ _) ?_;clear hm;intro w9 hm))
   refine ce 0 (.bool false) hm rfl Tryz.results45 rfl rfl _ bM rfl 2 a7 rfl rfl ?_
   exact ⟨rfl,hm.below⟩
  ·have hx9:=HLW.out.2.2.val hkey (HLW.out.2.1.sub kl hlk) hv hat
   obtain ⟨x0,hx0,rfl,rfl⟩:=hx9
   obtain ⟨y0,a1,a2,a3,a4,a5,a6,hsp,hy0,ha1,ha2,ha3,ha4,ha5,ha6⟩:=cO x0
   have HSP:Hid (∀_:Unit,spw x0=[Value.string y0,.int .i64 a1,.int .i64 a2,.int .i64 a3,.int .i64 a4,.int .i64 a5,.int .i64 a6]):=fun _=>hsp
   have HE:Hid (∀_:Unit,y0=tx x0.1∧a1=lmB x0∧a2=lmE x0∧a3=usB x0∧a4=usE x0∧a5=owB x0∧a6=owE x0):=fun _=>⟨hy0,ha1,ha2,ha3,ha4,ha5,ha6⟩
   rw [hsp] at hrun hen
   have HX0:Hid (x0∈p):=hx0
   have HRUN:Hid ((Instr.next (.pointer (some ⟨r,0,none⟩)) false 0).run Tryz.prog wr=.ok (.tuple #[.bool true,.agg (pvv x0.1).toArray,.agg ([Value.string y0,.int .i64 a1,.int .i64 a2,.int .i64 a3,.int .i64 a4,.int .i64 a5,.int .i64 a6]).toArray]) w3):=hrun
   have HEN:Hid ((Instr.entry (.pointer (some ⟨r,0,none⟩))).run Tryz.prog w3=.ok (.tuple #[.agg (pvv x0.1).toArray,.agg ([Value.string y0,.int .i64 a1,.int .i64 a2,.int .i64 a3,.int .i64 a4,.int .i64 a5,.int .i64 a6]).toArray]) w3):=hen
   have HRG:Hid (w3.ranges Tryz.prog 63 rdV m r q D (fun z=>left z && !z.sameKey kl) cnt'):=hrg1
   have HKEY:Hid (keyOf Tryz.prog 63 (.agg (pvv x0.1).toArray)=some kl∧left kl=true):=⟨hkey,hlk⟩
   have HM3:Hid (Mem w [] w3 [(g4,sm 0 0,75)]):=HMM.out.updI (by obtain ⟨a,b,c,h⟩:=bV HLW.out.1;exact ⟨_,a,b,c,h⟩) (Or.inr hwr) (Upd.of_grown hgr1)
   have hm:=Mem.start w3
   clear hrun hen hrg1 hkey hlk hv hat hsz hsp hy0 ha1 ha2 ha3 ha4 ha5 ha6 hx0 hgr1
   by_cases hs:y0=s
   ·have HEQ:Hid (∀_:Unit,(y0==s)=true):=fun _=>by rw [de,decide_eq_true hs]
    obtain ⟨e1,e2,e3⟩:=HY.out x0 HX0.out ((HE.out ()).1▸hs)
    have e4:a5=a:=(HE.out ()).2.2.2.2.2.1.trans e2
    have e5:a6=b:=(HE.out ()).2.2.2.2.2.2.trans e3
    subst e4 e5 e1
    replace hm:=HM3.out
    clear hs e2 e3
    go_wp2_with (first
     | ((with_reducible refine ab (some 16) (.next (.tmp 15) false) ?_);go_must (refine aC HRUN.out rfl ?_))
     | ((with_reducible refine ab (some 18) (.entry (.tmp 15)) ?_);go_must (refine aa (.tuple #[.agg (pvv x0.1).toArray,.agg ([Value.string y0,.int .i64 a1,.int .i64 a2,.int .i64 a3,.int .i64 a4,.int .i64 a5,.int .i64 a6]).toArray]) rfl (aN HEN.out rfl) ?_))
     | ((with_reducible refine ab (some 7) (.alloc 66) ?_);refine ae _ bu hm ?_;clear hm;intro w5 g7 hm)
     | ((with_reducible refine ab none (.store 66 (.tmp 7) (.tmp 19)) ?_);refine af 0 ([Value.string y0,.int .i64 a1,.int .i64 a2,.int .i64 a3,.int .i64 a4,.int .i64 a5,.int .i64 a6]) hm rfl rfl rfl 7 cy rfl rfl (bZ _ _ _ _ _ _ _) ?_;clear hm;intro w6 hm)
     | ((with_reducible refine ab (some 22) (.load 9 (.tmp 21)) ?_);refine aw 0 0 (.string y0) hm rfl rfl aj (rfl) ?_)
     | ((with_reducible refine ab (some 24) (.binOp .eql 9 (.tmp 22) (.tmp 23) 9) ?_);go_must (refine aa (.bool true) rfl (aM y0 s true rfl rfl (HEQ.out ())) ?_))
     | ((with_reducible refine ab (some 26) (.load 3 (.tmp 25)) ?_);refine aw 0 5 (.int .i64 a5) hm rfl rfl ah (rfl) ?_)
     | ((with_reducible refine ab (some 28) (.load 3 (.tmp 27)) ?_);refine aw 0 6 (.int .i64 a6) hm rfl rfl ah (rfl) ?_)
     | ((with_reducible refine ab (some 29) (.build 75 #[(0,.tmp 26),(1,.tmp 28)]) ?_);refine az (sm a5 a6) [(0,.int .i64 a5),(1,.int .i64 a6)] rfl (bA _ _) ?_)
     | ((with_reducible refine ab none (.store 75 (.tmp 4) (.tmp 29)) ?_);refine af 1 (sm a5 a6) hm rfl rfl rfl 2 a7 rfl rfl (bv _ _) ?_;clear hm;intro w8 hm))
    refine ce 1 (.bool true) hm rfl Tryz.results45 rfl rfl _ bM rfl 2 a7 rfl rfl ?_
    exact ⟨rfl,hm.below⟩
   ·have HEQ:Hid (∀_:Unit,(y0==s)=false):=fun _=>by rw [de,decide_eq_false hs]
    have HNE:Hid (tx x0.1≠s):=fun e=>hs ((HE.out ()).1.trans e)
    clear hs
    go_wp2_with (first
     | ((with_reducible refine ab (some 16) (.next (.tmp 15) false) ?_);go_must (refine aC HRUN.out rfl ?_))
     | ((with_reducible refine ab (some 18) (.entry (.tmp 15)) ?_);go_must (refine aa (.tuple #[.agg (pvv x0.1).toArray,.agg ([Value.string y0,.int .i64 a1,.int .i64 a2,.int .i64 a3,.int .i64 a4,.int .i64 a5,.int .i64 a6]).toArray]) rfl (aN HEN.out rfl) ?_))
     | ((with_reducible refine ab (some 7) (.alloc 66) ?_);refine ae _ bu hm ?_;clear hm;intro w5 g7 hm)
     | ((with_reducible refine ab none (.store 66 (.tmp 7) (.tmp 19)) ?_);refine af 0 ([Value.string y0,.int .i64 a1,.int .i64 a2,.int .i64 a3,.int .i64 a4,.int .i64 a5,.int .i64 a6]) hm rfl rfl rfl 7 cy rfl rfl (bZ _ _ _ _ _ _ _) ?_;clear hm;intro w6 hm)
     | ((with_reducible refine ab (some 22) (.load 9 (.tmp 21)) ?_);refine aw 0 0 (.string y0) hm rfl rfl aj (rfl) ?_)
     | ((with_reducible refine ab (some 24) (.binOp .eql 9 (.tmp 22) (.tmp 23) 9) ?_);go_must (refine aa (.bool false) rfl (aM y0 s false rfl rfl (HEQ.out ())) ?_)))
    try go_simp
    go_roundw
    case rel =>
     exact ⟨D,addV V x0.1,_,cnt',HM3.out.call hm.below,⟨HRG.out.kept (an hm.below) (by simp) (by simp),HLW.out.2.1.next HOK.out HX0.out HKEY.out.1,HLW.out.2.2⟩,HNO.out.next HOK.out HX0.out (decide_eq_false HNE.out)⟩
    case measure =>
     rw [(HRG.out.kept (an hm.below) (by simp) (by simp)).left_eq,HLW.out.1.left_eq]
     exact hlt
end Go.Proofs.YtdmohffogfbnbaaGreatDoor
