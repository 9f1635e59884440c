import Derived.Test.YtnllomcajijbjaaGreatDoorQp08
import Derived.Maps.OwnSet
import Derived.Maps.RangeWalk
import Derived.Lib.SlKeysI
import Derived.Test.YtnllomcajijbjaaGreatDoorChecked
set_option maxRecDepth 100000
set_option maxHeartbeats 4000000
namespace Go.Proofs.YtnllomcajijbjaaGreatDoor
open Go Go.RowKit Go.Maps
def upf {α:Type} (f:Nat→α) (i:Nat) (x:α):Nat→α:=fun j=>if j=i then x else f j
theorem bo {α:Type} (f:Nat→α) (i:Nat) (x:α):upf f i x i=x:=by simp [upf]
theorem aR {α:Type} (f:Nat→α) {i j:Nat} (x:α) (h:j≠i):upf f i x j=f j:=by simp [upf,h]
def flatK (ds:Nat→List Int):Nat→List Int
 | 0=>[]
 | n+1=>flatK ds n++ds n
theorem bX (ds:Nat→List Int):∀n,(∀i,i<n→(ds i).length=64)→(flatK ds n).length=n * 64
 | 0,_=>rfl
 | n+1,h=>by
  rw [flatK,List.length_append,bX ds n (fun i hi=>h i (by omega)),h n (by omega)]
  omega
theorem iw (ds es:Nat→List Int):∀n,(∀i,i<n→ds i=es i)→flatK ds n=flatK es n
 | 0,_=>rfl
 | n+1,h=>by rw [flatK,flatK,iw ds es n (fun i hi=>h i (by omega)),h n (by omega)]
theorem flatK_at (ds:Nat→List Int) (n i:Nat) (h:∀i,i<n→(ds i).length=64) (hi:i<n):((flatK ds n).drop (i * 64)).take 64=ds i:=by
 induction n with
 | zero=>omega
 | succ n ih =>
  have hl:=bX ds n (fun i hi=>h i (by omega))
  rw [flatK]
  by_cases he:i=n
  ·subst he
   rw [List.drop_append,List.drop_of_length_le (by omega),hl,Nat.sub_self,List.drop_zero,List.nil_append,List.take_of_length_le (by rw [h i (by omega)];exact Nat.le_refl _)]
  ·rw [List.drop_append_of_le_length (by omega),List.take_append_of_le_length (by rw [List.length_drop];omega)]
   exact ih (fun i hi=>h i (by omega)) (by omega)
theorem flatK_upf (ds:Nat→List Int) (i:Nat) (x:List Int):∀n,n≤i→flatK (upf ds i x) n=flatK ds n:=fun n hn =>
 iw _ _ n (fun j hj=>aR ds x (by omega))
theorem flatK_set (ds:Nat→List Int) (n i:Nat) (x:List Int) (h:∀i,i<n→(ds i).length=64) (hx:x.length=64) (hi:i<n):splice (flatK ds n) (i * 64) x=flatK (upf ds i x) n:=by
 induction n with
 | zero=>omega
 | succ n ih =>
  have hl:=bX ds n (fun i hi=>h i (by omega))
  have hn:=h n (by omega)
  rw [flatK,flatK]
  by_cases he:i=n
  ·subst he
   rw [flatK_upf ds i x i (Nat.le_refl _),bo]
   unfold splice
   rw [List.take_append_of_le_length (by omega),List.take_of_length_le (by omega),List.drop_of_length_le (by rw [List.length_append,hl,hn,hx];omega),List.append_nil]
  ·rw [aR ds x (fun e=>he e.symm),←ih (fun i hi=>h i (by omega)) (by omega)]
   unfold splice
   rw [List.take_append_of_le_length (by omega),List.drop_append_of_le_length (by omega)]
   simp
theorem Bytes.flatK (ds:Nat→List Int):∀n,(∀i,i<n→Bytes (ds i))→Bytes (flatK ds n)
 | 0,_=>by intro x hx;cases hx
 | n+1,h=>(Bytes.flatK ds n (fun i hi=>h i (by omega))).append (h n (by omega))
structure Dk where
 n:Nat
 kept:Nat→List Int
 pend:Nat→Option (List Int)
 steps:Int
 left:Int
 off:Bool
structure Dk.Ok (d:Dk):Prop where
 n:d.n≤4000
 kept:∀i,i<d.n→(d.kept i).length=64
 keptB:∀i,i<d.n→Bytes (d.kept i)
 pend:∀i l,d.pend i=some l→i<d.n∧l.length=64∧Bytes l
def Dk.now (d:Dk) (i:Nat):List Int:=(d.pend i).getD (d.kept i)
theorem Dk.Ok.now {d:Dk} (h:d.Ok) {i:Nat} (hi:i<d.n):(d.now i).length=64:=by
 unfold Dk.now
 cases hp:d.pend i with
 | none=>exact h.kept i hi
 | some l=>exact (h.pend i l hp).2.1
theorem Dk.Ok.nowB {d:Dk} (h:d.Ok) {i:Nat} (hi:i<d.n):Bytes (d.now i):=by
 unfold Dk.now
 cases hp:d.pend i with
 | none=>exact h.keptB i hi
 | some l=>exact (h.pend i l hp).2.2
def zeroK:List Int:=List.replicate 64 0
theorem aL:zeroK.length=64:=by simp [zeroK]
theorem ce:Bytes zeroK:=Bytes.zeros 64
def Dk.new (n:Nat):Dk:=⟨n,fun _=>zeroK,fun _=>none,0,0,false⟩
theorem Dk.new_ok (n:Nat) (h:n≤4000):(Dk.new n).Ok:=⟨h,fun _ _=>aL,fun _ _=>ce,fun _ _ h=>by cases h⟩
def Dk.step (d:Dk):Dk:={d with steps:=d.steps+1,left:=if 0<d.left then d.left - 1 else d.left,off:=if 0<d.left then decide (d.left - 1=0) else d.off}
def Dk.put (d:Dk) (i:Nat) (l:List Int):Dk:={d with pend:=upf d.pend i (some l)}
theorem Dk.put_ok {d:Dk} (h:d.Ok) {i:Nat} {l:List Int} (hi:i<d.n) (hl:l.length=64) (hb:Bytes l):(d.put i l).Ok:=by
 refine ⟨h.n,h.kept,h.keptB,fun j x hx=>?_⟩
 by_cases he:j=i
 ·subst he
  simp only [Dk.put,bo,Option.some.injEq] at hx
  subst hx
  exact ⟨hi,hl,hb⟩
 ·simp only [Dk.put,aR d.pend _ he] at hx
  exact h.pend j x hx
def over (old bs:List Int):List Int:=bs++old.drop bs.length
theorem over_length {old bs:List Int} (h:old.length=64) (hb:bs.length≤64):(over old bs).length=64:=by simp [over];omega
theorem over_bytes {old bs:List Int} (h:Bytes old) (hb:Bytes bs):Bytes (over old bs):=hb.append (h.drop _)
theorem splice_over (old bs:List Int):splice old 0 bs=over old bs:=by simp [splice,over]
def Dk.fits (d:Dk) (i:Int) (bs:List Int):Bool:=decide (0≤i∧i<d.n)&&decide (bs.length≤64)
def Dk.write (d:Dk) (i:Int) (bs:List Int):Dk :=
 if d.step.off=false∧d.fits i bs=true then d.step.put i.toNat (over (d.now i.toNat) bs) else d.step
def Dk.wcode (d:Dk) (i:Int) (bs:List Int):Int:=if d.step.off=true then 61 else if d.fits i bs=true then 0 else 60
def Dk.has (d:Dk) (i:Int):Bool:=decide (0≤i∧i<d.n)
def Dk.rcode (d:Dk) (i:Int):Int:=if d.off=true then 61 else if d.has i=true then 0 else 60
def Dk.read (d:Dk) (i:Int):List Int:=if d.off=true then [] else if d.has i=true then d.now i.toNat else []
def Dk.flushed (d:Dk):Dk:={d with kept:=d.now,pend:=fun _=>none}
def Dk.flush (d:Dk):Dk:=if d.step.off=true then d.step else d.step.flushed
def Dk.fcode (d:Dk):Int:=if d.step.off=true then 61 else 0
def Dk.power (d:Dk) (a:Int):Dk:=if d.off=true then d else {d with left:=max a 0}
def spared (c:Int):Nat:=if c=255 then 64 else (c % 64).toNat
def tornOf (k l:List Int) (c:Int):List Int:=l.take (spared c)++k.drop (spared c)
theorem dO (c:Int):spared c≤64:=by unfold spared;split<;>omega
theorem eo {k l:List Int} (hk:k.length=64) (hl:l.length=64) (c:Int):(tornOf k l c).length=64:=by
 have:=dO c
 simp [tornOf,hk,hl];omega
theorem eK {k l:List Int} (hk:Bytes k) (hl:Bytes l) (c:Int):Bytes (tornOf k l c):=(hl.take _).append (hk.drop _)
def Dk.pens (d:Dk) (i:Nat):List Nat:=(List.range i).filter fun j=>(d.pend j).isSome
def Dk.rank (d:Dk) (i:Nat):Nat:=(d.pens i).length
def Dk.keptAt (d:Dk) (cs:List Int) (k:Nat) (i:Nat):List Int :=
 match d.pend i with
 | none=>d.kept i
 | some l=>if d.rank i<k then tornOf (d.kept i) l (cs.getD (d.rank i) 0) else d.kept i
def Dk.crash (d:Dk) (cs:List Int):Dk:={d with left:=0,off:=false,kept:=d.keptAt cs (d.rank d.n),pend:=fun _=>none}
theorem Dk.keptAt_ok {d:Dk} (h:d.Ok) (cs:List Int) (k i:Nat) (hi:i<d.n):(d.keptAt cs k i).length=64∧Bytes (d.keptAt cs k i):=by
 unfold Dk.keptAt
 cases hp:d.pend i with
 | none=>exact ⟨h.kept i hi,h.keptB i hi⟩
 | some l =>
  obtain ⟨_,h1,h2⟩:=h.pend i l hp
  simp only
  split
  ·exact ⟨eo (h.kept i hi) h1 _,eK (h.keptB i hi) h2 _⟩
  ·exact ⟨h.kept i hi,h.keptB i hi⟩
theorem Dk.pens_at (d:Dk) (n i:Nat) (hi:i<n) (hp:(d.pend i).isSome=true):(d.pens n)[d.rank i]?=some i:=by
 have e:List.range n=List.range i++(i::(List.range (n - i - 1)).map (· + (i+1))):=by
  apply List.ext_getElem?
  intro j
  simp only [List.getElem?_append,List.length_range]
  by_cases h1:j<i
  ·simp [h1,show j<n by omega]
  ·rw [if_neg h1]
   by_cases h2:j=i
   ·subst h2;simp [hi]
   ·obtain ⟨m,hm⟩:∃m,j=i+1+m:=⟨j - i - 1,by omega⟩
    subst hm
    have:i+1+m - i=m+1:=by omega
    rw [this,List.getElem?_cons_succ]
    by_cases h3:m<n - i - 1
    ·simp [h3,show i+1+m<n by omega];omega
    ·rw [List.getElem?_eq_none (by simp;omega),List.getElem?_eq_none (by simp;omega)]
 unfold Dk.pens Dk.rank Dk.pens
 rw [e,List.filter_append,List.filter_cons_of_pos (p:=fun j=>(d.pend j).isSome) hp,List.getElem?_append_right (Nat.le_refl _),Nat.sub_self]
 rfl
theorem Dk.pens_nodup (d:Dk) (n:Nat):(d.pens n).Nodup:=List.Nodup.sublist List.filter_sublist List.nodup_range
theorem Dk.pens_mem (d:Dk) (n i:Nat):i∈d.pens n↔(i<n∧(d.pend i).isSome=true):=by simp [Dk.pens]
theorem Dk.pens_rank (d:Dk) (n k i:Nat) (h:(d.pens n)[k]?=some i):d.rank i=k:=by
 have hm:=(d.pens_mem n i).1 (List.mem_of_getElem? h)
 have h2:=d.pens_at n i hm.1 hm.2
 have h3:d.rank i<(d.pens n).length:=by
  rcases Nat.lt_or_ge (d.rank i) (d.pens n).length with h'|h'
  ·exact h'
  ·rw [List.getElem?_eq_none h'] at h2;cases h2
 have h4:k<(d.pens n).length:=by
  rcases Nat.lt_or_ge k (d.pens n).length with h'|h'
  ·exact h'
  ·rw [List.getElem?_eq_none h'] at h;cases h
 exact (List.getElem?_inj h3 (d.pens_nodup n)).1 (h2.trans h.symm)
theorem Dk.rank_lt (d:Dk) (n i:Nat) (hi:i<n) (hp:(d.pend i).isSome=true):d.rank i<d.rank n:=by
 have h2:=d.pens_at n i hi hp
 rcases Nat.lt_or_ge (d.rank i) (d.pens n).length with h'|h'
 ·exact h'
 ·rw [List.getElem?_eq_none h'] at h2;cases h2
theorem Dk.rank_le (d:Dk) (n:Nat):d.rank n≤n:=by
 unfold Dk.rank Dk.pens
 exact Nat.le_trans (List.length_filter_le _ _) (by simp)
theorem Dk.keptAt_zero (d:Dk) (cs:List Int) (i:Nat):d.keptAt cs 0 i=d.kept i:=by
 unfold Dk.keptAt
 cases d.pend i<;>simp
theorem Dk.keptAt_step (d:Dk) (cs:List Int) (n k i:Nat) (l:List Int) (h:(d.pens n)[k]?=some i) (hp:d.pend i=some l) :
  d.keptAt cs (k+1)=upf (d.keptAt cs k) i (tornOf (d.keptAt cs k i) l (cs.getD k 0)):=by
 have hr:=d.pens_rank n k i h
 funext j
 by_cases he:j=i
 ·subst he
  rw [bo]
  simp [Dk.keptAt,hp,hr]
 ·rw [aR _ _ he]
  unfold Dk.keptAt
  cases hj:d.pend j with
  | none=>rfl
  | some x =>
   simp only
   have hne:d.rank j≠k:=by
    intro e
    apply he
    by_cases hjn:j<n
    ·have h2:=d.pens_at n j hjn (by rw [hj];rfl)
     rw [e,h] at h2
     exact (Option.some.inj h2).symm
    ·have hm:=(d.pens_mem n i).1 (List.mem_of_getElem? h)
     have h2:=d.rank_lt j i (by omega) hm.2
     omega
   by_cases h5:d.rank j<k
   ·rw [if_pos h5,if_pos (by omega)]
   ·rw [if_neg h5,if_neg (by omega)]
theorem getD_out (cs:List Int) (k:Nat) (h:¬k<cs.length):cs.getD k 0=0:=by
 rw [List.getD_eq_getElem?_getD,List.getElem?_eq_none (by omega)];rfl
end Go.Proofs.YtnllomcajijbjaaGreatDoor
namespace Go.Proofs.YtnllomcajijbjaaGreatDoor
open Go Go.RowKit Go.Maps
theorem made_con:(Tryz.prog.info? 83).map (fun i=>(i.zero,i.size,i.bytes))=some (some (.agg (u8s zeroK).toArray),64,64):=by kernel_rfl
theorem info_con:(Tryz.prog.info? 83).map (fun i=>(i.zero,i.size))=some (some (.agg (u8s zeroK).toArray),64):=by kernel_rfl
theorem cz:∀w,(zeroValue 83).run Tryz.prog w=.ok (.agg (u8s zeroK).toArray) w:=(zero_of_info info_con).1
theorem cb:(Tryz.prog.info? 83).map (·.size)=some 64:=(zero_of_info info_con).2
theorem cJ:Tryz.prog.underlying 83=some (.array 64 5):=Tryz.underlying83
theorem un_cons:Tryz.prog.underlying 50=some (.slice 83):=Tryz.underlying50
theorem gp:Tryz.prog.underlying 51=some (.map 3 83):=Tryz.underlying51
theorem gn:Tryz.prog.underlying 3=some (.int .i64):=Tryz.underlying3
theorem un_bsD:Tryz.prog.underlying 33=some (.slice 5):=Tryz.underlying33
theorem ev:(Tryz.prog.info? 5).map (·.size)=some 1:=by kernel_rfl
theorem dw:(Tryz.prog.info? 3).map (·.size)=some 1:=by kernel_rfl
theorem iC:(Tryz.prog.info? 4).map (·.size)=some 1:=by kernel_rfl
theorem ag_u8D:∀w,(isAgg 5).run Tryz.prog w=.ok false w:=by intro w;simp [go_sem]
theorem cO:∀w,(isAgg 3).run Tryz.prog w=.ok false w:=by intro w;simp [go_sem]
theorem e6:∀w,(isAgg 4).run Tryz.prog w=.ok false w:=by intro w;simp [go_sem]
theorem fJ:∀w,(isAgg 50).run Tryz.prog w=.ok false w:=by intro w;simp [go_sem]
theorem dL:∀w,(isAgg 51).run Tryz.prog w=.ok false w:=by intro w;simp [go_sem]
theorem mixed:Tryz.prog.follows .mixedOrders=true:=by kernel_rfl
theorem cg:Keyed Tryz.prog 3:=int_keyed gn
theorem dF (i:Nat) (h:i≤4000):keyOf Tryz.prog 3 (.int .i64 (i:Int))=some (.int .i64 (i:Int)):=by
 exact keyOf_int_mk gn (WalkArith.wf_i64 (by omega))
theorem keyLit (i:Int):WideAt.IsKeyLit (.int .i64 i):=trivial
def rdV (v:Value):Option (DataW Value×List MemPlace):=some (.held v,[])
structure PM (D:DataW Value) (p:Nat→Option (List Int)):Prop where
 has:∀x:Int,Maps.has D (.int .i64 x)=true↔∃i:Nat,x=(i:Int)∧(p i).isSome=true
 val:∀i l,p i=some l→∀z,D.atKey (.int .i64 (i:Int)) z=.held (.agg (u8s l).toArray)
theorem PM.none:PM (.map []) (fun _=>Option.none):=⟨fun x=>by simp [Maps.has],fun _ _ h=>by cases h⟩
theorem PM.hasN {D:DataW Value} {p:Nat→Option (List Int)} (h:PM D p) (i:Nat):Maps.has D (.int .i64 (i:Int))=(p i).isSome:=by
 rw [Bool.eq_iff_iff,h.has]
 constructor
 ·rintro ⟨j,hj,hp⟩
  have:i=j:=by omega
  subst this
  exact hp
 ·intro hp
  exact ⟨i,rfl,hp⟩
theorem PM.put {D:DataW Value} {p:Nat→Option (List Int)} (h:PM D p) (hD:IsMap D) (i:Nat) (l:List Int):PM (D.put (.int .i64 (i:Int)) (.held (.agg (u8s l).toArray))) (upf p i (some l)):=by
 constructor
 ·intro x
  by_cases hx:x=(i:Int)
  ·subst hx
   rw [has_put_same hD (keyLit _)]
   simp only [true_iff]
   exact ⟨i,rfl,by simp [upf]⟩
  ·rw [has_put_other (by intro e;exact hx (by simpa using e)),h.has]
   constructor
   ·rintro ⟨j,rfl,hp⟩
    exact ⟨j,rfl,by rw [aR p _ (by omega)];exact hp⟩
   ·rintro ⟨j,rfl,hp⟩
    exact ⟨j,rfl,by rw [aR p _ (by omega)] at hp;exact hp⟩
 ·intro j x hx z
  by_cases he:j=i
  ·subst he
   rw [bo] at hx
   simp only [Option.some.injEq] at hx
   subst hx
   exact atKey_put_same hD (keyLit _) _ _
  ·rw [aR p _ he] at hx
   rw [atKey_put_other (by intro e;apply he;simp at e;omega)]
   exact h.val j x hx z
theorem PM.perm {D:DataW Value} {d:Dk} {w:World} {mb q:Nat} (h:PM D d.pend) (hd:d.Ok) (ho:w.ownsMap Tryz.prog 3 rdV mb q D):((d.pens d.n).map fun i:Nat=>(i:Int)).Perm (intKeys D):=by
 refine CollectedI.perm (left:=fun _=>false) ⟨?_,fun x=>?_⟩ ho cg gn (fun _=>rfl)
 ·exact List.pairwise_map.2 ((d.pens_nodup d.n).imp (fun hne e=>hne (by omega)))
 ·rw [h.has]
  simp only [List.mem_map,Dk.pens_mem,and_true]
  constructor
  ·rintro ⟨i,⟨_,hp⟩,rfl⟩
   exact ⟨i,rfl,hp⟩
  ·rintro ⟨i,rfl,hp⟩
   obtain ⟨l,hl⟩:=Option.isSome_iff_exists.1 hp
   exact ⟨i,⟨(hd.pend i l hl).1,hp⟩,rfl⟩
theorem PM.size {D:DataW Value} {d:Dk} {w:World} {mb q:Nat} (h:PM D d.pend) (hd:d.Ok) (ho:w.ownsMap Tryz.prog 3 rdV mb q D):Maps.size D=d.rank d.n:=by
 have hp:=(h.perm hd ho).length_eq
 obtain ⟨es,rfl⟩:=ho.isMap
 simpa [intKeys,Maps.size,Dk.rank] using hp.symm
theorem PM.sorted {D:DataW Value} {d:Dk} {w:World} {mb q:Nat} (h:PM D d.pend) (hd:d.Ok) (ho:w.ownsMap Tryz.prog 3 rdV mb q D) {ss:List Int} (hs:ss.Perm (intKeys D)):ss.mergeSort (fun x y=>decide (x≤y))=(d.pens d.n).map fun i:Nat=>(i:Int):=by
 have h1:ss.mergeSort leI=((d.pens d.n).map fun i:Nat=>(i:Int)).mergeSort leI:=mergeSort_of_perm_i (hs.trans (h.perm hd ho).symm)
 refine h1.trans (List.mergeSort_of_pairwise ?_)
 refine List.pairwise_map.2 ?_
 have h2:(List.range d.n).Pairwise (· < ·):=List.pairwise_lt_range
 refine (h2.sublist (List.filter_sublist (p:=fun j=>(d.pend j).isSome))).imp (fun hlt=>?_)
 simp only [leI,decide_eq_true_eq]
 omega
structure KeptAt (w:World) (kv:Value) (n:Nat) (ds:Nat→List Int):Prop where
 ex:∃p cap,kv=.slice p n cap∧n≤cap∧(0<n→∃kb tl,p=some ⟨kb,0,none⟩∧Row w kb (u8s (flatK ds n)++tl) 83)
def kbOf:Value→List Nat
 | .slice (some a) n _=>if n=0 then [] else [a.block]
 | _=>[]
def foot (g mb:Nat) (kv:Value):List Nat:=g::mb::kbOf kv
def drow (kv:Value) (mb:Nat) (s l:Int) (o:Bool):List Value:=[kv,.map (some mb),.int .i64 s,.int .i64 l,.bool o]
structure DkAt (w:World) (g mb:Nat) (kv:Value) (d:Dk):Prop where
 ok:d.Ok
 row:Row w g (drow kv mb d.steps d.left d.off) 53
 kept:KeptAt w kv d.n d.kept
 map:∃q D,w.ownsMap Tryz.prog 3 rdV mb q D∧PM D d.pend
theorem bK {w:World} {g m:Nat} {l:List Value} {t:TypeId} {es:Array MapEntry} {c:Nat} (hr:Row w g l t) (hm:w.heap[m]?=some (.map es c)):g≠m:=by
 rintro rfl
 rw [Row,hm] at hr
 cases hr
section
variable {w w':World} {g mb n:Nat} {kv:Value} {d d':Dk} {ds:Nat→List Int}
theorem KeptAt.some (h:KeptAt w kv n ds) (hn:0<n):∃kb cap tl,kv=.slice (some ⟨kb,0,none⟩) n cap∧n≤cap∧Row w kb (u8s (flatK ds n)++tl) 83:=by
 obtain ⟨p,cap,rfl,hc,h2⟩:=h.ex
 obtain ⟨kb,tl,rfl,hr⟩:=h2 hn
 exact ⟨kb,cap,tl,rfl,hc,hr⟩
theorem KeptAt.slice (h:KeptAt w kv n ds):∃p cap,kv=.slice p n cap:=by
 obtain ⟨p,cap,rfl,_⟩:=h.ex
 exact ⟨p,cap,rfl⟩
theorem KeptAt.keep (h:KeptAt w kv n ds) (hk:∀k∈kbOf kv,w'.heap[k]?=w.heap[k]?):KeptAt w' kv n ds:=by
 obtain ⟨p,cap,rfl,hc,h2⟩:=h.ex
 refine ⟨p,cap,rfl,hc,fun hn=>?_⟩
 obtain ⟨kb,tl,rfl,hr⟩:=h2 hn
 refine ⟨kb,tl,rfl,?_⟩
 unfold Row
 rw [hk kb (by simp [kbOf];omega)]
 exact hr
theorem KeptAt.lt (h:KeptAt w kv n ds):∀k∈kbOf kv,k<w.heap.size:=by
 obtain ⟨p,cap,rfl,hc,h2⟩:=h.ex
 intro k hk
 rcases Nat.eq_zero_or_pos n with hn|hn
 ·subst hn;cases p<;>simp [kbOf] at hk
 ·obtain ⟨kb,tl,rfl,hr⟩:=h2 hn
  have:k=kb:=by simp [kbOf] at hk;exact hk.2
  subst this
  exact hr.lt
theorem DkAt.keep (h:DkAt w g mb kv d) (hk:∀k∈foot g mb kv,w'.heap[k]?=w.heap[k]?):DkAt w' g mb kv d:=by
 refine ⟨h.ok,?_,h.kept.keep (fun k hh=>hk k (by simp [foot,hh])),?_⟩
 ·unfold Row;rw [hk g (by simp [foot])];exact h.row
 ·obtain ⟨q,D,⟨es,c,hb,F,hs,hD⟩,pm⟩:=h.map
  exact ⟨q,D,⟨es,c,by rw [hk mb (by simp [foot])];exact hb,F,hs,hD⟩,pm⟩
theorem DkAt.lt (h:DkAt w g mb kv d):∀k∈foot g mb kv,k<w.heap.size:=by
 intro k hk
 simp only [foot,List.mem_cons] at hk
 rcases hk with rfl|rfl|hk
 ·exact h.row.lt
 ·obtain ⟨q,D,ho,_⟩:=h.map
  exact ho.lt
 ·exact h.kept.lt k hk
theorem DkAt.below (h:DkAt w g mb kv d) (hb:Below w.heap.size w w'):DkAt w' g mb kv d:=h.keep (fun k hk=>hb.block k (h.lt k hk))
theorem DkAt.drew (h:DkAt w g mb kv d):DkAt w.drew g mb kv d:=⟨h.ok,h.row,⟨h.kept.ex⟩,h.map⟩
theorem DkAt.mem {w0:World} {rows:List (Nat×List Value×TypeId)} (h:DkAt w0 g mb kv d) (hm:Mem w0 [] w rows):DkAt w g mb kv d:=h.below hm.below
theorem DkAt.isMap (h:DkAt w g mb kv d):∃es c,w.heap[mb]?=some (.map es c):=by
 obtain ⟨q,D,⟨es,c,hb,_⟩,_⟩:=h.map
 exact ⟨es,c,hb⟩
theorem DkAt.ne_gm (h:DkAt w g mb kv d):g≠mb:=by
 obtain ⟨es,c,hb⟩:=h.isMap
 exact bK h.row hb
theorem DkAt.ne_k (h:DkAt w g mb kv d):∀k∈kbOf kv,k≠g∧k≠mb:=by
 obtain ⟨es,c,hb⟩:=h.isMap
 obtain ⟨p,cap,rfl,hc,h2⟩:=h.kept.ex
 intro k hk
 rcases Nat.eq_zero_or_pos d.n with hn|hn
 ·rw [hn] at hk;cases p<;>simp [kbOf] at hk
 ·obtain ⟨kb,tl,rfl,hr⟩:=h2 hn
  have:k=kb:=by simp [kbOf] at hk;exact hk.2
  subst this
  refine ⟨?_,bK hr hb⟩
  rintro rfl
  have h3:=h.row
  unfold Row at h3 hr
  rw [h3] at hr
  simp only [Option.some.injEq,Obj.cells.injEq] at hr
  exact absurd hr.2.1 (by decide)
end
structure UpdS (L:List Nat) (w w':World):Prop where
 os:w'.os=w.os
 tape:w'.tape=w.tape
 output:w'.output=w.output
 size:w.heap.size≤w'.heap.size
 block:∀k,k<w.heap.size→k ∉ L→w'.heap[k]?=w.heap[k]?
section
variable {w w' w'':World} {L M:List Nat}
theorem UpdS.refl (L:List Nat) (w:World):UpdS L w w:=⟨rfl,rfl,rfl,Nat.le_refl _,fun _ _ _=>rfl⟩
theorem UpdS.trans (h:UpdS L w w') (k:UpdS L w' w''):UpdS L w w'' :=
 ⟨k.os.trans h.os,k.tape.trans h.tape,k.output.trans h.output,Nat.le_trans h.size k.size,fun i hi hn=>(k.block i (Nat.lt_of_lt_of_le hi h.size) hn).trans (h.block i hi hn)⟩
theorem UpdS.mono (h:UpdS L w w') (hs:∀k∈L,k∈M):UpdS M w w':=⟨h.os,h.tape,h.output,h.size,fun k hk hn=>h.block k hk (fun hh=>hn (hs k hh))⟩
theorem UpdS.of_upd {g:Nat} (h:Upd g w w') (hg:g∈L):UpdS L w w':=⟨h.os,h.tape,h.output,h.size,fun k hk hn=>h.block k hk (fun e=>hn (e▸hg))⟩
theorem UpdS.of_below (h:Below w.heap.size w w'):UpdS L w w':=⟨h.os,h.tape,h.output,h.size,fun k hk _=>h.block k hk⟩
theorem UpdS.row {k:Nat} {l:List Value} {t:TypeId} (h:UpdS L w w') (r:Row w k l t) (hn:k ∉ L):Row w' k l t:=by
 unfold Row;rw [h.block k r.lt hn];exact r
end
def SlA (w:World) (L:List Nat) (v:Value) (cs:List Int):Prop :=
 ∃p cap,v=.slice p cs.length cap∧cs.length≤cap∧(0<cs.length→∃b off,p=some ⟨b,off,none⟩∧b ∉ L∧Seg w b off cs)
section
variable {w w' w0:World} {L:List Nat} {v:Value} {cs:List Int}
theorem SlA.nil (w:World) (L:List Nat):SlA w L (.slice none 0 0) []:=⟨none,0,rfl,Nat.le_refl _,fun h=>absurd h (by simp)⟩
theorem SlA.upd (h:SlA w L v cs) (hu:UpdS L w w'):SlA w' L v cs:=by
 obtain ⟨p,cap,rfl,hc,h2⟩:=h
 refine ⟨p,cap,rfl,hc,fun h0=>?_⟩
 obtain ⟨b,off,rfl,hb,hs⟩:=h2 h0
 refine ⟨b,off,rfl,hb,fun j hj=>?_⟩
 rw [World.cell?_of_block (w:=w) (a:=⟨b,off+j,none⟩) (hu.block b (hs.lt h0) hb)]
 exact hs j hj
theorem SlA.below (h:SlA w L v cs) (hb:Below w.heap.size w w'):SlA w' L v cs:=h.upd (UpdS.of_below hb)
theorem SlA.old (h:SlA w L v cs):SlOld w v cs:=by
 obtain ⟨p,cap,rfl,hc,h2⟩:=h
 refine ⟨p,cap,rfl,hc,fun h0=>?_⟩
 obtain ⟨b,off,rfl,hb,hs⟩:=h2 h0
 exact ⟨b,off,rfl,hs⟩
theorem SlA.of_row {g:Nat} {t:TypeId} (hr:Row w g (u8s cs) t) (n:Nat) (hn:n=cs.length) (hg:g ∉ L) (cap:Nat) (hc:n≤cap):SlA w L (.slice (some ⟨g,0,none⟩) n cap) cs:=by
 subst hn
 exact ⟨_,cap,rfl,hc,fun _=>⟨g,0,rfl,hg,Seg.row hr⟩⟩
theorem SlA.of_old {rows:List (Nat×List Value×TypeId)} (h:SlOld w0 v cs) (hm:Mem w0 [] w rows) (hL:∀k∈L,w0.heap.size≤k):SlA w L v cs:=by
 obtain ⟨p,cap,rfl,hc,h2⟩:=h
 refine ⟨p,cap,rfl,hc,fun h0=>?_⟩
 obtain ⟨b,off,rfl,hs⟩:=h2 h0
 exact ⟨b,off,rfl,fun hb=>absurd (hL b hb) (by have:=hs.lt h0;omega),hs.mem hm (by simp)⟩
end
structure Sd (w0 w:World) (g mb:Nat) (kv:Value) (d:Dk) (rows:List (Nat×List Value×TypeId)):Prop where
 mem:Mem w0 [] w rows
 dk:DkAt w g mb kv d
 new:∀k∈foot g mb kv,w0.heap.size≤k
 apart:∀r∈rows,r.1 ∉ foot g mb kv
section
variable {w0 w w':World} {g mb:Nat} {kv:Value} {d d':Dk} {rows:List (Nat×List Value×TypeId)}
theorem Sd.turn (h:Sd w0 w g mb kv d rows) (hd:DkAt w' g mb kv d') (hu:UpdS (foot g mb kv) w w'):Sd w0 w' g mb kv d' rows:=by
 refine ⟨⟨hu.os.trans h.mem.os,hu.tape.trans h.mem.tape,hu.output.trans h.mem.output,Nat.le_trans h.mem.size hu.size,fun k hk hn=>?_,fun r hr=>hu.row (h.mem.row r hr) (h.apart r hr),h.mem.nodup,h.mem.fresh⟩,hd,h.new,h.apart⟩
 refine (hu.block k (Nat.lt_of_lt_of_le hk h.mem.size) (fun hh=>?_)).trans (h.mem.block k hk hn)
 have:=h.new k hh
 omega
theorem Sd.below (h:Sd w0 w g mb kv d rows) (hb:Below w.heap.size w w'):Sd w0 w' g mb kv d rows:=⟨h.mem.call hb,h.dk.below hb,h.new,h.apart⟩
theorem Sd.drew (h:Sd w0 w g mb kv d rows):Sd w0 w.drew g mb kv d rows:=⟨h.mem.drew,h.dk.drew,h.new,h.apart⟩
theorem Sd.tail {r:Nat×List Value×TypeId} (h:Sd w0 w g mb kv d (r::rows)):Sd w0 w g mb kv d rows:=⟨h.mem.tail,h.dk,h.new,fun q hq=>h.apart q (List.mem_cons_of_mem _ hq)⟩
theorem Sd.alloc (h:Sd w0 w g mb kv d rows) (l:List Value) (t:TypeId):Sd w0 (w.alloc (.cells l.toArray t)) g mb kv d ((w.heap.size,l,t)::rows):=by
 refine ⟨h.mem.alloc l t,h.dk.below ((Below.refl _ _).alloc (Nat.le_refl _) _),h.new,fun r hr=>?_⟩
 rcases List.mem_cons.1 hr with rfl|hr
 ·intro hk
  have:=h.dk.lt _ hk
  simp at this
 ·exact h.apart r hr
theorem Sd.row (h:Sd w0 w g mb kv d rows) {q:Nat} {l:List Value} {t:TypeId} (hb:Below w.heap.size w w') (hr:Row w' q l t) (hq:w.heap.size≤q):Sd w0 w' g mb kv d ((q,l,t)::rows):=by
 refine ⟨h.mem.callNew hb hr hq,h.dk.below hb,h.new,fun r hr=>?_⟩
 rcases List.mem_cons.1 hr with rfl|hr
 ·intro hk
  have:=h.dk.lt _ hk
  simp at this
  omega
 ·exact h.apart r hr
theorem Sd.upd (h:Sd w0 w g mb kv d rows) (i:Nat) {q:Nat} {l l':List Value} {t:TypeId} (hi:rows[i]?=some (q,l,t)) (hu:Upd q w w') (hr:Row w' q l' t):Sd w0 w' g mb kv d (rows.set i (q,l',t)):=by
 have hmem:=List.mem_of_getElem? hi
 have ha:=h.apart _ hmem
 refine ⟨h.mem.upd i hi hu hr,h.dk.keep (fun k hk=>hu.block k (h.dk.lt k hk) (fun e=>ha (e▸hk))),h.new,fun r hr=>?_⟩
 rcases List.mem_or_eq_of_mem_set hr with h1|h1
 ·exact h.apart r h1
 ·subst h1
  exact ha
end
end Go.Proofs.YtnllomcajijbjaaGreatDoor
namespace Go.Proofs.YtnllomcajijbjaaGreatDoor
open Go Go.RowKit Go.Maps
section
variable {ops:Array Oper} {rest:List Oper} {a:Act} {w w0 w':World} {Q:Exit→Act→World→Prop} {dst:Option Tmp} {typ:TypeId} {pos:String} {aft:Array Edge} {gd:Option (Nat×Bool)} {S:List Nat} {rows:List (Nat×List Value×TypeId)} {g mb:Nat} {kv:Value} {d:Dk}
theorem zeroV_con:rdV (.agg (u8s zeroK).toArray)=some (.held (.agg (u8s zeroK).toArray),[]):=rfl
theorem ef {v:Value} {D:DataW Value} {ps:List MemPlace} (h:rdV v=some (D,ps)):D=.held v:=by
 unfold rdV at h
 simp only [Option.some.injEq,Prod.mk.injEq] at h
 exact h.1.symm
theorem run_look (hd:DkAt w g mb kv d) (i:Nat) (hi:i≤4000) :
  (Instr.lookup 51 (.map (some mb)) (.int .i64 (i:Int)) true).run Tryz.prog w=.ok (.tuple #[.agg (u8s ((d.pend i).getD zeroK)).toArray,.bool (d.pend i).isSome]) w:=by
 obtain ⟨q,D,ho,pm⟩:=hd.map
 obtain ⟨v,ps,hr,hv⟩:=ho.look_ok cg gp (cz w) zeroV_con (dF i hi)
 rw [hr,pm.hasN i]
 have h1:=ef hv
 cases hp:d.pend i with
 | none =>
  have h2:Maps.has D (.int .i64 (i:Int))=false:=by rw [pm.hasN i,hp];rfl
  rw [atKey_of_not_has h2] at h1
  simp only [DataW.held.injEq] at h1
  subst h1
  rfl
 | some l =>
  rw [pm.val i l hp] at h1
  simp only [DataW.held.injEq] at h1
  subst h1
  rfl
theorem run_look1 (hd:DkAt w g mb kv d) (i:Nat) (hi:i≤4000) (l:List Int) (hl:d.pend i=some l) :
  (Instr.lookup 51 (.map (some mb)) (.int .i64 (i:Int)) false).run Tryz.prog w=.ok (.agg (u8s l).toArray) w:=by
 obtain ⟨q,D,ho,pm⟩:=hd.map
 obtain ⟨v,ps,hr,hv⟩:=ho.lookup cg gp (cz w) zeroV_con (dF i hi)
 rw [hr]
 have h1:=ef hv
 rw [pm.val i l hl] at h1
 simp only [DataW.held.injEq] at h1
 subst h1
 rfl
theorem exec_look {m x:Operand} (hd:DkAt w g mb kv d) (i:Nat) (hi:i≤4000) {ii:Int} (hm:a.eval m=.map (some mb)) (hx:a.eval x=.int .i64 ii) (hii:ii=(i:Int)) :
  (execOp a.eval {dst:=dst,op:=.lookup 51 m x true,type:=typ,pos:=pos,after:=aft,guard:=gd}).run Tryz.prog w=.ok (.value (.tuple #[.agg (u8s ((d.pend i).getD zeroK)).toArray,.bool (d.pend i).isSome])) w:=by
 subst hii
 unfold execOp
 simp only [hm,hx,run_look hd i hi,Sem.run_bind,Sem.run_pure,Result.andThen_ok]
theorem exec_lookS {m x:Operand} (hd:DkAt w g mb kv d) (i:Nat) (hi:i≤4000) (l:List Int) (hl:d.pend i=some l) {ii:Int} (hm:a.eval m=.map (some mb)) (hx:a.eval x=.int .i64 ii) (hii:ii=(i:Int)) :
  (execOp a.eval {dst:=dst,op:=.lookup 51 m x true,type:=typ,pos:=pos,after:=aft,guard:=gd}).run Tryz.prog w=.ok (.value (.tuple #[.agg (u8s l).toArray,.bool true])) w:=by
 rw [exec_look hd i hi hm hx hii,hl]
 rfl
theorem exec_lookN {m x:Operand} (hd:DkAt w g mb kv d) (i:Nat) (hi:i≤4000) (hl:d.pend i=none) {ii:Int} (hm:a.eval m=.map (some mb)) (hx:a.eval x=.int .i64 ii) (hii:ii=(i:Int)) :
  (execOp a.eval {dst:=dst,op:=.lookup 51 m x true,type:=typ,pos:=pos,after:=aft,guard:=gd}).run Tryz.prog w=.ok (.value (.tuple #[.agg (u8s zeroK).toArray,.bool false])) w:=by
 rw [exec_look hd i hi hm hx hii,hl]
 rfl
theorem jd {m x:Operand} (hd:DkAt w g mb kv d) (i:Nat) (hi:i≤4000) (l:List Int) (hl:d.pend i=some l) {ii:Int} (hm:a.eval m=.map (some mb)) (hx:a.eval x=.int .i64 ii) (hii:ii=(i:Int)) :
  (execOp a.eval {dst:=dst,op:=.lookup 51 m x false,type:=typ,pos:=pos,after:=aft,guard:=gd}).run Tryz.prog w=.ok (.value (.agg (u8s l).toArray)) w:=by
 subst hii
 unfold execOp
 simp only [hm,hx,run_look1 hd i hi l hl,Sem.run_bind,Sem.run_pure,Result.andThen_ok]
theorem eC {x ix:Operand} {kb n cap:Nat} (i:Nat) {ii:Int} (hx:a.eval x=.slice (some ⟨kb,0,none⟩) n cap) (hix:a.eval ix=.int .i64 ii) (hii:ii=(i:Int)) (hi:i<n) :
  (execOp a.eval {dst:=dst,op:=.indexAddr 50 x ix,type:=typ,pos:=pos,after:=aft,guard:=gd}).run Tryz.prog w=.ok (.value (.pointer (some ⟨kb,i * 64,none⟩))) w:=by
 subst hii
 have h0:(0:Int)≤(i:Int)∧(i:Int)<(n:Int):=by omega
 unfold execOp
 simp [hx,hix,Instr.indexAt,asIntOf,run_underlying un_cons,h0,bM]
 omega
theorem kept_len {ds:Nat→List Int} {n i:Nat} (tl:List Value) (h:∀i,i<n→(ds i).length=64) (hi:i<n):i * 64+64≤(u8s (flatK ds n)++tl).length:=by
 rw [List.length_append,ab,bX ds n h]
 omega
theorem kept_sub {ds:Nat→List Int} {n i:Nat} (tl:List Value) (h:∀i,i<n→(ds i).length=64) (hi:i<n):((u8s (flatK ds n)++tl).drop (i * 64)).take 64=u8s (ds i):=by
 have hl:=bX ds n h
 rw [List.drop_append_of_le_length (by rw [ab];omega),List.take_append_of_le_length (by rw [List.length_drop,ab];omega)]
 unfold u8s
 rw [←List.map_drop,←List.map_take,flatK_at ds n i h hi]
theorem kept_set {ds:Nat→List Int} {n i:Nat} (tl:List Value) (x:List Int) (h:∀i,i<n→(ds i).length=64) (hx:x.length=64) (hi:i<n):splice (u8s (flatK ds n)++tl) (i * 64) (u8s x)=u8s (flatK (upf ds i x) n)++tl:=by
 have hl:=bX ds n h
 rw [←flatK_set ds n i x h hx hi]
 unfold splice u8s
 rw [List.take_append_of_le_length (by rw [List.length_map];omega),List.drop_append_of_le_length (by simp;omega)]
 simp
theorem iV {x:Operand} {ds:Nat→List Int} {n kb:Nat} {tl:List Value} (i:Nat) (hr:Row w kb (u8s (flatK ds n)++tl) 83) (h:∀i,i<n→(ds i).length=64) (hi:i<n) (hx:a.eval x=.pointer (some ⟨kb,i * 64,none⟩)) :
  (execOp a.eval {dst:=dst,op:=.load 83 x,type:=typ,pos:=pos,after:=aft,guard:=gd}).run Tryz.prog w=.ok (.value (.agg (u8s (ds i)).toArray)) w :=
 ao (i * 64) (u8s (ds i)) hr hx _ cJ rfl 64 cb (kept_len tl h hi) (kept_sub tl h hi)
end
end Go.Proofs.YtnllomcajijbjaaGreatDoor
namespace Go.Proofs.YtnllomcajijbjaaGreatDoor
open Go Go.RowKit Go.Maps
theorem len_any (g mb:Nat) (kv:Value) (d:Dk) (w:World) (hd:DkAt w g mb kv d) :
  Calls Tryz.prog 33 #[.pointer (some ⟨g,0,none⟩)] w fun e w'=>e=.returned (.int .i64 d.n)∧w'=w:=by
 obtain ⟨p,cap,hk⟩:=hd.kept.slice
 have hc:w.cell? ⟨g,0,none⟩=some (.slice p d.n cap):=by rw [hd.row.cell,hk];rfl
 clear hd hk
 go_enter Tryz.func33,Tryz.ntmps33
 go_wp2
 go_ret
 exact ⟨rfl,rfl⟩
theorem iD (g mb:Nat) (kv:Value) (d:Dk) (i:Int) (w:World) (hd:DkAt w g mb kv d) :
  Calls Tryz.prog 51 #[.pointer (some ⟨g,0,none⟩),.int .i64 i] w fun e w'=>e=.returned (.bool (d.has i))∧w'=w:=by
 obtain ⟨p,cap,hk⟩:=hd.kept.slice
 have hc:w.cell? ⟨g,0,none⟩=some (.slice p d.n cap):=by rw [hd.row.cell,hk];rfl
 unfold Dk.has
 obtain ⟨n,hn⟩:∃n,n=d.n:=⟨_,rfl⟩
 rw [←hn] at hc ⊢
 clear hd hk hn
 by_cases h0:0≤i
 ·by_cases h1:i<n
  ·rw [decide_eq_true (⟨h0,h1⟩:0≤i∧i<n)]
   go_enter Tryz.func51,Tryz.ntmps51
   go_wp2
   go_ret
   exact ⟨rfl,rfl⟩
  ·rw [decide_eq_false (fun h:0≤i∧i<n=>h1 h.2)]
   go_enter Tryz.func51,Tryz.ntmps51
   go_wp2
   go_ret
   exact ⟨rfl,rfl⟩
 ·rw [decide_eq_false (fun h:0≤i∧i<n=>h0 h.1)]
  go_enter Tryz.func51,Tryz.ntmps51
  go_wp2
  go_ret
  exact ⟨rfl,rfl⟩
theorem step_rowA (g mb:Nat) (kv:Value) (s:Int) (o:Bool) (hs:0≤s∧s<1000000000) (w:World) (hr:Row w g (drow kv mb s 0 o) 53) :
  Calls Tryz.prog 50 #[.pointer (some ⟨g,0,none⟩)] w fun e w'=>e=.returned (.bool (!o))∧Row w' g (drow kv mb (s+1) 0 o) 53∧Upd g w w':=by
 have hm:=Mem.enter hr
 clear hr
 obtain ⟨hs0,hs1⟩:=hs
 go_enter Tryz.func50,Tryz.ntmps50
 go_wp2_with (first
  | ((with_reducible refine aa (some 6) (.load 3 (.tmp 5)) ?_);refine bi 0 2 (.int .i64 s) hm rfl rfl cO (rfl) ?_)
  | ((with_reducible refine aa none (.store 3 (.tmp 9) (.tmp 7)) ?_);refine bm 0 2 (.int .i64 (s+1)) hm rfl (rfl) rfl dw (by show _<5;omega) rfl rfl ?_;clear hm;intro w1 hm;replace hm:Mem w [g] _ [(g,drow kv mb (s+1) 0 o,53)]:=hm)
  | ((with_reducible refine aa (some 13) (.load 3 (.tmp 12)) ?_);refine bi 0 3 (.int .i64 0) hm rfl rfl cO (rfl) ?_)
  | ((with_reducible refine aa (some 33) (.load 4 (.tmp 32)) ?_);refine bi 0 4 (.bool o) hm rfl rfl e6 (rfl) ?_))
 go_ret
 exact ⟨rfl,hm.get 0 rfl,hm.toUpd⟩
theorem step_rowB (g mb:Nat) (kv:Value) (s:Int) (o:Bool) (hs:0≤s∧s<1000000000) (w:World) (hr:Row w g (drow kv mb s 1 o) 53) :
  Calls Tryz.prog 50 #[.pointer (some ⟨g,0,none⟩)] w fun e w'=>e=.returned (.bool false)∧Row w' g (drow kv mb (s+1) 0 true) 53∧Upd g w w':=by
 have hm:=Mem.enter hr
 clear hr
 obtain ⟨hs0,hs1⟩:=hs
 go_enter Tryz.func50,Tryz.ntmps50
 go_wp2_with (first
  | ((with_reducible refine aa (some 6) (.load 3 (.tmp 5)) ?_);refine bi 0 2 (.int .i64 s) hm rfl rfl cO (rfl) ?_)
  | ((with_reducible refine aa none (.store 3 (.tmp 9) (.tmp 7)) ?_);refine bm 0 2 (.int .i64 (s+1)) hm rfl (rfl) rfl dw (by show _<5;omega) rfl rfl ?_;clear hm;intro w1 hm;replace hm:Mem w [g] _ [(g,drow kv mb (s+1) 1 o,53)]:=hm)
  | ((with_reducible refine aa (some 13) (.load 3 (.tmp 12)) ?_);refine bi 0 3 (.int .i64 1) hm rfl rfl cO (rfl) ?_)
  | ((with_reducible refine aa (some 18) (.load 3 (.tmp 17)) ?_);refine bi 0 3 (.int .i64 1) hm rfl rfl cO (rfl) ?_)
  | ((with_reducible refine aa none (.store 3 (.tmp 21) (.tmp 19)) ?_);refine bm 0 3 (.int .i64 0) hm rfl (rfl) rfl dw (by show _<5;omega) rfl rfl ?_;clear hm;intro w2 hm;replace hm:Mem w [g] _ [(g,drow kv mb (s+1) 0 o,53)]:=hm)
  | ((with_reducible refine aa (some 26) (.load 3 (.tmp 25)) ?_);refine bi 0 3 (.int .i64 0) hm rfl rfl cO (rfl) ?_)
  | ((with_reducible refine aa none (.store 4 (.tmp 29) (.tmp 27)) ?_);refine bm 0 4 (.bool true) hm rfl (rfl) rfl iC (by show _<5;omega) rfl rfl ?_;clear hm;intro w3 hm;replace hm:Mem w [g] _ [(g,drow kv mb (s+1) 0 true,53)]:=hm)
  | ((with_reducible refine aa (some 33) (.load 4 (.tmp 32)) ?_);refine bi 0 4 (.bool true) hm rfl rfl e6 (rfl) ?_))
 go_ret
 exact ⟨rfl,hm.get 0 rfl,hm.toUpd⟩
theorem step_rowC (g mb:Nat) (kv:Value) (s l:Int) (o:Bool) (hs:0≤s∧s<1000000000) (hl:1<l∧l≤9223372036854775807) (w:World) (hr:Row w g (drow kv mb s l o) 53) :
  Calls Tryz.prog 50 #[.pointer (some ⟨g,0,none⟩)] w fun e w'=>e=.returned (.bool true)∧Row w' g (drow kv mb (s+1) (l - 1) false) 53∧Upd g w w':=by
 have hl1:(0<l):=by omega
 have hl2:¬(l - 1=0):=by omega
 have hl3:(l - 1==0)=false:=by simpa using hl2
 have hm:=Mem.enter hr
 clear hr
 obtain ⟨hs0,hs1⟩:=hs
 go_enter Tryz.func50,Tryz.ntmps50
 go_wp2_with (first
  | ((with_reducible refine aa (some 6) (.load 3 (.tmp 5)) ?_);refine bi 0 2 (.int .i64 s) hm rfl rfl cO (rfl) ?_)
  | ((with_reducible refine aa none (.store 3 (.tmp 9) (.tmp 7)) ?_);refine bm 0 2 (.int .i64 (s+1)) hm rfl (rfl) rfl dw (by show _<5;omega) rfl rfl ?_;clear hm;intro w1 hm;replace hm:Mem w [g] _ [(g,drow kv mb (s+1) l o,53)]:=hm)
  | ((with_reducible refine aa (some 13) (.load 3 (.tmp 12)) ?_);refine bi 0 3 (.int .i64 l) hm rfl rfl cO (rfl) ?_)
  | ((with_reducible refine aa (some 18) (.load 3 (.tmp 17)) ?_);refine bi 0 3 (.int .i64 l) hm rfl rfl cO (rfl) ?_)
  | ((with_reducible refine aa none (.store 3 (.tmp 21) (.tmp 19)) ?_);refine bm 0 3 (.int .i64 (l - 1)) hm rfl (rfl) rfl dw (by show _<5;omega) rfl rfl ?_;clear hm;intro w2 hm;replace hm:Mem w [g] _ [(g,drow kv mb (s+1) (l - 1) o,53)]:=hm)
  | ((with_reducible refine aa (some 26) (.load 3 (.tmp 25)) ?_);refine bi 0 3 (.int .i64 (l - 1)) hm rfl rfl cO (rfl) ?_)
  | ((with_reducible refine aa none (.store 4 (.tmp 29) (.tmp 27)) ?_);refine bm 0 4 (.bool false) hm rfl (rfl) rfl iC (by show _<5;omega) rfl rfl ?_;clear hm;intro w3 hm;replace hm:Mem w [g] _ [(g,drow kv mb (s+1) (l - 1) false,53)]:=hm)
  | ((with_reducible refine aa (some 33) (.load 4 (.tmp 32)) ?_);refine bi 0 4 (.bool false) hm rfl rfl e6 (rfl) ?_))
 go_ret
 exact ⟨rfl,hm.get 0 rfl,hm.toUpd⟩
/-- The disk's own block has turned, and nothing else of it. -/
theorem DkAt.turn {w w':World} {g mb:Nat} {kv:Value} {d d':Dk} (h:DkAt w g mb kv d) (hu:Upd g w w') (hr:Row w' g (drow kv mb d'.steps d'.left d'.off) 53) (h1:d'.n=d.n) (h2:d'.kept=d.kept) (h3:d'.pend=d.pend):DkAt w' g mb kv d':=by
 have hk:∀k∈foot g mb kv,k≠g→w'.heap[k]?=w.heap[k]?:=fun k hk hne=>hu.block k (h.lt k hk) hne
 refine ⟨⟨by rw [h1];exact h.ok.n,by rw [h1,h2];exact h.ok.kept,by rw [h1,h2];exact h.ok.keptB,by rw [h1,h3];exact h.ok.pend⟩,hr,?_,?_⟩
 ·rw [h1,h2]
  exact h.kept.keep (fun k hh=>hk k (by simp [foot,hh]) (h.ne_k k hh).1)
 ·obtain ⟨q,D,⟨es,c,hb,F,hs,hD⟩,pm⟩:=h.map
  exact ⟨q,D,⟨es,c,by rw [hk mb (by simp [foot]) (fun e=>h.ne_gm e.symm)];exact hb,F,hs,hD⟩,by rw [h3];exact pm⟩
theorem hF (g mb:Nat) (kv:Value):g∈foot g mb kv:=by simp [foot]
theorem foot_m (g mb:Nat) (kv:Value):mb∈foot g mb kv:=by simp [foot]
structure Dk.Num (d:Dk):Prop where
 steps:0≤d.steps∧d.steps<1000000000
 left:0≤d.left∧d.left≤9223372036854775807
theorem ew (g mb:Nat) (kv:Value) (d:Dk) (hn:d.Num) (w:World) (hd:DkAt w g mb kv d) :
  Calls Tryz.prog 50 #[.pointer (some ⟨g,0,none⟩)] w fun e w'=>e=.returned (.bool (!d.step.off))∧DkAt w' g mb kv d.step∧UpdS (foot g mb kv) w w':=by
 obtain ⟨hs,hl⟩:=hn
 have hr:=hd.row
 obtain ⟨n,kept,pend,s,l,o⟩:=d
 simp only at hs hl hr
 by_cases h0:l=0
 ·subst h0
  refine (step_rowA g mb kv s o hs w hr).mono ?_
  rintro e w' ⟨rfl,h1,h2⟩
  exact ⟨rfl,hd.turn h2 h1 rfl rfl rfl,UpdS.of_upd h2 (hF ..)⟩
 ·by_cases h1:l=1
  ·subst h1
   refine (step_rowB g mb kv s o hs w hr).mono ?_
   rintro e w' ⟨rfl,h1,h2⟩
   exact ⟨rfl,hd.turn h2 h1 rfl rfl rfl,UpdS.of_upd h2 (hF ..)⟩
  ·refine (step_rowC g mb kv s l o hs ⟨by omega,by omega⟩ w hr).mono ?_
   rintro e w' ⟨rfl,h1,h2⟩
   have e1:(Dk.step ⟨n,kept,pend,s,l,o⟩)=⟨n,kept,pend,s+1,l - 1,false⟩:=by
    have q1:0<l:=by omega
    have q2:¬(l - 1=0):=by omega
    simp [Dk.step,q1,q2]
   rw [e1]
   exact ⟨rfl,hd.turn h2 h1 rfl rfl rfl,UpdS.of_upd h2 (hF ..)⟩
end Go.Proofs.YtnllomcajijbjaaGreatDoor
namespace Go.Proofs.YtnllomcajijbjaaGreatDoor
open Go Go.RowKit Go.Maps
theorem now_pend (g mb:Nat) (kv:Value) (d:Dk) (i:Nat) (x:List Int) (hi:i<d.n) (hp:d.pend i=some x) (w:World) (hd:DkAt w g mb kv d) :
  Calls Tryz.prog 52 #[.pointer (some ⟨g,0,none⟩),.int .i64 i] w fun e w'=>e=.returned (.agg (u8s x).toArray)∧Below w.heap.size w w':=by
 have HXL:Hid ((u8s x).length=64):=by show _=_;rw [ab];exact (hd.ok.pend i x hp).2.1
 have HD:Hid _:=hd
 have hm:=Mem.start w
 have hi4:i≤4000:=by have:=hd.ok.n;omega
 have c1:w.cell? ⟨g,1,none⟩=some (.map (some mb)):=by rw [hd.row.cell];rfl
 have HZ:Hid ((u8s zeroK).length=64):=by show _=_;rw [ab];exact aL
 have HP:Hid (d.pend i=some x):=hp
 clear hd hp hi c1
 go_enter Tryz.func52,Tryz.ntmps52
 go_wp2_with (first
  | ((with_reducible refine aa (some 4) (.alloc 83) ?_);refine aj _ cz hm ?_;clear hm;intro w1 g4 hm)
  | ((with_reducible refine aa (some 11) (.load 51 (.tmp 10)) ?_);refine el 1 (.map (some mb)) (DkAt.row (HD.out.mem hm)) rfl dL rfl ?_)
  | ((with_reducible refine aa (some 13) (.lookup 51 (.tmp 11) (.tmp 12) true) ?_);refine ae (.tuple #[.agg (u8s x).toArray,.bool true]) rfl (exec_lookS (HD.out.mem hm) i hi4 _ HP.out rfl rfl rfl) ?_)
  | ((with_reducible refine aa (some 5) (.alloc 83) ?_);refine aj _ cz hm ?_;clear hm;intro w2 g5 hm)
  | ((with_reducible refine aa none (.store 83 (.tmp 5) (.tmp 14)) ?_);refine ap 0 (u8s x) hm rfl rfl rfl 64 cb (HZ.out) (HXL.out) (aq _) ?_;clear hm;intro w3 hm)
  | ((with_reducible refine aa (some 17) (.load 83 (.tmp 5)) ?_);refine ay 0 hm rfl rfl _ cJ rfl 64 cb (HXL.out) ?_)
  | ((with_reducible refine aa none (.store 83 (.tmp 4) (.tmp 17)) ?_);refine ap 1 (u8s x) hm rfl rfl rfl 64 cb (HZ.out) (HXL.out) (aq _) ?_;clear hm;intro w4 hm))
 exact aJ 1 hm rfl Tryz.results52 rfl _ cJ rfl 64 cb HXL.out rfl ⟨rfl,hm.below⟩
theorem now_kept (g mb:Nat) (kv:Value) (d:Dk) (i:Nat) (hi:i<d.n) (hp:d.pend i=none) (w:World) (hd:DkAt w g mb kv d) :
  Calls Tryz.prog 52 #[.pointer (some ⟨g,0,none⟩),.int .i64 i] w fun e w'=>e=.returned (.agg (u8s (d.kept i)).toArray)∧Below w.heap.size w w':=by
 have HXL:Hid ((u8s (d.kept i)).length=64):=by show _=_;rw [ab];exact hd.ok.kept i hi
 have HD:Hid _:=hd
 have hm:=Mem.start w
 have hi4:i≤4000:=by have:=hd.ok.n;omega
 have c1:w.cell? ⟨g,1,none⟩=some (.map (some mb)):=by rw [hd.row.cell];rfl
 have HZ:Hid ((u8s zeroK).length=64):=by show _=_;rw [ab];exact aL
 have HP:Hid (d.pend i=none):=hp
 obtain ⟨kb,cap,tl,rfl,hcap,hrk⟩:=hd.kept.some (by omega)
 have HR:Hid (Row w kb (u8s (flatK d.kept d.n)++tl) 83):=hrk
 have HKL:Hid (∀i,i<d.n→(d.kept i).length=64):=hd.ok.kept
 obtain ⟨n,hn⟩:∃n,n=d.n:=⟨_,rfl⟩
 have HN:Hid (∀_:Unit,d.n=n):=fun _=>hn.symm
 rw [←hn] at hi
 have HD':=HD
 rw [←hn] at HD'
 clear hd hp c1 hrk HD hn
 have HD:=HD'
 clear HD'
 go_enter Tryz.func52,Tryz.ntmps52
 go_wp2_with (first
  | ((with_reducible refine aa (some 4) (.alloc 83) ?_);refine aj _ cz hm ?_;clear hm;intro w1 g4 hm)
  | ((with_reducible refine aa (some 11) (.load 51 (.tmp 10)) ?_);refine el 1 (.map (some mb)) (DkAt.row (HD.out.mem hm)) rfl dL rfl ?_)
  | ((with_reducible refine aa (some 13) (.lookup 51 (.tmp 11) (.tmp 12) true) ?_);refine ae (.tuple #[.agg (u8s zeroK).toArray,.bool false]) rfl (exec_lookN (HD.out.mem hm) i hi4 HP.out rfl rfl rfl) ?_)
  | ((with_reducible refine aa (some 5) (.alloc 83) ?_);refine aj _ cz hm ?_;clear hm;intro w2 g5 hm)
  | ((with_reducible refine aa none (.store 83 (.tmp 5) (.tmp 14)) ?_);refine ap 0 (u8s zeroK) hm rfl rfl rfl 64 cb (HZ.out) (HZ.out) (aq _) ?_;clear hm;intro w3 hm)
  | ((with_reducible refine aa (some 21) (.load 50 (.tmp 20)) ?_);refine el 0 (.slice (some ⟨kb,0,none⟩) n cap) (DkAt.row (HD.out.mem hm)) rfl fJ rfl ?_)
  | ((with_reducible refine aa (some 23) (.indexAddr 50 (.tmp 21) (.tmp 22)) ?_);refine ae (.pointer (some ⟨kb,i * 64,none⟩)) rfl (eC i rfl rfl rfl hi) ?_)
  | ((with_reducible refine aa (some 24) (.load 83 (.tmp 23)) ?_);refine ae (.agg (u8s (d.kept i)).toArray) rfl (iV i (Row.below' HR.out hm.below) HKL.out (by rw [HN.out ()];exact hi) rfl) ?_)
  | ((with_reducible refine aa none (.store 83 (.tmp 4) (.tmp 24)) ?_);refine ap 1 (u8s (d.kept i)) hm rfl rfl rfl 64 cb (HZ.out) (HXL.out) (aq _) ?_;clear hm;intro w4 hm))
 exact aJ 1 hm rfl Tryz.results52 rfl _ cJ rfl 64 cb HXL.out rfl ⟨rfl,hm.below⟩
theorem now_any (g mb:Nat) (kv:Value) (d:Dk) (i:Nat) (hi:i<d.n) (w:World) (hd:DkAt w g mb kv d) :
  Calls Tryz.prog 52 #[.pointer (some ⟨g,0,none⟩),.int .i64 i] w fun e w'=>e=.returned (.agg (u8s (d.now i)).toArray)∧Below w.heap.size w w':=by
 unfold Dk.now
 cases hp:d.pend i with
 | none=>exact now_kept g mb kv d i hi hp w hd
 | some x=>exact now_pend g mb kv d i x hi hp w hd
theorem torn_whole (ks ls:List Int) (hk:ks.length=64) (hl:ls.length=64) (w:World) :
  Calls Tryz.prog 32 #[.agg (u8s ks).toArray,.agg (u8s ls).toArray,.int .u8 255] w fun e w'=>e=.returned (.agg (u8s (ls.take 64++ks.drop 64)).toArray)∧Below w.heap.size w w':=by
 have hm:=Mem.start w
 have HZ:Hid ((u8s zeroK).length=64):=by show _=_;rw [ab];exact aL
 have HKL:Hid ((u8s ks).length=64):=by show _=_;rw [ab];exact hk
 have HLL:Hid ((u8s ls).length=64):=by show _=_;rw [ab];exact hl
 have HTL:Hid ((ls.take 64).length=64):=by show _=_;rw [List.length_take];omega
 obtain ⟨T,hT⟩:∃T,T=ls.take 64++ks.drop 64:=⟨_,rfl⟩
 have HSP:Hid (splice (u8s ks) 0 (u8s (ls.take 64))=u8s T):=by
  show _=_
  rw [hT]
  unfold splice u8s
  rw [List.length_map,HTL.out]
  simp
 have HTT:Hid ((u8s T).length=64):=by show _=_;rw [hT,ab,List.length_append,HTL.out,List.length_drop];omega
 rw [←hT]
 clear hk hl hT
 go_enter Tryz.func32,Tryz.ntmps32
 go_wp2_with (first
  | ((with_reducible refine aa (some 3) (.box 83 (.tmp 0)) ?_);refine aB (u8s ks) rfl hm ?_;clear hm;intro w1 g3 hm)
  | ((with_reducible refine aa (some 4) (.box 83 (.tmp 1)) ?_);refine aB (u8s ls) rfl hm ?_;clear hm;intro w2 g4 hm)
  | ((with_reducible refine aa (some 6) (.alloc 83) ?_);refine aj _ cz hm ?_;clear hm;intro w3 g6 hm))
 refine cG 4 (by kernel_rfl) (by kernel_rfl) hm ?_
 clear hm
 intro w4 hm
 simp only [List.take_succ_cons,List.take_zero,List.drop_succ_cons,List.drop_zero]
 still_step
 refine fN 64 cJ ev 0 64 (by omega) (by omega) rfl (Or.inr ⟨rfl,rfl⟩) (Or.inl (eq _ rfl rfl)) ?_
 still_step
 refine fN 64 cJ ev 0 64 (by omega) (by omega) rfl (Or.inr ⟨rfl,rfl⟩) (Or.inl (eq _ rfl rfl)) ?_
 refine wpStill_nil ?_
 go_wp2_with (first
  | ((with_reducible refine aa (some 17) (.call {callee:=.builtin .copy,args:=#[.tmp 14,.tmp 16],argTypes:=#[33,33]}) ?_);go_must (refine cU 2 0 64 64 ⟨g4,0,none⟩ 64 64 (u8s (ls.take 64)) 64 (u8s T) hm rfl rfl rfl _ un_bsD ev (by rw [ab];exact HTL.out) (Nat.min_self 64).symm (by exact ((Seg.row (hm.get 1 rfl)).take 64).src) (by rw [HKL.out];omega) (aq _) HSP.out ?_);clear hm;intro w5 hm)
  | ((with_reducible refine aa (some 18) (.load 83 (.tmp 3)) ?_);refine ay 2 hm rfl rfl _ cJ rfl 64 cb (HTT.out) ?_)
  | ((with_reducible refine aa none (.store 83 (.tmp 6) (.tmp 18)) ?_);refine ap 0 (u8s T) hm rfl rfl rfl 64 cb (HZ.out) (HTT.out) (aq _) ?_;clear hm;intro w6 hm))
 exact aJ 0 hm rfl Tryz.results32 rfl _ cJ rfl 64 cb HTT.out rfl ⟨rfl,hm.below⟩
theorem torn_part (ks ls:List Int) (c:Int) (m:Nat) (h255:c≠255) (hcm:0≤c∧c<256) (hm64:m<64) (hc:c % 64=(m:Int)) (hk:ks.length=64) (hl:ls.length=64) (w:World) :
  Calls Tryz.prog 32 #[.agg (u8s ks).toArray,.agg (u8s ls).toArray,.int .u8 c] w fun e w'=>e=.returned (.agg (u8s (ls.take m++ks.drop m)).toArray)∧Below w.heap.size w w':=by
 have hm:=Mem.start w
 have HZ:Hid ((u8s zeroK).length=64):=by show _=_;rw [ab];exact aL
 have HKL:Hid ((u8s ks).length=64):=by show _=_;rw [ab];exact hk
 have HLL:Hid ((u8s ls).length=64):=by show _=_;rw [ab];exact hl
 have HTL:Hid ((ls.take m).length=m):=by show _=_;rw [List.length_take];omega
 obtain ⟨T,hT⟩:∃T,T=ls.take m++ks.drop m:=⟨_,rfl⟩
 have HSP:Hid (splice (u8s ks) 0 (u8s (ls.take m))=u8s T):=by
  show _=_
  rw [hT]
  unfold splice u8s
  rw [List.length_map,HTL.out]
  simp
 have HTT:Hid ((u8s T).length=64):=by show _=_;rw [hT,ab,List.length_append,HTL.out,List.length_drop];omega
 rw [←hT]
 have hne:(c==255)=false:=by simpa using h255
 obtain ⟨hc0,hc1⟩:=hcm
 have HC:Hid (c % 64=((0+m:Nat):Int)):=by show _=_;rw [hc];simp
 clear hc
 clear hk hl hT
 go_enter Tryz.func32,Tryz.ntmps32
 go_wp2_with (first
  | ((with_reducible refine aa (some 3) (.box 83 (.tmp 0)) ?_);refine aB (u8s ks) rfl hm ?_;clear hm;intro w1 g3 hm)
  | ((with_reducible refine aa (some 4) (.box 83 (.tmp 1)) ?_);refine aB (u8s ls) rfl hm ?_;clear hm;intro w2 g4 hm)
  | ((with_reducible refine aa (some 6) (.alloc 83) ?_);refine aj _ cz hm ?_;clear hm;intro w3 g6 hm))
 refine cG 4 (by kernel_rfl) (by kernel_rfl) hm ?_
 clear hm
 intro w4 hm
 simp only [List.take_succ_cons,List.take_zero,List.drop_succ_cons,List.drop_zero]
 still_step
 refine fN 64 cJ ev 0 m (by omega) (by omega) rfl (Or.inr ⟨rfl,rfl⟩) (Or.inl (eq _ rfl HC.out)) ?_
 still_step
 refine fN 64 cJ ev 0 m (by omega) (by omega) rfl (Or.inr ⟨rfl,rfl⟩) (Or.inl (eq _ rfl HC.out)) ?_
 refine wpStill_nil ?_
 go_wp2_with (first
  | ((with_reducible refine aa (some 17) (.call {callee:=.builtin .copy,args:=#[.tmp 14,.tmp 16],argTypes:=#[33,33]}) ?_);go_must (refine cU 2 0 m 64 ⟨g4,0,none⟩ m 64 (u8s (ls.take m)) m (u8s T) hm rfl rfl rfl _ un_bsD ev (by rw [ab];exact HTL.out) (Nat.min_self m).symm (by exact ((Seg.row (hm.get 1 rfl)).take m).src) (by rw [HKL.out];omega) (aq _) HSP.out ?_);clear hm;intro w5 hm)
  | ((with_reducible refine aa (some 18) (.load 83 (.tmp 3)) ?_);refine ay 2 hm rfl rfl _ cJ rfl 64 cb (HTT.out) ?_)
  | ((with_reducible refine aa none (.store 83 (.tmp 6) (.tmp 18)) ?_);refine ap 0 (u8s T) hm rfl rfl rfl 64 cb (HZ.out) (HTT.out) (aq _) ?_;clear hm;intro w6 hm))
 exact aJ 0 hm rfl Tryz.results32 rfl _ cJ rfl 64 cb HTT.out rfl ⟨rfl,hm.below⟩
theorem torn_any (ks ls:List Int) (c:Int) (hc:0≤c∧c<256) (hk:ks.length=64) (hl:ls.length=64) (w:World) :
  Calls Tryz.prog 32 #[.agg (u8s ks).toArray,.agg (u8s ls).toArray,.int .u8 c] w fun e w'=>e=.returned (.agg (u8s (tornOf ks ls c)).toArray)∧Below w.heap.size w w':=by
 unfold tornOf spared
 by_cases h:c=255
 ·subst h
  rw [if_pos rfl]
  exact torn_whole ks ls hk hl w
 ·rw [if_neg h]
  exact torn_part ks ls c _ h hc (by omega) (by omega) hk hl w
end Go.Proofs.YtnllomcajijbjaaGreatDoor
namespace Go.Proofs.YtnllomcajijbjaaGreatDoor
open Go Go.RowKit Go.Maps
open Go.ChangeMaps Go.MapKept
section
variable {ops:Array Oper} {rest:List Oper} {a:Act} {w w0 w':World} {Q:Exit→Act→World→Prop} {dst:Option Tmp} {typ:TypeId} {pos:String} {aft:Array Edge} {gd:Option (Nat×Bool)} {S:List Nat} {rows:List (Nat×List Value×TypeId)} {g mb:Nat} {kv:Value} {d:Dk}
theorem DkAt.setKept {kb n cap:Nat} {tl:List Value} {ds:Nat→List Int} (hd:DkAt w g mb (.slice (some ⟨kb,0,none⟩) n cap) d) (hn:d.n=n) (h0:0<n) (hc:n≤cap) (hu:Upd kb w w') (hr:Row w' kb (u8s (flatK ds n)++tl) 83)
  (hl:∀i,i<n→(ds i).length=64) (hb:∀i,i<n→Bytes (ds i)):DkAt w' g mb (.slice (some ⟨kb,0,none⟩) n cap) {d with kept:=ds}:=by
 subst hn
 have hkb:kb∈kbOf (.slice (some ⟨kb,0,none⟩) d.n cap):=by simp [kbOf];omega
 have hne:=hd.ne_k kb hkb
 refine ⟨⟨hd.ok.n,hl,hb,hd.ok.pend⟩,hu.row hd.row (fun e=>hne.1 e.symm),⟨_,cap,rfl,hc,fun _=>⟨kb,tl,rfl,hr⟩⟩,?_⟩
 obtain ⟨q,D,ho,pm⟩:=hd.map
 have hlt:=ho.lt
 obtain ⟨es,c,hb,F,hs,hD⟩:=ho
 exact ⟨q,D,⟨es,c,by rw [hu.block mb hlt (fun e=>hne.2 e.symm)];exact hb,F,hs,hD⟩,pm⟩
theorem wpl_stK {x y:Operand} {kb n cap:Nat} (i:Nat) (l:List Int) (hd:DkAt w g mb (.slice (some ⟨kb,0,none⟩) n cap) d) (hn:d.n=n) (hi:i<n) (hx:a.eval x=.pointer (some ⟨kb,i * 64,none⟩)) (hy:a.eval y=.agg (u8s l).toArray) (hl:l.length=64) (hb:Bytes l)
  (h:∀w',DkAt w' g mb (.slice (some ⟨kb,0,none⟩) n cap) {d with kept:=upf d.kept i l}→Upd kb w w'→wpList Tryz.prog ops Q rest a w') :
  wpList Tryz.prog ops Q ({dst:=none,op:=.store 83 x y,type:=typ,pos:=pos,after:=aft,guard:=none}::rest) a w:=by
 obtain ⟨kb',cap',tl,he,hc,hr⟩:=hd.kept.some (by omega)
 simp only [Value.slice.injEq,Option.some.injEq,Addr.mk.injEq,and_true] at he
 obtain ⟨rfl,h1,rfl⟩:=he
 rw [hn] at hr hc
 have hkl:∀i,i<n→(d.kept i).length=64:=by rw [←hn];exact hd.ok.kept
 have hkb:∀i,i<n→Bytes (d.kept i):=by rw [←hn];exact hd.ok.keptB
 refine wpList_plain rfl fun K hK=>?_
 have hst:=eD (P:=Tryz.prog) w kb (i * 64) 83 83 _ (u8s l) hr (by rw [cb,ab,hl]) (by rw [ab,hl];exact kept_len tl hkl hi) (aq _)
 rw [kept_set tl l hkl hl hi] at hst
 have hu:=Upd.setRow kb w (u8s (flatK (upf d.kept i l) n)++tl).toArray
 have hd':=hd.setKept hn (by omega) hc hu (hr.setRow _) (fun j hj=>by
  by_cases he:j=i
  ·subst he;rw [bo];exact hl
  ·rw [aR _ _ he];exact hkl j hj) (fun j hj=>by
  by_cases he:j=i
  ·subst he;rw [bo];exact hb
  ·rw [aR _ _ he];exact hkb j hj)
 have hh:=hK _ _ (h _ hd' hu)
 unfold Oper.wp execOp
 simp only [hx,hy,Instr.storeAt,Instr.sureAddr,Sem.run_bind,Sem.run_pure,Result.andThen_ok,hst]
 exact hh
theorem DkAt.putRun (hd:DkAt w g mb kv d) (i:Nat) (l:List Int) (hi:i<d.n) (hl:l.length=64) (hb:Bytes l) :
  ∃w',(Instr.mapUpdate 51 (.map (some mb)) (.int .i64 (i:Int)) (.agg (u8s l).toArray)).run Tryz.prog w=.ok () w'∧DkAt w' g mb kv (d.put i l)∧Upd mb w w':=by
 obtain ⟨q,D,ho,pm⟩:=hd.map
 have hn:=hd.ok.n
 have hsz:=pm.size hd.ok ho
 have hrk:=d.rank_le d.n
 have ho':w.ownsMap Tryz.prog 3 rdV mb d.n D:=by
  obtain ⟨es,c,hb,F,hs,hD⟩:=ho
  refine ⟨es,c,hb,F,?_,hD⟩
  rw [hD] at hsz
  simp only [Maps.size,length_sorted,List.length_map] at hsz
  have:es.toList.length=es.size:=by simp
  omega
 obtain ⟨w',hr,ho2,hg⟩:=ho'.update cg gp (by unfold maxLen;omega) (dF i (by omega)) (d:=.held (.agg (u8s l).toArray)) (ps:=[]) (val:=.agg (u8s l).toArray) rfl
 have hu:Upd mb w w':=⟨hg.os,hg.tape,hg.output,hg.size,fun k hk hne=>hg.block k hk (by simpa using hne)⟩
 have hk:∀k∈foot g mb kv,k≠mb→w'.heap[k]?=w.heap[k]?:=fun k hk hne=>hu.block k (hd.lt k hk) hne
 refine ⟨w',hr,⟨Dk.put_ok hd.ok hi hl hb,?_,?_,⟨_,_,ho2,pm.put ho'.isMap i l⟩⟩,hu⟩
 ·exact hu.row hd.row hd.ne_gm
 ·exact hd.kept.keep (fun k hh=>hk k (by simp [foot,hh]) (hd.ne_k k hh).2)
theorem wpl_put {m x y:Operand} (i:Nat) (l:List Int) {ii:Int} (hd:DkAt w g mb kv d) (hi:i<d.n) (hl:l.length=64) (hb:Bytes l) (hm:a.eval m=.map (some mb)) (hx:a.eval x=.int .i64 ii) (hii:ii=(i:Int)) (hy:a.eval y=.agg (u8s l).toArray)
  (h:∀w',DkAt w' g mb kv (d.put i l)→Upd mb w w'→wpList Tryz.prog ops Q rest a w') :
  wpList Tryz.prog ops Q ({dst:=none,op:=.mapUpdate 51 m x y,type:=typ,pos:=pos,after:=aft,guard:=none}::rest) a w:=by
 subst hii
 obtain ⟨w',hr,hd',hu⟩:=hd.putRun i l hi hl hb
 refine wpList_plain rfl fun K hK=>?_
 have hh:=hK _ _ (h w' hd' hu)
 unfold Oper.wp execOp
 simp only [hm,hx,hy,hr,Sem.run_bind,Sem.run_pure,Result.andThen_ok]
 exact hh
theorem DkAt.clearRun (hd:DkAt w g mb kv d) (ty:TypeId) :
  ∃w',(Builtin.clear_ #[51] ty #[.map (some mb)]).run Tryz.prog w=.ok (.tuple #[]) w'∧DkAt w' g mb kv {d with pend:=fun _=>none}∧Upd mb w w':=by
 obtain ⟨es,c,hb⟩:=hd.isMap
 refine ⟨setBlock w mb (.map #[] c),?_,?_⟩
 ·have hso:(setObj mb (.map #[] c)).run Tryz.prog w=.ok () (setBlock w mb (.map #[] c)):=run_setObj_map _ hb
  simp [Builtin.clear_,run_underlying gp,MapKept.run_getObj_map hb,Result.andThen,hso]
 ·have hu:Upd mb w (setBlock w mb (.map #[] c)):=⟨rfl,rfl,rfl,by simp [setBlock],fun k _ hn=>heap_setBlock_other hb _ hn⟩
  have hk:∀k∈foot g mb kv,k≠mb→(setBlock w mb (.map #[] c)).heap[k]?=w.heap[k]?:=fun k hk hne=>hu.block k (hd.lt k hk) hne
  refine ⟨⟨⟨hd.ok.n,hd.ok.kept,hd.ok.keptB,fun _ _ h=>by cases h⟩,hu.row hd.row hd.ne_gm,hd.kept.keep (fun k hh=>hk k (by simp [foot,hh]) (hd.ne_k k hh).2),⟨0,.map [],⟨#[],c,heap_setBlock_same hb _,⟨by simp,stamped_empty c,by simp⟩,Nat.le_refl _,rfl⟩,PM.none⟩⟩,hu⟩
theorem wpl_clear {m:Operand} (hd:DkAt w g mb kv d) (hm:a.eval m=.map (some mb))
  (h:∀w',DkAt w' g mb kv {d with pend:=fun _=>none}→Upd mb w w'→wpList Tryz.prog ops Q rest (a.put dst (.tuple #[])) w') :
  wpList Tryz.prog ops Q ({dst:=dst,op:=.call {callee:=.builtin .clear,args:=#[m],argTypes:=#[51]},type:=typ,pos:=pos,after:=aft,guard:=none}::rest) a w:=by
 obtain ⟨w',hr,hd',hu⟩:=hd.clearRun typ
 refine wpList_plain rfl fun K hK=>?_
 have hh:=hK _ _ (h w' hd' hu)
 unfold Oper.wp execOp
 simp only [resolve,invoke,builtin,Sem.run_bind,Sem.run_pure,Result.andThen_ok,List.map_toArray,List.map_cons,List.map_nil,hm,hr]
 exact hh
theorem gY {t:TypeId} (hm:Mem w0 S w rows)
  (h:∀w' b,Mem w0 S w' rows→w'.heap[b]?=some (.map #[] 0)→w.heap.size≤b→wpList Tryz.prog ops Q rest (a.put dst (.map (some b))) w') :
  wpList Tryz.prog ops Q ({dst:=dst,op:=.makeMap t none,type:=typ,pos:=pos,after:=aft,guard:=none}::rest) a w:=by
 refine wpList_plain rfl fun K hK=>?_
 have hh:=hK _ _ (h _ _ (hm.allocO (.map #[] 0)) (heap_alloc_new w _) (Nat.le_refl _))
 unfold Oper.wp execOp
 simp [Instr.makeMap,newObj]
 exact hh
theorem fk {ty:TypeId} {x:Operand} (l:List Value) (hx:a.eval x=.agg l.toArray) (hm:Mem w0 S w rows)
  (h:∀w' g,Below w.heap.size w w'→Mem w0 S w' ((g,l,ty)::rows)→wpList Tryz.prog ops Q rest (a.put dst (.pointer (some ⟨g,0,none⟩))) w') :
  wpList Tryz.prog ops Q ({dst:=dst,op:=.box ty x,type:=typ,pos:=pos,after:=aft,guard:=none}::rest) a w:=by
 refine wpList_plain rfl fun K hK=>?_
 have hh:=hK _ _ (h _ _ ((Below.refl _ _).alloc (Nat.le_refl _) _) (hm.alloc l ty))
 unfold Oper.wp execOp
 simp [Instr.box,newVar,newRow,newObj,hx,Value.cells]
 exact hh
theorem made_rows (n:Nat):madeCells (u8s zeroK).toArray (n * 64)=(u8s (flatK (fun _=>zeroK) n)).toArray:=by
 have hall:∀k,k<n * 64→(u8s (flatK (fun _=>zeroK) n))[k]?=some (.int .u8 0):=by
  intro k hk
  have hl:=bX (fun _=>zeroK) n (fun _ _=>aL)
  rw [cP _ _ (by omega)]
  congr 2
  have:∀m,∀x∈flatK (fun _=>zeroK) m,x=0:=by
   intro m
   induction m with
   | zero=>intro x hx;cases hx
   | succ m ih =>
    intro x hx
    rw [flatK,List.mem_append] at hx
    rcases hx with hx|hx
    ·exact ih x hx
    ·exact List.eq_of_mem_replicate hx
  rw [List.getD_eq_getElem?_getD]
  cases hq:(flatK (fun _=>zeroK) n)[k]? with
  | none=>rfl
  | some x=>exact this n x (List.mem_of_getElem? hq)
 have hl:=bX (fun _=>zeroK) n (fun _ _=>aL)
 apply Array.ext
 ·rw [size_madeCells,List.size_toArray,ab,hl]
 ·intro k h1 h2
  rw [size_madeCells] at h1
  have hz:∀j,j<64→(u8s zeroK).toArray[j]! = .int .u8 0:=by
   intro j hj
   have:(u8s zeroK)[j]?=some (.int .u8 0):=by
    rw [cP _ _ (by rw [aL];exact hj)]
    congr 2
    rw [zeroK,List.getD_eq_getElem?_getD,List.getElem?_replicate,if_pos hj]
    rfl
   simp [this]
  have h3:=hall k h1
  have h4:(u8s (flatK (fun _=>zeroK) n)).toArray[k]=.int .u8 0:=by
   have:=List.getElem?_eq_some_iff.1 h3
   simpa using this.2
  rw [h4]
  have hsz:(u8s zeroK).toArray.size=64:=by simp [ab,aL]
  have h5:=hz _ (Nat.mod_lt k (by omega:0<64))
  simp only [madeCells,Array.getElem_map,Array.getElem_range,hsz]
  exact h5
theorem fY {x y:Operand} (n:Nat) {i j:Int} (hx:a.eval x=.int .i64 i) (hxi:i=(n:Int)) (hy:a.eval y=.int .i64 j) (hyj:j=(n:Int)) (hn:n≤4000) (hm:Mem w0 S w rows)
  (h:∀w' kb,Mem w0 S w' ((kb,u8s (flatK (fun _=>zeroK) n),83)::rows)→wpList Tryz.prog ops Q rest (a.put dst (.slice (some ⟨kb,0,none⟩) n n)) w') :
  wpList Tryz.prog ops Q ({dst:=dst,op:=.makeSlice 50 x y,type:=typ,pos:=pos,after:=aft,guard:=none}::rest) a w:=by
 subst hxi hyj
 refine wpList_plain rfl fun K hK=>?_
 have hh:=hK _ _ (h _ _ (hm.alloc (u8s (flatK (fun _=>zeroK) n)) 83))
 have hr:(Instr.makeSlice 50 (.int .i64 (n:Int)) (.int .i64 (n:Int))).run Tryz.prog w=.ok (.slice (some ⟨w.heap.size,0,none⟩) n n) (w.alloc (.cells (u8s (flatK (fun _=>zeroK) n)).toArray 83)):=by
  have hi:=made_con
  cases hq:Tryz.prog.info? 83 with
  | none=>simp [hq] at hi
  | some q =>
   simp only [hq,Option.map_some,Option.some.injEq,Prod.mk.injEq] at hi
   obtain ⟨h0,h1,h2⟩:=hi
   have:=run_makeSlice (P:=Tryz.prog) w 50 83 q _ un_cons hq h0 .i64 .i64 (n:Int) (n:Int) (by omega) (by omega) (by rw [h1];simp;omega) (by rw [h2];simp;omega) (by omega)
   rw [this,h1]
   have e:madeCells (Value.agg (u8s zeroK).toArray).cells ((n:Int).toNat * 64)=(u8s (flatK (fun _=>zeroK) n)).toArray:=made_rows n
   rw [e]
   simp
 unfold Oper.wp execOp
 simp only [hx,hy,Sem.run_bind,Sem.run_pure,Result.andThen_ok,hr]
 exact hh
end
theorem fF {W:World} {m:Nat} (h:W.heap[m]?=some (.map #[] 0)):W.ownsMap Tryz.prog 3 rdV m 0 (.map []):=⟨#[],0,h,⟨by simp,stamped_empty 0,by simp⟩,Nat.le_refl _,rfl⟩
end Go.Proofs.YtnllomcajijbjaaGreatDoor
