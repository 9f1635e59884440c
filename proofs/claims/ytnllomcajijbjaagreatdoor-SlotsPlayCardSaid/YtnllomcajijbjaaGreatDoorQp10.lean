import Derived.Test.YtnllomcajijbjaaGreatDoorQp01
import Derived.Test.YtnllomcajijbjaaGreatDoorQp09
import Derived.Maps.OwnSet
import Derived.Maps.OwnOps
set_option maxRecDepth 100000
set_option maxHeartbeats 4000000
namespace Go.Proofs.YtnllomcajijbjaaGreatDoor
open Go Go.RowKit Go.Maps
def be2 (n:Int):List Int:=[n / 256 % 256,n % 256]
theorem jb (n:Int):(be2 n).length=2:=rfl
theorem be2_bytes (n:Int):Bytes (be2 n):=by
 intro x hx
 simp only [be2,List.mem_cons,List.not_mem_nil,or_false] at hx
 omega
def numL (l:List Int):Int:=l.foldl (fun n c=>n * 256+c) 0
theorem numL_snoc (l:List Int) (c:Int):numL (l++[c])=numL l * 256+c:=by simp [numL]
theorem hZ {l:List Int} (h:Bytes l):0≤numL l:=by
 have:∀(l:List Int) (n:Int),Bytes l→0≤n→0≤l.foldl (fun n c=>n * 256+c) n:=by
  intro l
  induction l with
  | nil=>intro n _ hn;exact hn
  | cons x l ih =>
   intro n hb hn
   have hx:=hb x (List.mem_cons_self ..)
   exact ih _ (fun y hy=>hb y (List.mem_cons_of_mem _ hy)) (by show 0≤n * 256+x;omega)
 exact this l 0 h (Int.le_refl _)
theorem numL_lt {l:List Int} (h:Bytes l):numL l<256 ^ l.length:=by
 have:∀(l:List Int) (n:Int) (k:Nat),Bytes l→n+1≤256 ^ k→l.foldl (fun n c=>n * 256+c) n+1≤256 ^ (k+l.length):=by
  intro l
  induction l with
  | nil=>intro n k _ hn;simpa using hn
  | cons x l ih =>
   intro n k hb hn
   have hx:=hb x (List.mem_cons_self ..)
   have e:k+(x::l).length=(k+1)+l.length:=by simp;omega
   rw [e]
   refine ih _ _ (fun y hy=>hb y (List.mem_cons_of_mem _ hy)) ?_
   show n * 256+x+1≤_
   rw [Int.pow_succ]
   omega
 have h2:=this l 0 0 h (by decide)
 rw [Nat.zero_add] at h2
 unfold numL
 omega
theorem i4 {g:Int} (h:0≤g∧g<18446744073709551616):numL (be8 g)=g:=by
 simp only [numL,be8,List.foldl_cons,List.foldl_nil]
 omega
def labSlots:List Int:=[115,108,111,116,115]
theorem i5:Bytes labSlots:=by unfold Bytes labSlots;decide
def chkOf (a:Nat) (n:Int):List Int:=(macOf labSlots (be8 n++be2 (a:Int))).take 8
def mkOf (a:Nat) (n:Int):List Int:=be8 n++chkOf a n
theorem chkOf_length (a:Nat) (n:Int):(chkOf a n).length=8:=by simp [chkOf,bw]
theorem bh (a:Nat) (n:Int):(mkOf a n).length=16:=by simp [mkOf,chkOf_length,bx]
theorem iY (a:Nat) (n:Int):Bytes (mkOf a n):=(dP n).append ((en _ _).take 8)
theorem gR (a:Nat) (n:Int):(mkOf a n).take 8=be8 n:=by
 rw [mkOf,List.take_append_of_le_length (by simp [bx]),List.take_of_length_le (by simp [bx])]
def numOk (a:Nat) (m:List Int):Bool:=decide (0<numL (m.take 8))&&decide (m=mkOf a (numL (m.take 8)))
def numOf (a:Nat) (m:List Int):Option Nat:=if numOk a m=true then some (numL (m.take 8)).toNat else none
theorem numOf_some {a n:Nat} {m:List Int} (h:numOf a m=some n):0<n∧m=mkOf a (n:Int):=by
 unfold numOf at h
 split at h
 ·rename_i hh
  simp only [numOk,Bool.and_eq_true,decide_eq_true_eq] at hh
  simp only [Option.some.injEq] at h
  have e:(n:Int)=numL (m.take 8):=by omega
  rw [e]
  exact ⟨by omega,hh.2⟩
 ·cases h
theorem numOf_mk (a n:Nat) (h:0<n) (hn:n<18446744073709551616):numOf a (mkOf a (n:Int))=some n:=by
 have e:numL ((mkOf a (n:Int)).take 8)=(n:Int):=by rw [gR,i4 (by omega)]
 unfold numOf numOk
 rw [e]
 simp
 omega
theorem de (a:Nat) {m:List Int} (h:m.take 8=List.replicate 8 0):numOf a m=none:=by
 unfold numOf numOk
 rw [h,show numL (List.replicate 8 0)=0 from by decide]
 simp
theorem hU {a n:Nat} {m:List Int} (h:numOf a m=some n):(n:Int)=numL (m.take 8):=by
 unfold numOf at h
 split at h
 ·rename_i hh
  simp only [numOk,Bool.and_eq_true,decide_eq_true_eq] at hh
  simp only [Option.some.injEq] at h
  omega
 ·cases h
theorem fL {n:Nat} (h:n<256):be8 (n:Int)=List.replicate 7 0++[(n:Int)]:=by
 simp only [be8,List.replicate,List.cons_append,List.nil_append,List.cons.injEq,and_true]
 omega
abbrev Ent:=Nat×List Int
def unC:Option Ent→List Int
 | none=>zeroK
 | some x=>x.2++List.replicate 16 0
def mkC (i:Nat) (x:Ent):List Int:=x.2++mkOf (2+i) (x.1:Int)
def slC (i:Nat):Option Ent→List Int
 | none=>zeroK
 | some x=>mkC i x
def entOf (i:Nat) (c:List Int):Option Ent:=(numOf (2+i) (c.drop 48)).map fun n=>(n,c.take 48)
def cntC (p:Nat):List Int:=mkOf (p % 2) (p:Int)++List.replicate 48 0
structure EntOk (x:Ent):Prop where
 lo:0<x.1
 hi:x.1≤200
 len:x.2.length=48
 bytes:Bytes x.2
theorem ji {x:Option Ent} (h:∀y,x=some y→EntOk y):(unC x).length=64:=by
 cases x with
 | none=>exact aL
 | some y=>simp [unC,(h y rfl).len]
theorem unC_bytes {x:Option Ent} (h:∀y,x=some y→EntOk y):Bytes (unC x):=by
 cases x with
 | none=>exact ce
 | some y=>exact (h y rfl).bytes.append (Bytes.zeros 16)
theorem gf {i:Nat} {x:Ent} (h:x.2.length=48):(mkC i x).length=64:=by simp [mkC,h,bh]
theorem mkC_bytes {i:Nat} {x:Ent} (h:Bytes x.2):Bytes (mkC i x):=h.append (iY _ _)
theorem ei (p:Nat):(cntC p).length=64:=by simp [cntC,bh]
theorem cntC_bytes (p:Nat):Bytes (cntC p):=(iY _ _).append (Bytes.zeros 48)
theorem eP (k:Nat):zeroK.drop k=List.replicate (64 - k) 0:=by rw [zeroK,List.drop_replicate]
theorem eQ (i:Nat):entOf i zeroK=none:=by
 unfold entOf
 rw [de _ (by rw [eP];rfl)]
 rfl
theorem dg (i:Nat) {c:List Int} (h:(c.drop 48).take 8=List.replicate 8 0):entOf i c=none:=by
 unfold entOf
 rw [de _ h]
 rfl
theorem entOf_un (i:Nat) {x:Option Ent} (h:∀y,x=some y→EntOk y):entOf i (unC x)=none:=by
 cases x with
 | none=>exact eQ i
 | some y =>
  refine dg i ?_
  have hl:=(h y rfl).len
  rw [unC,List.drop_append_of_le_length (by omega),List.drop_of_length_le (by omega)]
  rfl
theorem entOf_mk (i:Nat) {x:Ent} (h:EntOk x):entOf i (mkC i x)=some x:=by
 have hl:=h.len
 have h1:(mkC i x).drop 48=mkOf (2+i) (x.1:Int):=by rw [mkC,List.drop_append_of_le_length (by omega),List.drop_of_length_le (by omega),List.nil_append]
 have h2:(mkC i x).take 48=x.2:=by rw [mkC,List.take_append_of_le_length (by omega),List.take_of_length_le (by omega)]
 unfold entOf
 rw [h1,h2,numOf_mk _ _ h.lo (by have:=h.hi;omega)]
 rfl
theorem fq (i:Nat) {x:Option Ent} (h:∀y,x=some y→EntOk y):entOf i (slC i x)=x:=by
 cases x with
 | none=>exact eQ i
 | some y=>exact entOf_mk i (h y rfl)
/-- What has a mark is what its entry stands as. -/
theorem f0 {i:Nat} {c:List Int} {x:Ent} (h:entOf i c=some x):c=slC i (some x)∧0<x.1∧x.2=c.take 48∧numOf (2+i) (c.drop 48)=some x.1:=by
 unfold entOf at h
 cases hn:numOf (2+i) (c.drop 48) with
 | none=>rw [hn] at h;cases h
 | some n =>
  rw [hn] at h
  simp only [Option.map_some,Option.some.injEq] at h
  subst h
  obtain ⟨h1,h2⟩:=numOf_some hn
  refine ⟨?_,h1,rfl,rfl⟩
  show c=c.take 48++mkOf (2+i) (n:Int)
  rw [←h2,List.take_append_drop]
theorem gx (k l:List Int) (c:Int):tornOf k l c=l.take (spared c)++k.drop (spared c):=rfl
theorem fP {k l:List Int} {c:Int} {m:Nat} (hl:l.length=64) (h:m≤spared c):(tornOf k l c).drop m=(l.drop m).take (spared c - m)++k.drop (spared c):=by
 have:=dO c
 rw [gx,List.drop_append_of_le_length (by rw [List.length_take];omega),List.drop_take]
theorem fb {k l:List Int} {c:Int} {m:Nat} (hl:l.length=64) (h:spared c≤m):(tornOf k l c).drop m=k.drop m:=by
 have:=dO c
 rw [gx,List.drop_append,List.drop_of_length_le (by rw [List.length_take];omega),List.nil_append,List.drop_drop,List.length_take]
 congr 1
 omega
theorem gJ {k l:List Int} {c:Int} {m:Nat} (hl:l.length=64) (h:m≤spared c):(tornOf k l c).take m=l.take m:=by
 have:=dO c
 rw [gx,List.take_append_of_le_length (by rw [List.length_take];omega),List.take_take,Nat.min_eq_left h]
theorem fA (k:List Int) (c:Int):tornOf k k c=k:=by rw [gx,List.take_append_drop]
theorem je {k l:List Int} {c:Int} {m:Nat} (h:l.take m=k.take m) (hs:spared c≤m):tornOf k l c=k:=by
 rw [gx,show l.take (spared c)=k.take (spared c) by
  have:=congrArg (List.take (spared c)) h
  rwa [List.take_take,List.take_take,Nat.min_eq_left hs] at this,List.take_append_drop]
/-- A mark that goes: the entry is there still, or none is. -/
theorem torn_un (i:Nat) (x:Option Ent) (c:Int) (h:∀y,x=some y→EntOk y):entOf i (tornOf (slC i x) (unC x) c)=x∨entOf i (tornOf (slC i x) (unC x) c)=none:=by
 cases x with
 | none =>
  rw [show slC i (none:Option Ent)=unC none from rfl,fA]
  exact Or.inl (eQ i)
 | some y =>
  have hy:=h y rfl
  have hl:=hy.len
  by_cases hs:spared c≤55
  ·left
   rw [je (m:=55) ?_ hs]
   ·exact entOf_mk i hy
   ·have e:(x:List Int)→(y.2++x).take 55=y.2++x.take 7:=fun x=>by rw [List.take_append,List.take_of_length_le (by omega),hl]
    show (y.2++_).take 55=(y.2++mkOf _ _).take 55
    rw [e,e]
    congr 1
    rw [mkOf,fL (by have:=hy.hi;omega),List.append_assoc]
    rfl
  ·right
   refine dg i ?_
   rw [fP (ji h) (by omega)]
   have e:(unC (some y)).drop 48=List.replicate 16 0:=by
    rw [unC,List.drop_append_of_le_length (by omega),List.drop_of_length_le (by omega),List.nil_append]
   rw [e,List.take_replicate,List.take_append_of_le_length (by rw [List.length_replicate];omega),List.take_replicate]
   congr 1
   omega
/-- A mark that comes: the entry is there, or none is. -/
theorem torn_mk (i:Nat) (x:Option Ent) (y:Ent) (c:Int) (h:∀z,x=some z→EntOk z) (hy:EntOk y):entOf i (tornOf (unC x) (mkC i y) c)=some y∨entOf i (tornOf (unC x) (mkC i y) c)=none:=by
 have hl:=hy.len
 have hml:(mkC i y).length=64:=gf hl
 have hud:(unC x).drop 48=List.replicate 16 0:=by
  cases x with
  | none=>rw [unC,eP]
  | some z =>
   have:=(h z rfl).len
   rw [unC,List.drop_append_of_le_length (by omega),List.drop_of_length_le (by omega),List.nil_append]
 have hmd:(mkC i y).drop 48=mkOf (2+i) (y.1:Int):=by rw [mkC,List.drop_append_of_le_length (by omega),List.drop_of_length_le (by omega),List.nil_append]
 by_cases hs:spared c≤55
 ·right
  refine dg i ?_
  by_cases hs2:spared c≤48
  ·rw [fb hml hs2,hud]
   rfl
  ·have e0:(mkOf (2+i) (y.1:Int)).take (spared c - 48)=List.replicate (spared c - 48) 0:=by
    rw [mkOf,fL (by have:=hy.hi;omega),List.append_assoc,List.take_append_of_le_length (by rw [List.length_replicate];omega),List.take_replicate,Nat.min_eq_left (by omega)]
   rw [fP hml (by omega),hmd,e0]
   have e:(unC x).drop (spared c)=List.replicate (64 - spared c) 0:=by
    have e2:(unC x).drop (spared c)=((unC x).drop 48).drop (spared c - 48):=by rw [List.drop_drop];congr 1;omega
    rw [e2,hud,List.drop_replicate]
    congr 1
    omega
   rw [e,List.replicate_append_replicate,List.take_replicate]
   congr 1
   omega
 ·cases he:entOf i (tornOf (unC x) (mkC i y) c) with
  | none=>exact Or.inr rfl
  | some z =>
   left
   obtain ⟨h1,h2,h3,h4⟩:=f0 he
   have h5:=hU h4
   have e1:((tornOf (unC x) (mkC i y) c).drop 48).take 8=be8 (y.1:Int):=by
    rw [fP hml (by omega),hmd,List.take_append_of_le_length (by rw [List.length_take,bh];omega),List.take_take,Nat.min_eq_left (by omega),gR]
   rw [e1,i4 (by have:=hy.hi;omega)] at h5
   have e2:(tornOf (unC x) (mkC i y) c).take 48=y.2:=by
    rw [gJ hml (by omega),mkC,List.take_append_of_le_length (by omega),List.take_of_length_le (by omega)]
   rw [e2] at h3
   have e3:z=y:=Prod.ext (by omega) h3
   rw [e3]
/-- Noughts over what has no mark. -/
theorem torn_zero (i:Nat) (x:Option Ent) (c:Int) (h:∀z,x=some z→EntOk z):entOf i (tornOf (unC x) zeroK c)=none:=by
 refine dg i ?_
 have hud:(unC x).drop 48=List.replicate 16 0:=by
  cases x with
  | none=>rw [unC,eP]
  | some z =>
   have:=(h z rfl).len
   rw [unC,List.drop_append_of_le_length (by omega),List.drop_of_length_le (by omega),List.nil_append]
 by_cases hs2:spared c≤48
 ·rw [fb aL hs2,hud]
  rfl
 ·rw [fP aL (by omega),eP,List.take_replicate]
  have e:(unC x).drop (spared c)=List.replicate (64 - spared c) 0:=by
   have e2:(unC x).drop (spared c)=((unC x).drop 48).drop (spared c - 48):=by rw [List.drop_drop];congr 1;omega
   have:=dO c
   rw [e2,hud,List.drop_replicate]
   congr 1
   omega
  have:=dO c
  rw [e,List.replicate_append_replicate,List.take_replicate]
  congr 1
  omega
/-- A count over another sector's bytes: the elder one, the newer one, or none. -/
theorem torn_cnt (p:Nat) (X:List Int) (c:Int) (hp:p<256) (hX:X.take 7=List.replicate 7 0) :
  (tornOf X (cntC p) c).take 7=List.replicate 7 0∧(numOf (p % 2) ((tornOf X (cntC p) c).take 16)=numOf (p % 2) (X.take 16)∨numOf (p % 2) ((tornOf X (cntC p) c).take 16)=none∨numOf (p % 2) ((tornOf X (cntC p) c).take 16)=some p):=by
 have h7:(cntC p).take 7=List.replicate 7 0:=by
  rw [cntC,mkOf,fL hp]
  rfl
 by_cases hs:spared c≤7
 ·rw [je (m:=7) (h7.trans hX.symm) hs]
  exact ⟨hX,Or.inl rfl⟩
 ·refine ⟨by rw [gJ (ei p) (by omega),h7],Or.inr ?_⟩
  cases he:numOf (p % 2) ((tornOf X (cntC p) c).take 16) with
  | none=>exact Or.inl rfl
  | some n =>
   right
   have h5:=hU he
   rw [List.take_take,show min 8 16=8 from rfl,gJ (ei p) (by omega),cntC,List.take_append_of_le_length (by rw [bh];omega),gR,i4 (by omega)] at h5
   have:n=p:=by omega
   rw [this]
theorem cntC_take (p:Nat):(cntC p).take 16=mkOf (p % 2) (p:Int):=by
 rw [cntC,List.take_append_of_le_length (by rw [bh];omega),List.take_of_length_le (by rw [bh];omega)]
theorem iZ (p:Nat) (h:0<p) (h2:p<18446744073709551616):numOf (p % 2) ((cntC p).take 16)=some p:=by rw [cntC_take,numOf_mk _ _ h h2]
theorem cntC_7 (p:Nat) (hp:p<256):(cntC p).take 7=List.replicate 7 0:=by
 rw [cntC,mkOf,fL hp]
 rfl
structure Slt where
 held:Nat→Option Ent
 puts:Nat
 dead:Bool
def cntOf (d:Dk):Nat:=max ((numOf 0 ((d.now 0).take 16)).getD 0) ((numOf 1 ((d.now 1).take 16)).getD 0)
def loadS (d:Dk):Slt:=⟨fun i=>if i<24 then entOf i (d.now (2+i)) else none,cntOf d,false⟩
def leftAt (d:Dk) (i:Nat):Bool:=(entOf i (d.now (2+i))).isNone&&decide (0<cntOf d)&&decide (d.now (2+i)≠zeroK)
def leftP (d:Dk) (m:Nat):Nat→Option (List Int):=fun s=>if 2≤s∧s<2+m∧leftAt d (s - 2)=true then some zeroK else none
def wrs (d:Dk):List (Nat×List Int)→Dk×Bool
 | []=>(d,true)
 | x::l=>if d.step.off=true then (d.step,false) else wrs (d.step.put x.1 x.2) l
def phs (d:Dk) (l:List (Nat×List Int)):Dk×Bool :=
 if (wrs d l).2=true then (if (wrs d l).1.step.off=true then ((wrs d l).1.step,false) else ((wrs d l).1.step.flushed,true)) else wrs d l
def kps (d:Dk):List (List (Nat×List Int))→Dk×Bool
 | []=>(d,true)
 | l::ls=>if (phs d l).2=true then kps (phs d l).1 ls else phs d l
def pensP (p:Nat→Option (List Int)) (n:Nat):List Nat:=(List.range n).filter fun j=>(p j).isSome
def phL (p:Nat→Option (List Int)) (n:Nat):List (Nat×List Int):=(pensP p n).map fun i=>(i,(p i).getD [])
theorem eF (p:Nat→Option (List Int)) (n i:Nat):i∈pensP p n↔(i<n∧(p i).isSome=true):=by simp [pensP]
theorem pensP_nodup (p:Nat→Option (List Int)) (n:Nat):(pensP p n).Nodup:=List.Nodup.sublist List.filter_sublist List.nodup_range
theorem eT (p:Nat→Option (List Int)) (n:Nat):(pensP p n).length≤n:=by
 unfold pensP
 exact Nat.le_trans (List.length_filter_le _ _) (by simp)
theorem phL_mem {p:Nat→Option (List Int)} {n:Nat} {x:Nat×List Int} (h:x∈phL p n):x.1<n∧p x.1=some x.2:=by
 obtain ⟨i,hi,rfl⟩:=List.mem_map.1 h
 have hm:=(eF p n i).1 hi
 obtain ⟨l,hl⟩:=Option.isSome_iff_exists.1 hm.2
 simp [hl,hm.1]
theorem phL_keys (p:Nat→Option (List Int)) (n:Nat):(phL p n).map Prod.fst=pensP p n:=by simp [phL,Function.comp_def]
structure Put (d:Dk) (l:List (Nat×List Int)) (d':Dk):Prop where
 n:d'.n=d.n
 kept:d'.kept=d.kept
 some:∀x∈l,d'.pend x.1=some x.2
 none:∀s,s ∉ l.map Prod.fst→d'.pend s=d.pend s
structure Cut (d:Dk) (l:List (Nat×List Int)) (d':Dk):Prop where
 n:d'.n=d.n
 kept:d'.kept=d.kept
 pend:∀s,d'.pend s=d.pend s∨∃c,(s,c)∈l∧d'.pend s=some c
theorem wrs_spec:∀(l:List (Nat×List Int)) (d:Dk),(l.map Prod.fst).Nodup→(((wrs d l).2=true→Put d l (wrs d l).1)∧((wrs d l).2=false→Cut d l (wrs d l).1))
 | [],d,_=>⟨fun _=>⟨rfl,rfl,fun x hx=>(by cases hx),fun _ _=>rfl⟩,fun h=>by simp [wrs] at h⟩
 | x::l,d,hn=>by
  rw [List.map_cons,List.nodup_cons] at hn
  have ih:=wrs_spec l (d.step.put x.1 x.2) hn.2
  unfold wrs
  by_cases ho:d.step.off=true
  ·rw [if_pos ho]
   exact ⟨fun h=>by simp at h,fun _=>⟨rfl,rfl,fun s=>Or.inl rfl⟩⟩
  ·rw [if_neg ho]
   refine ⟨fun h=>?_,fun h=>?_⟩
   ·have hp:=ih.1 h
    refine ⟨hp.n,hp.kept,fun y hy=>?_,fun s hs=>?_⟩
    ·rcases List.mem_cons.1 hy with rfl|hy
     ·rw [hp.none _ hn.1]
      simp [Dk.put,upf]
     ·exact hp.some y hy
    ·rw [List.map_cons,List.mem_cons,not_or] at hs
     rw [hp.none s hs.2]
     simp [Dk.put,upf,hs.1,Dk.step]
   ·have hc:=ih.2 h
    refine ⟨hc.n,hc.kept,fun s=>?_⟩
    rcases hc.pend s with h1|⟨c,h1,h2⟩
    ·by_cases he:s=x.1
     ·right
      refine ⟨x.2,by rw [he];exact List.mem_cons_self ..,?_⟩
      rw [h1,he]
      simp [Dk.put,upf]
     ·left
      rw [h1]
      simp [Dk.put,upf,he,Dk.step]
    ·exact Or.inr ⟨c,List.mem_cons_of_mem _ h1,h2⟩
structure Kept (d:Dk) (l:List (Nat×List Int)) (d':Dk):Prop where
 n:d'.n=d.n
 pend:∀s,d'.pend s=none
 some:∀x∈l,d'.kept x.1=x.2
 none:∀s,s ∉ l.map Prod.fst→d'.kept s=d.now s
theorem di (d:Dk) (l:List (Nat×List Int)) (hn:(l.map Prod.fst).Nodup):((phs d l).2=true→Kept d l (phs d l).1)∧((phs d l).2=false→∃m,(Cut d l m∨Put d l m)∧m.kept=(phs d l).1.kept∧m.pend=(phs d l).1.pend∧m.n=(phs d l).1.n):=by
 have h:=wrs_spec l d hn
 unfold phs
 by_cases hw:(wrs d l).2=true
 ·rw [if_pos hw]
  have hp:=h.1 hw
  by_cases ho:(wrs d l).1.step.off=true
  ·rw [if_pos ho]
   exact ⟨fun h=>by simp at h,fun _=>⟨_,Or.inr hp,rfl,rfl,rfl⟩⟩
  ·rw [if_neg ho]
   refine ⟨fun _=>⟨hp.n,fun _=>rfl,fun x hx=>?_,fun s hs=>?_⟩,fun h=>by simp at h⟩
   ·show (wrs d l).1.now x.1=x.2
    simp [Dk.now,hp.some x hx]
   ·show (wrs d l).1.now s=d.now s
    simp [Dk.now,hp.none s hs,hp.kept]
 ·rw [if_neg hw]
  have hw2:(wrs d l).2=false:=by simpa using hw
  exact ⟨fun h=>absurd h hw,fun _=>⟨_,Or.inl (h.2 hw2),rfl,rfl,rfl⟩⟩
structure Dk.Nm (d:Dk) (k:Nat):Prop where
 s0:0≤d.steps
 s1:d.steps≤(k:Int)
 l0:0≤d.left
 l1:d.left≤1000
theorem Dk.Nm.num {d:Dk} {k:Nat} (h:d.Nm k) (hk:k≤100000000):d.Num:=by
 obtain ⟨h1,h2,h3,h4⟩:=h
 exact ⟨⟨h1,by omega⟩,⟨h3,by omega⟩⟩
theorem Dk.Nm.step {d:Dk} {k:Nat} (h:d.Nm k):d.step.Nm (k+1):=by
 obtain ⟨h1,h2,h3,h4⟩:=h
 refine ⟨by simp [Dk.step];omega,by simp [Dk.step];omega,?_,?_⟩<;>(simp only [Dk.step];split<;>omega)
theorem Dk.Nm.mono {d:Dk} {k m:Nat} (h:d.Nm k) (hk:k≤m):d.Nm m:=⟨h.s0,by have:=h.s1;omega,h.l0,h.l1⟩
theorem wrs_nm:∀(l:List (Nat×List Int)) (d:Dk) (k:Nat),d.Nm k→(wrs d l).1.Nm (k+l.length)
 | [],d,k,h=>h
 | x::l,d,k,h=>by
  unfold wrs
  by_cases ho:d.step.off=true
  ·rw [if_pos ho]
   exact h.step.mono (by simp)
  ·rw [if_neg ho]
   exact (wrs_nm l (d.step.put x.1 x.2) (k+1) ⟨h.step.s0,h.step.s1,h.step.l0,h.step.l1⟩).mono (by simp;omega)
theorem phs_nm (l:List (Nat×List Int)) (d:Dk) (k:Nat) (h:d.Nm k):(phs d l).1.Nm (k+l.length+1):=by
 have h2:=wrs_nm l d k h
 unfold phs
 by_cases hw:(wrs d l).2=true
 ·rw [if_pos hw]
  by_cases ho:(wrs d l).1.step.off=true
  ·rw [if_pos ho]
   exact h2.step
  ·rw [if_neg ho]
   exact ⟨h2.step.s0,h2.step.s1,h2.step.l0,h2.step.l1⟩
 ·rw [if_neg hw]
  exact h2.mono (by omega)
theorem wrs_calm:∀(l:List (Nat×List Int)) (d:Dk),d.left=0→d.off=false→(wrs d l).2=true∧(wrs d l).1.left=0∧(wrs d l).1.off=false
 | [],d,h1,h2=>⟨rfl,h1,h2⟩
 | x::l,d,h1,h2=>by
  have ho:¬(d.step.off=true):=by simp [Dk.step,h1,h2]
  unfold wrs
  rw [if_neg ho]
  exact wrs_calm l (d.step.put x.1 x.2) (by simp [Dk.put,Dk.step,h1]) (by simp [Dk.put,Dk.step,h1,h2])
theorem d7 (l:List (Nat×List Int)) (d:Dk) (h1:d.left=0) (h2:d.off=false):(phs d l).2=true∧(phs d l).1.left=0∧(phs d l).1.off=false:=by
 obtain ⟨a,b,c⟩:=wrs_calm l d h1 h2
 have ho:¬((wrs d l).1.step.off=true):=by simp [Dk.step,b,c]
 unfold phs
 rw [if_pos a,if_neg ho]
 exact ⟨rfl,by simp [Dk.flushed,Dk.step,b],by simp [Dk.flushed,Dk.step,b,c]⟩
open Go Go.RowKit
theorem i6 (zs:List Int) (v:Value) (m:Nat) (hzl:zs.length≤30000) (hml:m≤30000) (w:World) (hv:SlOld w v zs) :
  Calls Tryz.prog 67 #[v,.int .i64 (m:Int)] w fun e w'=>∃g,e=.returned (.slice (some ⟨g,0,none⟩) (zs.length+m) (zs.length+m))∧w.heap.size≤g∧Row w' g (u8s (zs++List.replicate m 0)) 5∧Below w.heap.size w w':=by
 obtain ⟨p,cap,rfl,hcap⟩:=hv.len
 have hm:=Mem.start w
 have HV:Hid (SlOld w (.slice p zs.length cap) zs):=hv
 have HNE:Hid (splice (List.replicate (zs.length+m) (.int .u8 0)) 0 (u8s (zs.take zs.length))=u8s (zs++List.replicate m 0)):=by
  show _=_
  have e:List.replicate (zs.length+m) (Value.int .u8 0)=u8s (List.replicate (zs.length+m) 0):=by simp [u8s]
  rw [List.take_of_length_le (Nat.le_refl _),e,cn zs (zs.length+m),show zs.length+m - zs.length=m by omega]
 have HMI:Hid (zs.length=Nat.min zs.length (zs.length+m)):=(Nat.min_eq_left (by omega)).symm
 clear hv
 go_enter Tryz.func67,Tryz.ntmps67
 go_wp2_with (first
  | ((with_reducible refine aa (some 10) (.makeSlice 33 (.tmp 9) (.tmp 9)) ?_);go_must (refine eE _ aU _ bZ rfl (zs.length+m) rfl (by first|rfl|omega|go_num) rfl (by first|rfl|omega|go_num) (by omega) hm ?_);clear hm;intro w1 g hm)
  | ((with_reducible refine aa (some 13) (.call {callee:=.builtin .copy,args:=#[.tmp 11,.tmp 12],argTypes:=#[33,33]}) ?_);go_must (refine cZ 0 zs zs.length (u8s (zs++List.replicate m 0)) hm rfl rfl rfl _ aU be (SlOld.mem HV.out hm) HMI.out (by simp) HNE.out ?_);clear hm;intro w2 hm))
 go_ret
 have hf:=hm.fresh _ (List.mem_cons_self ..)
 exact ⟨g,rfl,by simpa using hf,hm.get 0 rfl,hm.below⟩
theorem set_two (zs:List Int) (a b:Int) (r:List Int):(((u8s (zs++([0,0]++r))).set (zs.length+1) (.int .u8 b)).set (zs.length+0) (.int .u8 a))=u8s (zs++([a,b]++r)):=by
 rw [bT,bT]
 simp [u8s,List.set_append_right]
theorem jK (g:Nat) (zs r:List Int) (n:Int) (cap:Nat) (w:World) (hr:Row w g (u8s (zs++([0,0]++r))) 5) :
  Calls Tryz.prog 68 #[.slice (some ⟨g,zs.length,none⟩) 2 cap,.int .u64 n] w fun e w'=>e=.returned (.tuple #[])∧Row w' g (u8s (zs++(be2 n++r))) 5∧Upd g w w':=by
 have hm:=Mem.enter hr
 have HLN:Hid (((u8s (zs++([0,0]++r))).length=zs.length+(2+r.length))):=by show _=_;simp [ab];omega
 clear hr
 go_enter Tryz.func68,Tryz.ntmps68
 go_wp2_with fail
 refine wp_loop_rounds 3 ?_
 iterate 3 (rw [rounds_succ];go_wp2_with (first
  | (((with_reducible refine aa none (.store 5 (.tmp 16) (.tmp 15)) ?_);refine bm 0 _ _ hm rfl (rfl) rfl be (by first|(rw [HLN.out];omega)|(simp only [List.length_set];rw [HLN.out];omega)) rfl rfl ?_;clear hm;intro w9 hm))))
 go_end0
 have hrow:=hm.get 0 rfl
 exact ⟨rfl,by have e:=set_two zs (n / 256 % 256) (n % 256) r;rw [show be2 n=[n / 256 % 256,n % 256] from rfl,←e];exact hrow,hm.toUpd⟩
theorem held_two (w:World) :
  Calls Tryz.prog 66 #[.int .i64 2] w fun e w'=>e=.returned (.int .i64 2)∧w'=w:=by
 go_enter Tryz.func66,Tryz.ntmps66
 go_wp2
 go_ret
 exact ⟨rfl,rfl⟩
theorem put_two (zs:List Int) (v:Value) (n:Int) (hzl:zs.length≤30000) (w:World) (hv:SlOld w v zs) :
  Calls Tryz.prog 55 #[v,.int .u64 n,.int .i64 2] w fun e w'=>∃g,e=.returned (.slice (some ⟨g,0,none⟩) (zs.length+2) (zs.length+2))∧w.heap.size≤g∧Row w' g (u8s (zs++be2 n)) 5∧Below w.heap.size w w':=by
 obtain ⟨p,cap,rfl,hcap⟩:=hv.len
 have hm:=Mem.start w
 have HV:Hid (SlOld w (.slice p zs.length cap) zs):=hv
 clear hv
 go_enter Tryz.func55,Tryz.ntmps55
 go_wp2_with (first
  | (go_at_call 66;refine (held_two _).mono ?_;rintro e w1 ⟨rfl,rfl⟩)
  | (go_at_call 67;refine (i6 zs _ 2 (by omega) (by omega) _ HV.out).mono ?_;rintro e w2 ⟨g,rfl,hge,hr,hb⟩;have HGE:Hid _:=hge;have HR:Hid (Row w2 g (u8s (zs++([0,0]++[]))) 5):=hr;have HBL:Hid _:=hb;clear hge hr hb)
  | ((with_reducible refine aa (some 17) (.slice 33 (.tmp 14) (some (.tmp 16)) none none) ?_);go_must (refine wpl_slo aU be zs.length zs.length 2 2 (by omega) (by omega) (by omega) (by omega) (by omega) rfl rfl rfl ?_))
  | (go_at_call 68;refine (jK g zs [] n 2 _ HR.out).mono ?_;rintro e w3 ⟨rfl,hr2,hu⟩;rw [List.append_nil] at hr2;have HR2:Hid (Row w3 g (u8s (zs++be2 n)) 5):=hr2;have HU2:Hid (Upd g w2 w3):=hu;clear hr2 hu))
 go_ret
 exact ⟨g,rfl,HGE.out,HR2.out,fv HBL.out HU2.out HGE.out HBL.out.size⟩
theorem or_next {x c:Int} (hx:0≤x∧x<72057594037927936) (hc:0≤c∧c<256):Go.bits .or .u64 (x * 256) c=x * 256+c:=by
 rw [u64_or (x * 256) c (by omega) (by omega) hc.1 (by omega),nat_join 8 _ _ (by omega) (by omega)]
 omega
theorem take_next (cs:List Int) (k:Nat) (h:k<cs.length):numL (cs.take (k+1))=numL (cs.take k) * 256+cs.getD k 0:=by
 rw [List.take_add_one,List.getElem?_eq_getElem h,Option.toList_some,numL_snoc]
 simp [h]
theorem number_any (cs:List Int) (v:Value) (n:Nat) (hn:cs.length=n) (hn8:n≤8) (hcb:Bytes cs) (w:World) (hv:SlOld w v cs) :
  Calls Tryz.prog 84 #[v] w fun e w'=>e=.returned (.int .u64 (numL cs))∧w'=w:=by
 obtain ⟨p,cap,rfl,hcap,hs⟩:=hv
 rw [hn] at hs hcap ⊢
 have HB:Hid _:=hcb
 clear hcb
 go_enter Tryz.func84,Tryz.ntmps84
 go_wp2_with fail
 go_loopw [3,8] (fun vx vi wr=>∃k:Nat,k≤n∧vx=.int .u64 (numL (cs.take k))∧vi=.int .i64 k∧wr=w) (fun _ vi _=>n - (RowKit.intOf vi).toNat)
 case atStart=>exact ⟨0,by omega,rfl,rfl,rfl⟩
 case round =>
  obtain ⟨k,hk,rfl,rfl,rfl⟩:=hrel
  by_cases hlt:k<n
  ·obtain ⟨b,off,rfl,hseg⟩:=hs (by omega)
   have hki:(k:Int)<(n:Int):=by omega
   have hc:=hseg k (by omega)
   have hb1:=Bytes.get HB.out k
   have hb2:Bytes (cs.take k):=Bytes.take HB.out k
   have h1:=hZ hb2
   have h2:=numL_lt hb2
   have h3:(256:Int) ^ (cs.take k).length≤256 ^ 7:=by
    rw [List.length_take,Nat.min_eq_left (by omega)]
    exact (show ∀k:Nat,k<8→(256:Int) ^ k≤256 ^ 7 by decide) k (by omega)
   have h4:numL (cs.take k)<72057594037927936:=by
    have:(256:Int) ^ 7=72057594037927936:=by decide
    omega
   have HN:Hid (numL (cs.take (k+1))=Go.bits .or .u64 (numL (cs.take k) * 256) (cs.getD k 0)):=by
    show _=_
    rw [take_next cs k (by omega),or_next ⟨h1,h4⟩ hb1]
   obtain ⟨x,hx⟩:∃x,x=numL (cs.take k):=⟨_,rfl⟩
   obtain ⟨c,hcc⟩:∃c,c=cs.getD k 0:=⟨_,rfl⟩
   rw [←hx] at h1 h4 HN ⊢
   rw [←hcc] at hc hb1 HN
   obtain ⟨hb10,hb11⟩:=hb1
   clear h2 h3 hx hcc hb2 hseg
   go_wp2_with fail
   go_roundw
   case rel=>exact ⟨k+1,by omega,by rw [HN.out],by go_num,trivial⟩
   case measure=>simp [RowKit.intOf];omega
  ·have hkn:k=n:=by omega
   subst hkn
   have hni:¬(k:Int)<(k:Int):=by omega
   go_wp2_with fail
   go_ret
   rw [List.take_of_length_le (by omega)]
   exact ⟨rfl,rfl⟩
theorem get_eight (cs:List Int) (v:Value) (n:Nat) (hn:cs.length=n) (hk:8≤n) (hl:n≤30000) (hcb:Bytes cs) (w:World) (hv:SlOld w v cs) :
  Calls Tryz.prog 62 #[v,.int .i64 8] w fun e w'=>∃g,e=.returned (.tuple #[.int .u64 (numL (cs.take 8)),.slice (some ⟨g,0,none⟩) (n - 8) (n - 8),.int .i64 0])∧w.heap.size≤g∧Row w' g (u8s (cs.drop 8)) 5∧Below w.heap.size w w':=by
 obtain ⟨p,cap,rfl,hcap⟩:=hv.len
 have HV:Hid (SlOld w (.slice p cs.length cap) cs):=hv
 clear hv
 rw [hn] at hcap HV ⊢
 have HB:Hid _:=hcb
 clear hcb
 have HDL:Hid ((cs.drop 8).length=n - 8):=by show _=_;rw [List.length_drop,hn]
 have hm:=Mem.start w
 obtain ⟨X,hX⟩:∃X,X=numL (cs.take 8):=⟨_,rfl⟩
 have HX:Hid (∀_:Unit,numL (cs.take 8)=X):=fun _=>hX.symm
 rw [←hX]
 clear hX
 go_enter Tryz.func62,Tryz.ntmps62
 go_wp2_with (first
  | (go_at_call 66;refine (fW _).mono ?_;rintro e w1 ⟨rfl,rfl⟩))
 refine au ?_
 refine a6 (T:=fun W=>Mem w1 [] W []) (by kernel_rfl) hm ?_
 clear hm
 intro w2 hm
 refine aT 0 (v:=.slice p n cap) rfl (by kernel_rfl) rfl (fun W _=>by go_simp) hm ?_
 go_simp
 refine aT 1 (v:=.int .i64 8) rfl (by kernel_rfl) rfl (fun W _=>by go_simp) hm ?_
 go_simp
 refine aT 4 (v:=.slice p n cap) rfl (by kernel_rfl) rfl (fun W _=>by go_simp) hm ?_
 go_simp
 refine aT 5 (v:=.int .i64 8) rfl (by kernel_rfl) rfl (fun W _=>by go_simp) hm ?_
 go_simp
 refine aT 2 (v:=.slice (cutHi p cap) 8 cap) rfl (by kernel_rfl) rfl (fun W _=>exec_sHi aU be 8 (by omega) rfl rfl rfl) hm ?_
 go_simp
 refine aT 6 (v:=.slice (cutLo p cap 8) (n - 8) (cap - 8)) rfl (by kernel_rfl) rfl (fun W _=>exec_sLo aU be 8 (by omega) rfl rfl rfl) hm ?_
 go_simp
 refine aO 3 (by kernel_rfl) rfl rfl ?_
 intro K hK
 go_wp2_with (go_at_call 84;refine (number_any (cs.take 8) _ 8 (by rw [List.length_take,hn];omega) (by omega) (Bytes.take HB.out 8) _ (old_hi (SlOld.mem HV.out hm) 8 (by omega))).mono ?_;rintro e w3 ⟨he,rfl⟩;rw [HX.out ()] at he;subst he)
 refine hK _ _ hm ?_
 clear hK K
 refine aO 7 (by kernel_rfl) rfl rfl ?_
 intro K hK
 go_wp2_with (go_at_call 67;refine (i6 (cs.drop 8) _ 0 (by rw [HDL.out];omega) (by omega) _ (old_lo (SlOld.mem HV.out hm) 8 (by omega))).mono ?_;rintro e w4 ⟨g,he,hge,hr,hb⟩;rw [HDL.out,Nat.add_zero] at he;subst he;rw [List.replicate_zero,List.append_nil] at hr;replace hm:=hm.callNew hb hr hge;clear hb hr hge)
 refine hK _ _ hm.tail ?_
 clear hK K
 refine aT 8 (v:=.int .u64 X) rfl (by kernel_rfl) rfl (fun W _=>by go_simp) hm.tail ?_
 go_simp
 refine aT 9 (v:=.slice (some ⟨g,0,none⟩) (n - 8) (n - 8)) rfl (by kernel_rfl) rfl (fun W _=>by go_simp) hm.tail ?_
 go_simp
 refine aT 10 (v:=.int .i64 0) rfl (by kernel_rfl) rfl (fun W _=>by go_simp) hm.tail ?_
 go_simp
 refine wpAnyH_done (by kernel_rfl) ?_ _
 simp only [endsIn]
 go_wp2_with fail
 go_ret3
 have hf:=hm.fresh _ (List.mem_cons_self ..)
 exact ⟨g,rfl,by simpa using hf,hm.get 0 rfl,hm.below⟩
open Go Go.RowKit Go.Maps
def KM (P:Program) (kT:TypeId) (w:World) (m q:Nat) (p:Value→Value→Prop):Prop :=
 ∃D,w.ownsMap P kT rdV m q D∧(∀k kl,keyOf P kT k=some kl→(Maps.has D kl=true↔∃v,p k v))∧(∀k kl v z,keyOf P kT k=some kl→p k v→D.atKey kl z=.held v)
def putK (p:Value→Value→Prop) (key val:Value):Value→Value→Prop:=fun k v=>(k=key∧v=val)∨(k≠key∧p k v)
section
variable {P:Program} {kT:TypeId} {w w':World} {m q:Nat} {p:Value→Value→Prop}
theorem KM.isMap (h:KM P kT w m q p):∃es c,w.heap[m]?=some (.map es c):=by
 obtain ⟨D,⟨es,c,hb,_⟩,_⟩:=h
 exact ⟨es,c,hb⟩
theorem KM.lt (h:KM P kT w m q p):m<w.heap.size:=by
 obtain ⟨D,ho,_⟩:=h
 exact ho.lt
theorem KM.keep (h:KM P kT w m q p) (hk:w'.heap[m]?=w.heap[m]?):KM P kT w' m q p:=by
 obtain ⟨D,⟨es,c,hb,F,hs,hD⟩,pm⟩:=h
 exact ⟨D,⟨es,c,by rw [hk];exact hb,F,hs,hD⟩,pm⟩
theorem KM.below (h:KM P kT w m q p) (hb:Below w.heap.size w w'):KM P kT w' m q p:=h.keep (hb.block m h.lt)
theorem KM.upd {g:Nat} (h:KM P kT w m q p) (hu:Upd g w w') (hg:g≠m):KM P kT w' m q p:=h.keep (hu.block m h.lt (fun e=>hg e.symm))
theorem KM.new (h:w.heap[m]?=some (.map #[] 0)):KM P kT w m 0 (fun _ _=>False) :=
 ⟨.map [],⟨#[],0,h,⟨by simp,MapKept.stamped_empty 0,by simp⟩,Nat.le_refl _,rfl⟩,fun k kl _=>by simp [Maps.has],fun _ _ _ _ _ h=>h.elim⟩
theorem KM.same {p':Value→Value→Prop} (h:KM P kT w m q p) (hp:∀k v,p k v↔p' k v):KM P kT w m q p':=by
 obtain ⟨D,ho,h1,h2⟩:=h
 exact ⟨D,ho,fun k kl hk=>(h1 k kl hk).trans ⟨fun ⟨v,hv⟩=>⟨v,(hp k v).1 hv⟩,fun ⟨v,hv⟩=>⟨v,(hp k v).2 hv⟩⟩,fun k kl v z hk hv=>h2 k kl v z hk ((hp k v).2 hv)⟩
theorem KM.look (h:KM P kT w m q p) (K:Keyed P kT) {t e:TypeId} (ht:P.underlying t=some (.map kT e)) {z:Value} (hz:(zeroValue e).run P w=.ok z w) {key v:Value} {kl:Lit} (hk:keyOf P kT key=some kl) (hp:p key v) :
  (Instr.lookup t (.map (some m)) key true).run P w=.ok (.tuple #[v,.bool true]) w:=by
 obtain ⟨D,ho,h1,h2⟩:=h
 obtain ⟨u,ps,hr,hv⟩:=ho.look_ok K ht hz (show rdV z=some (.held z,[]) from rfl) hk
 have e1:=ef hv
 rw [h2 key kl v _ hk hp] at e1
 simp only [DataW.held.injEq] at e1
 rw [hr,e1,(h1 key kl hk).2 ⟨v,hp⟩]
theorem KM.lookNo (h:KM P kT w m q p) (K:Keyed P kT) {t e:TypeId} (ht:P.underlying t=some (.map kT e)) {z:Value} (hz:(zeroValue e).run P w=.ok z w) {key:Value} {kl:Lit} (hk:keyOf P kT key=some kl) (hp:∀v,¬p key v) :
  (Instr.lookup t (.map (some m)) key true).run P w=.ok (.tuple #[z,.bool false]) w:=by
 obtain ⟨D,ho,h1,h2⟩:=h
 obtain ⟨u,ps,hr,hv⟩:=ho.look_ok K ht hz (show rdV z=some (.held z,[]) from rfl) hk
 have e1:=ef hv
 have hn:Maps.has D kl=false:=by
  cases hh:Maps.has D kl with
  | false=>rfl
  | true=>obtain ⟨v,hv⟩:=(h1 key kl hk).1 hh;exact absurd hv (hp v)
 rw [atKey_of_not_has hn] at e1
 simp only [DataW.held.injEq] at e1
 rw [hr,←e1,hn]
theorem KM.look1 (h:KM P kT w m q p) (K:Keyed P kT) {t e:TypeId} (ht:P.underlying t=some (.map kT e)) {z:Value} (hz:(zeroValue e).run P w=.ok z w) {key v:Value} {kl:Lit} (hk:keyOf P kT key=some kl) (hp:p key v) :
  (Instr.lookup t (.map (some m)) key false).run P w=.ok v w:=by
 obtain ⟨D,ho,h1,h2⟩:=h
 obtain ⟨u,ps,hr,hv⟩:=ho.lookup K ht hz (show rdV z=some (.held z,[]) from rfl) hk
 have e1:=ef hv
 rw [h2 key kl v _ hk hp] at e1
 simp only [DataW.held.injEq] at e1
 rw [hr,e1]
theorem KM.putRun (h:KM P kT w m q p) (K:Keyed P kT) {t e:TypeId} (ht:P.underlying t=some (.map kT e)) (hq:q<1000000) {key:Value} {kl:Lit} (hk:keyOf P kT key=some kl) (val:Value) :
  ∃w',(Instr.mapUpdate t (.map (some m)) key val).run P w=.ok () w'∧KM P kT w' m (q+1) (putK p key val)∧Upd m w w':=by
 obtain ⟨D,ho,h1,h2⟩:=h
 obtain ⟨w',hr,ho2,hg⟩:=ho.update K ht (by unfold maxLen;omega) hk (d:=.held val) (ps:=[]) (val:=val) rfl
 refine ⟨w',hr,⟨_,ho2,fun k kl' hk'=>?_,fun k kl' v z hk' hv=>?_⟩,⟨hg.os,hg.tape,hg.output,hg.size,fun k hk hne=>hg.block k hk (by simpa using hne)⟩⟩
 ·by_cases he:kl'=kl
  ·subst he
   rw [has_put_same ho.isMap (K.key hk)]
   have e2:k=key:=K.inj hk' hk
   exact ⟨fun _=>⟨val,Or.inl ⟨e2,rfl⟩⟩,fun _=>rfl⟩
  ·have e2:k≠key:=fun e=>he (by subst e;exact Option.some.inj (hk'.symm.trans hk))
   rw [has_put_other he,h1 k kl' hk']
   constructor
   ·rintro ⟨v,hv⟩;exact ⟨v,Or.inr ⟨e2,hv⟩⟩
   ·rintro ⟨v,hv⟩
    rcases hv with ⟨e3,_⟩|⟨_,hv⟩
    ·exact absurd e3 e2
    ·exact ⟨v,hv⟩
 ·by_cases he:kl'=kl
  ·subst he
   have e2:k=key:=K.inj hk' hk
   rw [atKey_put_same ho.isMap (K.key hk)]
   rcases hv with ⟨_,e3⟩|⟨e3,_⟩
   ·rw [e3]
   ·exact absurd e2 e3
  ·have e2:k≠key:=fun e=>he (by subst e;exact Option.some.inj (hk'.symm.trans hk))
   rw [atKey_put_other he]
   rcases hv with ⟨e3,_⟩|⟨_,hv⟩
   ·exact absurd e3 e2
   ·exact h2 k kl' v z hk' hv
end
section
variable {P:Program} {kT:TypeId} {ops:Array Oper} {rest:List Oper} {a:Act} {w w0 w':World} {Q:Exit→Act→World→Prop} {dst:Option Tmp} {typ:TypeId} {pos:String} {aft:Array Edge} {gd:Option (Nat×Bool)} {S:List Nat} {rows:List (Nat×List Value×TypeId)} {m q:Nat} {p:Value→Value→Prop}
theorem wpl_mkM {ty:TypeId} (hm:Mem w0 S w rows) (h:∀w' m,w'.heap[m]?=some (.map #[] 0)→w0.heap.size≤m→Mem w0 S w' rows→wpList P ops Q rest (a.put dst (.map (some m))) w') :
  wpList P ops Q ({dst:=dst,op:=.makeMap ty none,type:=typ,pos:=pos,after:=aft,guard:=none}::rest) a w:=by
 refine wpList_plain rfl fun K hK=>?_
 have hh:=hK _ _ (h (w.alloc (.map #[] 0)) w.heap.size (heap_alloc_new w _) hm.size (hm.allocO _))
 unfold Oper.wp execOp
 simp only [Option.map_none,run_makeMap,Sem.run_bind,Sem.run_pure,Result.andThen_ok]
 exact hh
theorem wpl_kmPut {x k y:Operand} {t e:TypeId} {key val:Value} {kl:Lit} (st:KM P kT w m q p) (K:Keyed P kT) (ht:P.underlying t=some (.map kT e)) (hq:q<1000000) (hkey:keyOf P kT key=some kl) (hx:a.eval x=.map (some m)) (hk:a.eval k=key) (hy:a.eval y=val)
  (h:∀w',KM P kT w' m (q+1) (putK p key val)→Upd m w w'→wpList P ops Q rest (a.put dst undef) w') :
  wpList P ops Q ({dst:=dst,op:=.mapUpdate t x k y,type:=typ,pos:=pos,after:=aft,guard:=none}::rest) a w:=by
 obtain ⟨w',hr,h1,h2⟩:=st.putRun K ht hq hkey val
 refine wpList_plain rfl fun K' hK'=>?_
 have hh:=hK' _ _ (h w' h1 h2)
 unfold Oper.wp
 simp [execOp,hx,hk,hy,hr,Result.andThen]
 exact hh
theorem bG {x k:Operand} {t:TypeId} {b:Bool} {key r:Value} (hr:(Instr.lookup t (.map (some m)) key b).run P w=.ok r w) (hx:a.eval x=.map (some m)) (hk:a.eval k=key) :
  (execOp a.eval {dst:=dst,op:=.lookup t x k b,type:=typ,pos:=pos,after:=aft,guard:=gd}).run P w=.ok (.value r) w:=by
 unfold execOp
 simp only [hx,hk,hr,Sem.run_bind,Sem.run_pure,Result.andThen_ok]
end
def delK (p:Value→Value→Prop) (key:Value):Value→Value→Prop:=fun k v=>k≠key∧p k v
section
variable {P:Program} {kT:TypeId} {w w':World} {m q:Nat} {p:Value→Value→Prop}
theorem KM.look1No (h:KM P kT w m q p) (K:Keyed P kT) {t e:TypeId} (ht:P.underlying t=some (.map kT e)) {z:Value} (hz:(zeroValue e).run P w=.ok z w) {key:Value} {kl:Lit} (hk:keyOf P kT key=some kl) (hp:∀v,¬p key v) :
  (Instr.lookup t (.map (some m)) key false).run P w=.ok z w:=by
 obtain ⟨D,ho,h1,h2⟩:=h
 obtain ⟨u,ps,hr,hv⟩:=ho.lookup K ht hz (show rdV z=some (.held z,[]) from rfl) hk
 have e1:=ef hv
 have hn:Maps.has D kl=false:=by
  cases hh:Maps.has D kl with
  | false=>rfl
  | true=>obtain ⟨v,hv⟩:=(h1 key kl hk).1 hh;exact absurd hv (hp v)
 rw [atKey_of_not_has hn] at e1
 simp only [DataW.held.injEq] at e1
 rw [hr,←e1]
theorem KM.delRun (h:KM P kT w m q p) (K:Keyed P kT) {t e:TypeId} (ht:P.underlying t=some (.map kT e)) {key:Value} {kl:Lit} (hk:keyOf P kT key=some kl) (ty:TypeId) :
  ∃w',(Builtin.delete_ #[t,kT] ty #[.map (some m),key]).run P w=.ok (.tuple #[]) w'∧KM P kT w' m q (delK p key)∧Upd m w w':=by
 obtain ⟨D,ho,h1,h2⟩:=h
 obtain ⟨w',hr,ho2,hg⟩:=ho.drop K ht hk ty
 refine ⟨w',hr,⟨_,ho2,fun k kl' hk'=>?_,fun k kl' v z hk' hv=>?_⟩,⟨hg.grown.os,hg.grown.tape,hg.grown.output,hg.grown.size,fun k hk hne=>hg.grown.block k hk (by simpa using hne)⟩⟩
 ·by_cases he:kl'=kl
  ·subst he
   have e2:k=key:=K.inj hk' hk
   rw [has_del_same]
   constructor
   ·intro h;cases h
   ·rintro ⟨v,hv⟩;exact absurd e2 hv.1
  ·have e2:k≠key:=fun e=>he (by subst e;exact Option.some.inj (hk'.symm.trans hk))
   rw [has_del_other he,h1 k kl' hk']
   constructor
   ·rintro ⟨v,hv⟩;exact ⟨v,e2,hv⟩
   ·rintro ⟨v,hv⟩;exact ⟨v,hv.2⟩
 ·by_cases he:kl'=kl
  ·subst he
   exact absurd (K.inj hk' hk) hv.1
  ·rw [atKey_del_other he]
   exact h2 k kl' v z hk' hv.2
theorem KM.lenRun (h:KM P kT w m q p) {t e:TypeId} (ht:P.underlying t=some (.map kT e)) (ty:TypeId):∃n:Nat,n≤q∧(Builtin.len_ #[t] ty #[.map (some m)]).run P w=.ok (.int .i64 (n:Int)) w:=by
 obtain ⟨D,ho,h1,h2⟩:=h
 exact ⟨Maps.size D,ho.size_le,ho.len ht ty⟩
end
section
variable {P:Program} {kT:TypeId} {ops:Array Oper} {rest:List Oper} {a:Act} {w w0 w':World} {Q:Exit→Act→World→Prop} {dst:Option Tmp} {typ:TypeId} {pos:String} {aft:Array Edge} {gd:Option (Nat×Bool)} {m q:Nat} {p:Value→Value→Prop}
theorem wpl_kmDel {x k:Operand} {t e:TypeId} {key:Value} {kl:Lit} (st:KM P kT w m q p) (K:Keyed P kT) (ht:P.underlying t=some (.map kT e)) (hkey:keyOf P kT key=some kl) (hx:a.eval x=.map (some m)) (hk:a.eval k=key)
  (hh:∀w',KM P kT w' m q (delK p key)→Upd m w w'→wpList P ops Q rest (a.put dst (.tuple #[])) w') :
  wpList P ops Q ({dst:=dst,op:=.call {callee:=.builtin .delete,args:=#[x,k],argTypes:=#[t,kT]},type:=typ,pos:=pos,after:=aft,guard:=none}::rest) a w:=by
 obtain ⟨w',hr,hs,hu⟩:=st.delRun K ht hkey typ
 refine wpList_plain rfl fun K hK=>?_
 have h9:=hK _ _ (hh w' hs hu)
 unfold Oper.wp execOp
 simp only [resolve,invoke,builtin,Sem.run_bind,Sem.run_pure,Result.andThen_ok,List.map_toArray,List.map_cons,List.map_nil,hx,hk,hr]
 exact h9
theorem gZ {x:Operand} {t:TypeId} {n:Int} (hr:(Builtin.len_ #[t] typ #[.map (some m)]).run P w=.ok (.int .i64 n) w) (hx:a.eval x=.map (some m)) :
  (execOp a.eval {dst:=dst,op:=.call {callee:=.builtin .len,args:=#[x],argTypes:=#[t]},type:=typ,pos:=pos,after:=aft,guard:=gd}).run P w=.ok (.value (.int .i64 n)) w:=by
 unfold execOp
 simp only [resolve,invoke,builtin,Sem.run_bind,Sem.run_pure,Result.andThen_ok,List.map_toArray,List.map_cons,List.map_nil,hx,hr]
end
end Go.Proofs.YtnllomcajijbjaaGreatDoor
