import Derived.Lib.Strings
import Derived.Test.YtcibhfcjbokdlaaGreatDoorQt00
import Derived.Maps.AppendAt
import Derived.Maps.OwnSet
import Derived.Maps.OwnOps
import Derived.DeepKeys4
set_option maxRecDepth 100000
set_option maxHeartbeats 4000000
namespace Go.Proofs.YtcibhfcjbokdlaaGreatDoor
open Go Go.RowKit
def noStr:ByteArray:=ByteArray.empty
def bs (s:ByteArray):List UInt8:=s.data.toList
def mkS (l:List UInt8):ByteArray:=⟨l.toArray⟩
theorem aR (l:List UInt8):bs (mkS l)=l:=by simp [bs,mkS]
theorem mkS_bs (s:ByteArray):mkS (bs s)=s:=by cases s;simp [bs,mkS]
theorem bs_inj {a b:ByteArray} (h:bs a=bs b):a=b:=by rw [←mkS_bs a,←mkS_bs b,h]
theorem bs_length (s:ByteArray):(bs s).length=s.size:=by unfold bs;exact Array.length_toList
theorem ay (l:List UInt8):(mkS l).size=l.length:=by rw [←bs_length,aR]
structure Tm where
 k:Int
 n:Int
 m:Nat
 kid:Fin m→Tm
def Tm.l (t:Tm):List Tm:=List.ofFn t.kid
def mkT (k n:Int) (l:List Tm):Tm:=⟨k,n,l.length,fun i=>l[i.1]⟩
theorem aV (k n:Int) (l:List Tm):(mkT k n l).l=l:=by
 apply List.ext_getElem
 ·simp [Tm.l,mkT]
 ·intro i h1 h2;simp [Tm.l,mkT]
theorem Tm.len (t:Tm):t.l.length=t.m:=by simp [Tm.l]
theorem Tm.eq_of {a b:Tm} (h1:a.k=b.k) (h2:a.n=b.n) (h:a.l=b.l):a=b:=by
 have h3:a.m=b.m:=by rw [←a.len,←b.len,h]
 obtain ⟨k,n,m,f⟩:=a
 obtain ⟨k',n',m',g⟩:=b
 simp only at h1 h2 h3
 subst h1 h2 h3
 congr
 funext i
 have h4:=congrArg (·[i.1]?) h
 simpa [Tm.l] using h4
theorem Tm.eta (t:Tm):mkT t.k t.n t.l=t:=Tm.eq_of rfl rfl (aV _ _ _)
theorem Tm.ind {P:Tm→Prop} (h:∀t:Tm,(∀x∈t.l,P x)→P t) (t:Tm):P t:=by
 induction t with
 | mk k n m kid ih =>
  refine h _ fun x hx=>?_
  obtain ⟨i,rfl⟩:=List.mem_ofFn.1 hx
  exact ih i
def foldT {α:Type} (f:Tm→List α→α):Tm→α
 | ⟨k,n,m,kid⟩=>f ⟨k,n,m,kid⟩ (List.ofFn fun i=>foldT f (kid i))
theorem cg {α:Type} (f:Tm→List α→α) (t:Tm):foldT f t=f t (t.l.map (foldT f)):=by
 obtain ⟨k,n,m,kid⟩:=t
 rw [foldT,Tm.l,List.map_ofFn]
 rfl
def cnt:Tm→Nat:=foldT (fun _ r=>1+r.sum)
theorem bQ (t:Tm):cnt t=1+(t.l.map cnt).sum:=cg _ t
theorem eH (t:Tm):0<cnt t:=by rw [bQ];omega
theorem sum_mem {l:List Tm} {x:Tm} (h:x∈l):cnt x≤(l.map cnt).sum:=by
 induction l with
 | nil=>cases h
 | cons y l ih =>
  simp only [List.map_cons,List.sum_cons]
  rcases List.mem_cons.1 h with rfl|h
  ·omega
  ·have:=ih h;omega
theorem bE {t x:Tm} (h:x∈t.l):cnt x<cnt t:=by
 have:=sum_mem h
 rw [bQ t]
 omega
def kn (k:Int):Nat:=if k=3∨k=4 then 2 else if k=5 then 1 else 0
def nb (k:Int):Bool:=decide (k=1∨k=2∨k=5)
def okF (k n:Int) (m:Nat):Bool:=decide (1≤k∧k≤5)&&decide (m=kn k)&&(if nb k then decide (0≤n∧n≤99) else decide (n=0))
def okT:Tm→Bool:=foldT (fun t r=>okF t.k t.n t.m&&r.all id)
theorem dH (t:Tm):okT t=(okF t.k t.n t.l.length&&t.l.all okT):=by
 rw [okT,cg,Tm.len,List.all_map];rfl
theorem aM {t x:Tm} (h:okT t=true) (hx:x∈t.l):okT x=true:=by
 rw [dH,Bool.and_eq_true] at h
 exact List.all_eq_true.1 h.2 x hx
theorem aS {t:Tm} (h:okT t=true):okF t.k t.n t.l.length=true:=by
 rw [dH,Bool.and_eq_true] at h;exact h.1
theorem bg {k n:Int} {m:Nat} (h:okF k n m=true):m=kn k:=by
 simp only [okF,Bool.and_eq_true,decide_eq_true_iff] at h;exact h.1.2
theorem okF_k {k n:Int} {m:Nat} (h:okF k n m=true):1≤k∧k≤5:=by
 simp only [okF,Bool.and_eq_true,decide_eq_true_iff] at h;exact h.1.1
theorem okF_n {k n:Int} {m:Nat} (h:okF k n m=true):0≤n∧n≤99:=by
 simp only [okF,Bool.and_eq_true,decide_eq_true_iff] at h
 have:=h.2
 split at this
 ·simpa using this
 ·simp at this;omega
theorem okF_n0 {k n:Int} {m:Nat} (h:okF k n m=true) (hk:nb k=false):n=0:=by
 simp only [okF,Bool.and_eq_true,decide_eq_true_iff,hk] at h
 simpa using h.2
def isT (t:Tm):Bool:=decide (cnt t≤60)&&okT t
theorem az {t:Tm}:isT t=true↔cnt t≤60∧okT t=true:=by simp [isT]
theorem isT_kid {t x:Tm} (h:isT t=true) (hx:x∈t.l):isT x=true:=by
 rw [az] at h ⊢
 have:=bE hx
 exact ⟨by omega,aM h.2 hx⟩
def dig (n:Int):List UInt8:=if n<10 then [UInt8.ofNat (48+n.toNat)] else [UInt8.ofNat (48+n.toNat / 10),UInt8.ofNat (48+n.toNat % 10)]
def wd (k:Int):List UInt8:=if k=1 then [110] else if k=2 then [107] else if k=3 then [115,101,97,108] else if k=5 then [100] else []
def jnB:List (List UInt8)→List UInt8
 | []=>[]
 | [x]=>x
 | x::y::r=>x++44::jnB (y::r)
def hdT (k n:Int):List UInt8:=wd k++if nb k then dig n else []
def txt:Tm→List UInt8:=foldT (fun t r=>hdT t.k t.n++if kn t.k=0 then [] else 40::(jnB r++[41]))
theorem cF (t:Tm):txt t=hdT t.k t.n++if kn t.k=0 then [] else 40::(jnB (t.l.map txt)++[41]):=cg _ t
theorem wd_len (k:Int):(wd k).length≤4∧(nb k=true→(wd k).length≤1):=by
 unfold wd nb
 repeat' split
 all_goals simp
 all_goals omega
theorem dS (n:Int):1≤(dig n).length∧(dig n).length≤2:=by
 unfold dig;split<;>simp
theorem hdT_len (k n:Int):(hdT k n).length≤4:=by
 have h1:=wd_len k
 have h2:=dS n
 unfold hdT
 rw [List.length_append]
 split
 ·have:=h1.2 (by assumption);omega
 ·have:=h1.1;simp;omega
theorem jnB_len (l:List (List UInt8)):(jnB l).length≤(l.map List.length).sum+(l.length - 1):=by
 induction l with
 | nil=>simp [jnB]
 | cons x l ih =>
  cases l with
  | nil=>simp [jnB]
  | cons y r =>
   simp only [jnB,List.length_append,List.length_cons,List.map_cons,List.sum_cons] at ih ⊢
   omega
theorem txt_sum {l:List Tm} (h:∀x∈l,(txt x).length≤8 * cnt x):((l.map txt).map List.length).sum≤8 * (l.map cnt).sum:=by
 induction l with
 | nil=>simp
 | cons x l ih =>
  have h1:=h x (List.mem_cons_self ..)
  have h2:=ih (fun y hy=>h y (List.mem_cons_of_mem _ hy))
  simp only [List.map_cons,List.sum_cons] at h2 ⊢
  omega
theorem dt (t:Tm):okT t=true→(txt t).length≤8 * cnt t:=by
 induction t using Tm.ind with
 | h t ih =>
  intro ho
  have h1:=hdT_len t.k t.n
  have h2:=jnB_len (t.l.map txt)
  have h3:=txt_sum (fun x hx=>ih x hx (aM ho hx))
  have h4:=bg (aS ho)
  have h5:kn t.k≤2:=by unfold kn;split<;>(try split)<;>omega
  rw [cF,bQ,List.length_append]
  split
  ·simp;omega
  ·simp only [List.length_cons,List.length_append,List.length_nil,List.length_map] at h2 ⊢
   omega
def isDig (b:UInt8):Bool:=decide (48≤b.toNat∧b.toNat≤57)
def dv (b:UInt8):Int:=(b.toNat:Int) - 48
def ldg (s:List UInt8):List UInt8:=s.takeWhile isDig
def numV (d:List UInt8):Option Int :=
 match d with
 | [a]=>some (dv a)
 | [a,b]=>if a=48 then none else some (10 * dv a+dv b)
 | _=>none
def kdOf (s:List UInt8):Int:=if Lib.hasPrefix s [110] then 1 else if Lib.hasPrefix s [107] then 2 else if Lib.hasPrefix s [115,101,97,108] then 3 else if Lib.hasPrefix s [100] then 5 else 4
def rdNum (k:Int) (s:List UInt8):Option (Int×List UInt8):=if nb k then (numV (ldg s)).map (fun n=>(n,s.drop (ldg s).length)) else some (0,s)
def rdK (g:Nat→List UInt8→Option (Tm×List UInt8×Nat)):Nat→UInt8→List UInt8→Nat→Option (List Tm×List UInt8×Nat)
 | 0,_,s,r=>some ([],s,r)
 | j+1,mark,s,r=>if Lib.hasPrefix s [mark] then
   match g r (s.drop 1) with
   | none=>none
   | some (t,s2,r2)=>match rdK g j 44 s2 r2 with
    | none=>none
    | some (l,s3,r3)=>some (t::l,s3,r3)
  else none
def rdT:Nat→Nat→List UInt8→Option (Tm×List UInt8×Nat)
 | 0,_,_=>none
 | f+1,room,s=>if room=0 then none else
  match rdNum (kdOf s) (s.drop (wd (kdOf s)).length) with
  | none=>none
  | some (n,s2)=>if kn (kdOf s)=0 then some (mkT (kdOf s) n [],s2,room - 1) else
   match rdK (rdT f) (kn (kdOf s)) 40 s2 (room - 1) with
   | none=>none
   | some (l,s3,r3)=>if Lib.hasPrefix s3 [41] then some (mkT (kdOf s) n l,s3.drop 1,r3) else none
theorem hp_one {s:List UInt8} {c:UInt8} (h:Lib.hasPrefix s [c]=true):s=c::s.drop 1:=by
 cases s with
 | nil=>simp [Lib.hasPrefix] at h
 | cons x s=>simp [Lib.hasPrefix] at h;subst h;rfl
theorem hp_app {s p:List UInt8} (h:Lib.hasPrefix s p=true):s=p++s.drop p.length:=by
 obtain ⟨r,rfl⟩:=List.isPrefixOf_iff_prefix.1 h
 simp
theorem hp_of (p r:List UInt8):Lib.hasPrefix (p++r) p=true:=List.isPrefixOf_iff_prefix.2 ⟨r,rfl⟩
theorem bp (s:List UInt8):1≤kdOf s∧kdOf s≤5:=by
 unfold kdOf;repeat' split
 all_goals omega
theorem kdOf_word (s:List UInt8):s=wd (kdOf s)++s.drop (wd (kdOf s)).length:=by
 unfold kdOf
 repeat' split
 ·exact hp_app (p:=[110]) (by assumption)
 ·exact hp_app (p:=[107]) (by assumption)
 ·exact hp_app (p:=[115,101,97,108]) (by assumption)
 ·exact hp_app (p:=[100]) (by assumption)
 ·rfl
theorem cQ {a:UInt8} (h:isDig a=true):UInt8.ofNat (48+(a.toNat - 48))=a∧48≤a.toNat∧a.toNat≤57:=by
 simp only [isDig,decide_eq_true_iff] at h
 refine ⟨?_,h.1,h.2⟩
 rw [show 48+(a.toNat - 48)=a.toNat by omega]
 exact UInt8.ofNat_toNat ..
theorem eR {d:List UInt8} (h:∀b∈d,isDig b=true) {n:Int} (hn:numV d=some n):dig n=d∧0≤n∧n≤99:=by
 unfold numV at hn
 split at hn
 ·rename_i a
  obtain ⟨h1,h2,h3⟩:=cQ (h a (by simp))
  simp only [Option.some.injEq] at hn
  subst hn
  unfold dv dig
  rw [if_pos (by omega),show ((a.toNat:Int) - 48).toNat=a.toNat - 48 by omega,h1]
  exact ⟨rfl,by omega,by omega⟩
 ·rename_i a b
  obtain ⟨h1,h2,h3⟩:=cQ (h a (by simp))
  obtain ⟨h4,h5,h6⟩:=cQ (h b (by simp))
  split at hn
  ·cases hn
  ·rename_i ha
   have ha2:a.toNat≠48:=fun he=>ha (UInt8.toNat.inj (by rw [he];rfl))
   simp only [Option.some.injEq] at hn
   subst hn
   unfold dv dig
   rw [if_neg (by omega)]
   have e1:(10 * ((a.toNat:Int) - 48)+((b.toNat:Int) - 48)).toNat=10 * (a.toNat - 48)+(b.toNat - 48):=by omega
   rw [e1,show (10 * (a.toNat - 48)+(b.toNat - 48)) / 10=a.toNat - 48 by omega,show (10 * (a.toNat - 48)+(b.toNat - 48)) % 10=b.toNat - 48 by omega,h1,h4]
   exact ⟨rfl,by omega,by omega⟩
 ·cases hn
theorem dig_isDig {n:Int} (h0:0≤n) (h1:n≤99):∀b∈dig n,isDig b=true:=by
 have key:∀x:Nat,x<10→isDig (UInt8.ofNat (48+x))=true:=by
  intro x hx
  simp only [isDig,decide_eq_true_iff,UInt8.toNat_ofNat']
  omega
 intro b hb
 unfold dig at hb
 split at hb
 ·rw [List.mem_singleton.1 hb];exact key _ (by omega)
 ·rcases List.mem_cons.1 hb with rfl|hb
  ·exact key _ (by omega)
  ·rw [List.mem_singleton.1 hb];exact key _ (by omega)
theorem numV_of {n:Int} (h0:0≤n) (h1:n≤99):numV (dig n)=some n:=by
 have key:∀x:Nat,x<10→(UInt8.ofNat (48+x)).toNat=48+x:=by
  intro x hx
  simp only [UInt8.toNat_ofNat']
  omega
 unfold dig
 split
 ·show some (((UInt8.ofNat (48+n.toNat)).toNat:Int) - 48)=some n
  rw [key _ (by omega)]
  congr 1;omega
 ·have h2:n.toNat / 10<10:=by omega
  have h3:n.toNat % 10<10:=by omega
  show (if UInt8.ofNat (48+n.toNat / 10)=48 then none else some (10 * (((UInt8.ofNat (48+n.toNat / 10)).toNat:Int) - 48)+(((UInt8.ofNat (48+n.toNat % 10)).toNat:Int) - 48)))=some n
  rw [if_neg,key _ h2,key _ h3]
  ·congr 1;omega
  ·intro he
   have:=congrArg UInt8.toNat he
   rw [key _ h2] at this
   have e:(48:UInt8).toNat=48:=rfl
   rw [e] at this
   omega
def noD (s:List UInt8):Prop:=∀c r,s=c::r→isDig c=false
theorem noD_nil:noD []:=by intro c r h;cases h
theorem fc {c:UInt8} {r:List UInt8} (h:isDig c=false):noD (c::r):=by intro c' r' he;cases he;exact h
theorem ldg_app {d s:List UInt8} (h:∀b∈d,isDig b=true) (hs:noD s):ldg (d++s)=d:=by
 unfold ldg
 induction d with
 | nil =>
  cases s with
  | nil=>rfl
  | cons c r=>simp [hs c r rfl]
 | cons x d ih=>rw [List.cons_append,List.takeWhile_cons,h x (List.mem_cons_self ..),if_pos rfl,ih (fun b hb=>h b (List.mem_cons_of_mem _ hb))]
theorem ldg_all (s:List UInt8):∀b∈ldg s,isDig b=true:=by
 intro b hb
 unfold ldg at hb
 induction s with
 | nil=>cases hb
 | cons x s ih =>
  rw [List.takeWhile_cons] at hb
  split at hb
  ·rcases List.mem_cons.1 hb with rfl|hb
   ·assumption
   ·exact ih hb
  ·cases hb
theorem bZ (s:List UInt8):s=ldg s++s.drop (ldg s).length:=by
 unfold ldg
 induction s with
 | nil=>rfl
 | cons x s ih =>
  rw [List.takeWhile_cons]
  split
  ·rw [List.length_cons,List.drop_succ_cons,List.cons_append,←ih]
  ·rfl
theorem rdNum_sound {k:Int} {s s2:List UInt8} {n:Int} (h:rdNum k s=some (n,s2)):s=(if nb k then dig n else [])++s2∧(nb k=true→0≤n∧n≤99)∧(nb k=false→n=0):=by
 unfold rdNum at h
 cases hk:nb k with
 | true =>
  rw [hk] at h
  simp only [if_true,Option.map_eq_some_iff,Prod.mk.injEq] at h
  obtain ⟨m,hm,rfl,rfl⟩:=h
  obtain ⟨h1,h2,h3⟩:=eR (ldg_all s) hm
  refine ⟨?_,fun _=>⟨h2,h3⟩,fun h=>by cases h⟩
  rw [if_pos rfl,h1]
  exact bZ s
 | false =>
  rw [hk] at h
  simp only [Bool.false_eq_true,if_false,Option.some.injEq,Prod.mk.injEq] at h
  obtain ⟨rfl,rfl⟩:=h
  exact ⟨rfl,(fun h=>by cases h),fun _=>rfl⟩
theorem eY {k n:Int} {m:Nat} (h:okF k n m=true) {s:List UInt8} (hs:nb k=true→noD s):rdNum k ((if nb k then dig n else [])++s)=some (n,s):=by
 unfold rdNum
 cases hk:nb k with
 | true =>
  obtain ⟨h0,h1⟩:=okF_n h
  simp only [if_true]
  rw [ldg_app (dig_isDig h0 h1) (hs hk),numV_of h0 h1]
  simp
 | false =>
  have:=okF_n0 h hk
  subst this
  rfl
def txtK (mark:UInt8):List Tm→List UInt8
 | []=>[]
 | t::l=>mark::(txt t++txtK 44 l)
theorem txtK_jn (l:List Tm) (h:l≠[]):txtK 40 l=40::jnB (l.map txt):=by
 cases l with
 | nil=>exact absurd rfl h
 | cons t l =>
  rw [txtK]
  congr 1
  induction l generalizing t with
  | nil=>simp [txtK,jnB]
  | cons u l ih=>rw [txtK,ih u (by simp)];rfl
theorem txt_k {k n:Int} {l:List Tm} (h:kn k≠0) (hl:l.length=kn k):txt (mkT k n l)=hdT k n++txtK 40 l++[41]:=by
 have hne:l≠[]:=by intro he;subst he;exact h hl.symm
 rw [cF,aV,txtK_jn l hne]
 show hdT k n++(if kn k=0 then _ else _)=_
 rw [if_neg h]
 simp
theorem txt_0 {k n:Int} (h:kn k=0):txt (mkT k n [])=hdT k n:=by
 rw [cF]
 show hdT k n++(if kn k=0 then _ else _)=_
 rw [if_pos h,List.append_nil]
theorem cnt_mk (k n:Int) (l:List Tm):cnt (mkT k n l)=1+(l.map cnt).sum:=by rw [bQ,aV]
theorem ok_mk (k n:Int) (l:List Tm):okT (mkT k n l)=(okF k n l.length&&l.all okT):=by rw [dH,aV];rfl
def Sound (g:Nat→List UInt8→Option (Tm×List UInt8×Nat)):Prop:=∀r s t s2 r2,g r s=some (t,s2,r2)→s=txt t++s2∧okT t=true∧r=r2+cnt t
theorem rdK_sound {g:Nat→List UInt8→Option (Tm×List UInt8×Nat)} (hg:Sound g):∀(j:Nat) (mark:UInt8) (s:List UInt8) (r:Nat) (l:List Tm) (s2:List UInt8) (r2:Nat),rdK g j mark s r=some (l,s2,r2)→s=txtK mark l++s2∧l.length=j∧l.all okT=true∧r=r2+(l.map cnt).sum:=by
 intro j
 induction j with
 | zero =>
  intro mark s r l s2 r2 h
  simp only [rdK,Option.some.injEq,Prod.mk.injEq] at h
  obtain ⟨rfl,rfl,rfl⟩:=h
  exact ⟨rfl,rfl,rfl,rfl⟩
 | succ j ih =>
  intro mark s r l s2 r2 h
  rw [rdK] at h
  split at h
  ·rename_i hp
   split at h
   ·cases h
   ·rename_i t s3 r3 h3
    split at h
    ·cases h
    ·rename_i l4 s4 r4 h4
     simp only [Option.some.injEq,Prod.mk.injEq] at h
     obtain ⟨rfl,rfl,rfl⟩:=h
     obtain ⟨a1,a2,a3⟩:=hg _ _ _ _ _ h3
     obtain ⟨b1,b2,b3,b4⟩:=ih _ _ _ _ _ _ h4
     refine ⟨?_,by simp [b2],by simp [a2,b3],by simp;omega⟩
     rw [hp_one hp,a1,b1,txtK]
     simp
  ·cases h
theorem rdT_sound:∀f,Sound (rdT f):=by
 intro f
 induction f with
 | zero=>intro r s t s2 r2 h;cases h
 | succ f ih =>
  intro r s t s2 r2 h
  rw [rdT] at h
  split at h
  ·cases h
  ·rename_i hr
   split at h
   ·cases h
   ·rename_i n s3 h3
    obtain ⟨c1,c2,c3⟩:=rdNum_sound h3
    have hw:s=hdT (kdOf s) n++s3:=by
     rw [hdT,List.append_assoc,←c1]
     exact kdOf_word s
    have hok:∀m,m=kn (kdOf s)→okF (kdOf s) n m=true:=by
     intro m hm
     have hr:=bp s
     simp only [okF,Bool.and_eq_true,decide_eq_true_iff]
     refine ⟨⟨hr,hm⟩,?_⟩
     cases hk:nb (kdOf s) with
     | true=>simpa using c2 hk
     | false=>simpa using c3 hk
    split at h
    ·rename_i hk0
     simp only [Option.some.injEq,Prod.mk.injEq] at h
     obtain ⟨rfl,rfl,rfl⟩:=h
     refine ⟨by rw [txt_0 hk0];exact hw,?_,by rw [cnt_mk];simp;omega⟩
     rw [ok_mk,hok _ (by rw [hk0];rfl)];rfl
    ·rename_i hk0
     split at h
     ·cases h
     ·rename_i l s4 r4 h4
      obtain ⟨b1,b2,b3,b4⟩:=rdK_sound ih _ _ _ _ _ _ _ h4
      split at h
      ·rename_i hp
       simp only [Option.some.injEq,Prod.mk.injEq] at h
       obtain ⟨rfl,rfl,rfl⟩:=h
       refine ⟨?_,?_,by rw [cnt_mk];omega⟩
       ·rw [txt_k hk0 b2]
        refine hw.trans ?_
        rw [b1,hp_one hp]
        simp
       ·rw [ok_mk,hok _ b2,b3];rfl
      ·cases h
theorem hp_mark (c:UInt8) (r:List UInt8):Lib.hasPrefix (c::r) [c]=true:=hp_of [c] r
theorem txtK_head {l:List Tm} (s:List UInt8):noD (txtK 44 l++41::s):=by
 cases l with
 | nil=>exact fc rfl
 | cons t l=>exact fc rfl
def Full (b:Nat) (g:Nat→List UInt8→Option (Tm×List UInt8×Nat)):Prop:=∀t,okT t=true→∀r s,cnt t≤r→cnt t≤b→noD s→g r (txt t++s)=some (t,s,r - cnt t)
theorem rdK_full {b:Nat} {g:Nat→List UInt8→Option (Tm×List UInt8×Nat)} (hg:Full b g):∀(l:List Tm) (mark:UInt8) (s:List UInt8) (r:Nat),l.all okT=true→(l.map cnt).sum≤r→(l.map cnt).sum≤b→rdK g l.length mark (txtK mark l++41::s) r=some (l,41::s,r - (l.map cnt).sum):=by
 intro l
 induction l with
 | nil=>intro mark s r _ _ _;rfl
 | cons t l ih =>
  intro mark s r ho hr hb
  simp only [List.all_cons,Bool.and_eq_true] at ho
  simp only [List.map_cons,List.sum_cons] at hr hb
  rw [List.length_cons,rdK,txtK,List.cons_append,hp_mark,if_pos rfl,List.drop_succ_cons,List.drop_zero,List.append_assoc,hg t ho.1 r _ (by omega) (by omega) (txtK_head s)]
  simp only
  rw [ih 44 s (r - cnt t) ho.2 (by omega) (by omega)]
  simp
  omega
theorem kdOf_hd {k n:Int} {m:Nat} (h:okF k n m=true) (s:List UInt8) (hs:k=4→∃r,s=40::r):kdOf (hdT k n++s)=k:=by
 have hr:=okF_k h
 have:k=1∨k=2∨k=3∨k=4∨k=5:=by omega
 rcases this with rfl|rfl|rfl|rfl|rfl
 ·rfl
 ·rfl
 ·rfl
 ·obtain ⟨r,rfl⟩:=hs rfl;rfl
 ·rfl
theorem fd:∀f,Full f (rdT f):=by
 intro f
 induction f with
 | zero=>intro t _ r s h1 h2;have:=eH t;omega
 | succ f ih =>
  intro t ho r s hr hb hs
  obtain ⟨k,n,l,rfl⟩:∃k n l,t=mkT k n l:=⟨t.k,t.n,t.l,t.eta.symm⟩
  rw [ok_mk,Bool.and_eq_true] at ho
  rw [cnt_mk] at hr hb ⊢
  have hl:=bg ho.1
  by_cases hk0:kn k=0
  ·have hl0:l=[]:=List.eq_nil_of_length_eq_zero (by omega)
   subst hl0
   rw [txt_0 hk0,rdT,if_neg (by omega)]
   have hkd:kdOf (hdT k n++s)=k:=kdOf_hd ho.1 s (fun h=>by subst h;exact absurd hk0 (by decide))
   rw [hkd,hdT,List.append_assoc,List.drop_append_of_le_length (Nat.le_refl _),List.drop_length,List.nil_append,eY ho.1 (fun _=>hs)]
   simp only [hk0,if_true]
   simp
  ·rw [txt_k hk0 hl,rdT,if_neg (by omega)]
   have hne:l≠[]:=by intro he;subst he;exact hk0 hl.symm
   have hx:∃x,txtK 40 l++[41]++s=40::x:=by
    cases l with
    | nil=>exact absurd rfl hne
    | cons t l=>exact ⟨_,rfl⟩
   have e1:hdT k n++txtK 40 l++[41]++s=hdT k n++(txtK 40 l++[41]++s):=by simp
   have e2:txtK 40 l++[41]++s=txtK 40 l++41::s:=by simp
   rw [e1]
   have hkd:kdOf (hdT k n++(txtK 40 l++[41]++s))=k:=kdOf_hd ho.1 _ (fun _=>hx)
   have hnd:noD (txtK 40 l++[41]++s):=by obtain ⟨x,hx⟩:=hx;rw [hx];exact fc rfl
   rw [hkd,hdT,List.append_assoc,List.drop_append_of_le_length (Nat.le_refl _),List.drop_length,List.nil_append,eY ho.1 (fun _=>hnd)]
   simp only [hk0,if_false]
   rw [e2,←hl,rdK_full ih l 40 s (r - 1) ho.2 (by omega) (by omega)]
   simp only [hp_mark,if_true,List.drop_succ_cons,List.drop_zero]
   congr 3
   omega
def parseT (s:List UInt8):Option Tm :=
 match rdT 60 60 s with
 | some (t,[],_)=>some t
 | _=>none
theorem eL {a b:Tm} (ha:okT a=true) (hb:okT b=true) (h:txt a=txt b):a=b:=by
 have h1:=fd (cnt a+cnt b) a ha (cnt a+cnt b) [] (by omega) (by omega) noD_nil
 have h2:=fd (cnt a+cnt b) b hb (cnt a+cnt b) [] (by omega) (by omega) noD_nil
 rw [h,h2] at h1
 simp only [Option.some.injEq,Prod.mk.injEq] at h1
 exact h1.1.symm
open Go Go.RowKit
def SegV (w:World) (b off:Nat) (cs:List Value):Prop:=∀j u,cs[j]?=some u→w.cell? ⟨b,off+j,none⟩=some u
def SlV (K:Nat) (w:World) (v:Value) (n:Nat) (cs:List Value):Prop :=
 ∃p cap,v=.slice p n cap∧n≤cap∧cs.length=n * K∧(0<n→∃b off,p=some ⟨b,off,none⟩∧SegV w b off cs)
theorem SegV.below {w w':World} {b off:Nat} {cs:List Value} (h:SegV w b off cs) (hb:Below w.heap.size w w'):SegV w' b off cs:=by
 intro j u hu
 have h1:=h j u hu
 rw [hb.cell (p:=⟨b,off+j,none⟩) (block_lt_of_cell h1)]
 exact h1
theorem SlV.below {K:Nat} {w w':World} {v:Value} {n:Nat} {cs:List Value} (h:SlV K w v n cs) (hb:Below w.heap.size w w'):SlV K w' v n cs:=by
 obtain ⟨p,cap,hv,hc,hl,hs⟩:=h
 refine ⟨p,cap,hv,hc,hl,fun h0=>?_⟩
 obtain ⟨b,off,hp,hseg⟩:=hs h0
 exact ⟨b,off,hp,hseg.below hb⟩
theorem SlV.nil (K:Nat) (w:World):SlV K w (.slice none 0 0) 0 []:=⟨none,0,rfl,Nat.le_refl _,by simp,fun h=>absurd h (by omega)⟩
theorem SlV.len {K:Nat} {w:World} {v:Value} {n:Nat} {cs:List Value} (h:SlV K w v n cs):∃p cap,v=.slice p n cap∧n≤cap:=by
 obtain ⟨p,cap,hv,hc,_⟩:=h
 exact ⟨p,cap,hv,hc⟩
theorem SlV.at {K:Nat} {w:World} {p:Option Addr} {n cap:Nat} {cs:List Value} (h:SlV K w (.slice p n cap) n cs) (h0:0<n):∃b off,p=some ⟨b,off,none⟩∧SegV w b off cs:=by
 obtain ⟨q,c,hv,_,_,hs⟩:=h
 simp only [Value.slice.injEq] at hv
 obtain ⟨rfl,_,rfl⟩:=hv
 exact hs h0
def strs (l:List ByteArray):List Value:=l.map .string
theorem bU {B:Nat} {w0 w w':World} (h:Below B w0 w) (hB:B≤w.heap.size) (hm:Below w.heap.size w w'):Below B w0 w':=h.trans (hm.mono hB)
theorem bK {w:World} {base:Nat} {e:TypeId} {K:Nat} {v:Value} {n:Nat} {cs:List Value} (h:w.ownsRow base e K v n cs):SlV K w v n cs:=by
 have h0:=h
 obtain ⟨hl,h2⟩:=h
 rcases h2 with ⟨rfl,hn⟩|⟨g,cap,cur,rfl,hb,hh,hn,_,_,_⟩
 ·exact ⟨none,0,by rw [hn],by omega,hl,fun h=>absurd h (by omega)⟩
 ·refine ⟨_,cap,rfl,hn,hl,fun _=>⟨g,0,rfl,fun j u hu=>?_⟩⟩
  have:=World.ownsRow.cells h0 rfl j u hu
  rw [aQ] at this
  exact this
theorem aK {w w':World} {base:Nat} {e:TypeId} {K:Nat} {v:Value} {n:Nat} {cs:List Value} (h:w.ownsRow base e K v n cs) (hb:Below w.heap.size w w'):w'.ownsRow base e K v n cs :=
 World.ownsRow.kept h (dc hb) (by cases h':v.ownBlock<;>simp)
theorem cE {B:Nat} {w0 w w':World} {e:TypeId} {K:Nat} {v:Value} {n:Nat} {cs:List Value} (hb:Below B w0 w) (hB:B≤w.heap.size) (h:w.ownsRow B e K v n cs) (hg:w.grownBy w' v.ownBlock):Below B w0 w':=by
 refine ⟨hg.os.trans hb.os,hg.tape.trans hb.tape,hg.output.trans hb.output,Nat.le_trans hb.size hg.size,fun k hk=>?_⟩
 refine (hg.block k (Nat.lt_of_lt_of_le hk hB) (fun he=>?_)).trans (hb.block k hk)
 have:=(World.ownsRow.lt h k he.symm).1
 omega
section
variable {P:Program} {ops:Array Oper} {rest:List Oper} {a:Act} {w w0:World} {Q:Exit→Act→World→Prop} {dst:Option Tmp} {typ:TypeId} {pos:String} {aft:Array Edge} {gd:Option (Nat×Bool)} {S:List Nat} {rows:List (Nat×List Value×TypeId)}
theorem bP {s x:Operand} {t e:TypeId} (z:Value) (K bytes:Nat) (hw:Region.wanted {dst:=dst,op:=.call {callee:=.builtin .append,args:=#[s,x],argTypes:=#[t,t]},type:=typ,pos:=pos,after:=aft,guard:=gd} (yielded ops a.tmps)=true)
  (ht:P.underlying t=some (.slice e)) (hi:(P.info? e).map (fun i=>(i.zero,i.size,i.bytes))=some (some z,K,bytes)) (hz:z.cells.size=K) (hK0:0<K) (hby:bytes≤100) {v:Value} {n base g:Nat} {cs new:List Value} (hown:w.ownsRow base e K v n cs) (hbase:base≤w.heap.size)
  (hs:a.eval s=v) (hx:a.eval x=.slice (some ⟨g,0,none⟩) 1 1) (hr:Row w g new e) (hl:new.length=K) (h1:∀u∈new,u.oneCell'=true) (hn:n≤100000)
  (h:∀v' w',w'.ownsRow base e K v' (n+1) (cs++new)→w.grownBy w' v.ownBlock→(v'.ownBlock=v.ownBlock∨v'.ownBlock=some w.heap.size)→wpList P ops Q rest (a.put dst v') w') :
  wpList P ops Q ({dst:=dst,op:=.call {callee:=.builtin .append,args:=#[s,x],argTypes:=#[t,t]},type:=typ,pos:=pos,after:=aft,guard:=gd}::rest) a w:=by
 cases hq:P.info? e with
 | none=>simp [hq] at hi
 | some i =>
  simp only [hq,Option.map_some,Option.some.injEq,Prod.mk.injEq] at hi
  obtain ⟨hz1,h2,h3⟩:=hi
  have hbd:(n+1) * bytes≤140737488355328:=by
   have:=Nat.mul_le_mul (show n+1≤100001 by omega) hby
   omega
  obtain ⟨v',w',hrun,ho,hg,_,hb⟩:=run_append_own_at (P:=P) w base t typ e i z K bytes ht hq hz1 h2 h3 hz hK0 v n cs hown ⟨g,0,none⟩ 1 1 new (by rw [hl];omega) (fun j u hu=>by rw [aQ,Nat.zero_add,hr.cell j];exact hu) h1 (by unfold maxLen;omega) hbd hbase
  refine wpList_step fun K hK=>?_
  rw [if_pos hw]
  have hh:=hK _ _ (h v' w' ho hg hb)
  unfold Oper.wp execOp
  simp only [resolve,invoke,builtin,Sem.run_bind,Sem.run_pure,Result.andThen_ok,List.map_toArray,List.map_cons,List.map_nil,hs,hx,hrun]
  exact hh
end
theorem dP:∀(l:List Value) (k:Nat) (cs:Array Value) (i:Nat),((l.zipIdx k).foldl (fun cs (p:Value×Nat)=>cs.setIfInBounds p.2 p.1) cs)[i]?=if k≤i∧i<k+l.length∧i<cs.size then l[i - k]? else cs[i]?
 | [],k,cs,i=>by
  rw [if_neg (by simp;omega)]
  rfl
 | x::r,k,cs,i=>by
  rw [List.zipIdx_cons,List.foldl_cons,dP r (k+1)]
  simp only [Array.size_setIfInBounds,List.length_cons]
  by_cases h1:k+1≤i∧i<k+1+r.length∧i<cs.size
  ·rw [if_pos h1,if_pos (by omega),show i - k=(i - (k+1))+1 by omega,List.getElem?_cons_succ]
  ·rw [if_neg h1,Array.getElem?_setIfInBounds]
   by_cases h2:k=i
   ·subst h2
    by_cases h3:k<cs.size
    ·simp [h3]
    ·simp [h3]
   ·rw [if_neg h2,if_neg (by omega)]
theorem run_bslK {P:Program} (w:World) {t elem:TypeId} (z l:List Value) (hu:P.underlying t=some (.slice elem)) (hi:(P.info? elem).map (fun i=>(i.zero,i.size))=some (some (.agg z.toArray),3)) (hz:z.length=3) (hl:l.length=3) :
  (Instr.buildSlice t 1 #[(0,.agg l.toArray)]).run P w=.ok (.slice (some ⟨w.heap.size,0,none⟩) 1 1) (w.alloc (.cells l.toArray elem)):=by
 obtain ⟨hz1,hs1⟩:=zero_of_info hi
 cases hq:P.info? elem with
 | none=>simp [hq] at hi
 | some qq =>
  have hs:qq.size=3:=by simpa [hq] using hs1
  have e:∀cs:Array Value,cs.size=3→List.foldl (fun (cs:Array Value) (x:Value×Nat)=>cs.setIfInBounds x.2 x.1) cs l.zipIdx=l.toArray:=by
   intro cs hcs
   apply Array.ext_getElem?
   intro i
   rw [dP l 0 cs i]
   by_cases h:i<3
   ·rw [if_pos (by omega)];simp
   ·rw [if_neg (by omega),Array.getElem?_eq_none (by omega),Array.getElem?_eq_none (by simp;omega)]
  simp [Instr.buildSlice,run_underlying hu,sizeOf,typeInfo,hq,hs,hz1,Value.cells,Instr.fill,hl,hz,newRow,newObj]
  rw [e _ (by simp)]
  rfl
section
variable {P:Program} {ops:Array Oper} {rest:List Oper} {a:Act} {w w0:World} {Q:Exit→Act→World→Prop} {dst:Option Tmp} {typ:TypeId} {pos:String} {aft:Array Edge} {gd:Option (Nat×Bool)} {S:List Nat} {rows:List (Nat×List Value×TypeId)}
theorem run_bsl1 (w:World) {t elem:TypeId} (z v:Value) (hu:P.underlying t=some (.slice elem)) (hi:(P.info? elem).map (fun i=>(i.zero,i.size))=some (some z,1)) (hz:z.cells=#[z]) (hv:v.cells=#[v]) :
  (Instr.buildSlice t 1 #[(0,v)]).run P w=.ok (.slice (some ⟨w.heap.size,0,none⟩) 1 1) (w.alloc (.cells [v].toArray elem)):=by
 obtain ⟨hz1,hs1⟩:=zero_of_info hi
 cases hq:P.info? elem with
 | none=>simp [hq] at hi
 | some q =>
  have hs:q.size=1:=by simpa [hq] using hs1
  have e:Array.map (fun x=>([z][x % 1]?).getD default) (Array.range 1)=#[z]:=by
   apply Array.ext
   ·simp
   ·intro i h1 h2
    have h3:i=0:=by simpa using h2
    subst h3
    simp
  simp [Instr.buildSlice,run_underlying hu,sizeOf,typeInfo,hq,hs,hz1,hz,Instr.fill,hv,newRow,newObj]
  rw [e]
  rfl
theorem bL {t elem:TypeId} {x:Operand} (hw:Region.wanted {dst:=dst,op:=.buildSlice t 1 #[(0,x)],type:=typ,pos:=pos,after:=aft,guard:=gd} (yielded ops a.tmps)=true) (z v:Value) (hu:P.underlying t=some (.slice elem)) (hi:(P.info? elem).map (fun i=>(i.zero,i.size))=some (some z,1)) (hz:z.cells=#[z]) (hx:a.eval x=v) (hv:v.cells=#[v]) (hm:Mem w0 S w rows)
  (h:∀w' g,Below w.heap.size w w'→Mem w0 S w' ((g,[v],elem)::rows)→wpList P ops Q rest (a.put dst (.slice (some ⟨g,0,none⟩) 1 1)) w') :
  wpList P ops Q ({dst:=dst,op:=.buildSlice t 1 #[(0,x)],type:=typ,pos:=pos,after:=aft,guard:=gd}::rest) a w:=by
 refine wpList_step fun K hK=>?_
 rw [if_pos hw]
 have hh:=hK _ _ (h _ _ ((Below.refl _ _).alloc (Nat.le_refl _) _) (hm.alloc [v] elem))
 unfold Oper.wp execOp
 simp only [List.map_toArray,List.map_cons,List.map_nil,hx,run_bsl1 (P:=P) w z v hu hi hz hv,Sem.run_bind,Sem.run_pure,Result.andThen_ok]
 exact hh
end
section
variable {P:Program}
theorem cf (w:World) (g off n:Nat) (ty:TypeId) (cs:List Value) (d:TypeDesc) (hc:∀j v,cs[j]?=some v→w.cell? ⟨g,off+j,none⟩=some v) (hu:P.underlying ty=some d)
  (hd:(match d with | .struct _ | .array _ _=>true|_=>false)=true) (hi:(P.info? ty).map (·.size)=some n) (hn:cs.length=n) :
  (loadVar ty ⟨g,off,none⟩).run P w=.ok (.agg cs.toArray) w:=by
 have hl:(loadCells ⟨g,off,none⟩ cs.length).run P w=.ok cs.toArray w :=
  run_loadCells_list (P:=P) w ⟨g,off,none⟩ cs (fun j v hv=>by rw [aQ];exact hc j v hv)
 rw [hn] at hl
 cases hq:P.info? ty with
 | none=>simp [hq] at hi
 | some i =>
  have hs:i.size=n:=by simpa [hq] using hi
  have hagg:(isAgg ty).run P w=.ok true w:=by
   unfold isAgg
   rw [Sem.run_bind,run_underlying hu w]
   cases d<;>simp_all
  simp [loadVar,Sem.run_bind,hagg,sizeOf,typeInfo,hq,hs,hl]
end
open Go Go.RowKit
def tcF:List Tm→List (Value→Prop)→List Value→Prop
 | t::l,p::r,cs=>∃s cs',cs=.int .i64 t.k::.int .i64 t.n::s::cs'∧p s∧tcF l r cs'
 | _,_,cs=>cs=[]
def KS (F:Nat→Prop) (w:World):Tm→Value→Prop :=
 foldT fun t r v=>∃p cap cs,v=.slice p r.length cap∧r.length≤cap∧tcF t.l r cs∧(0<r.length→∃b o,p=some ⟨b,o,none⟩∧F b∧SegV w b o cs)
def TC (F:Nat→Prop) (w:World):List Tm→List Value→Prop
 | [],cs=>cs=[]
 | t::l,cs=>∃s cs',cs=.int .i64 t.k::.int .i64 t.n::s::cs'∧KS F w t s∧TC F w l cs'
def SlT (F:Nat→Prop) (w:World) (v:Value) (l:List Tm):Prop :=
 ∃p cap cs,v=.slice p l.length cap∧l.length≤cap∧TC F w l cs∧(0<l.length→∃b o,p=some ⟨b,o,none⟩∧F b∧SegV w b o cs)
def tcs (t:Tm) (s:Value):List Value:=[.int .i64 t.k,.int .i64 t.n,s]
theorem dr (t:Tm) (s:Value):(tcs t s).length=3:=rfl
section
variable {F F':Nat→Prop} {w w':World}
theorem tcF_iff (l:List Tm) (cs:List Value):tcF l (l.map (KS F w)) cs↔TC F w l cs:=by
 induction l generalizing cs with
 | nil=>exact Iff.rfl
 | cons t l ih =>
  simp only [List.map_cons,tcF,TC]
  constructor
  ·rintro ⟨s,cs',h1,h2,h3⟩;exact ⟨s,cs',h1,h2,(ih cs').1 h3⟩
  ·rintro ⟨s,cs',h1,h2,h3⟩;exact ⟨s,cs',h1,h2,(ih cs').2 h3⟩
theorem bH (t:Tm) (v:Value):KS F w t v↔SlT F w v t.l:=by
 unfold KS
 rw [cg]
 show (∃p cap cs,v=.slice p (t.l.map (KS F w)).length cap∧(t.l.map (KS F w)).length≤cap∧tcF t.l (t.l.map (KS F w)) cs∧(0<(t.l.map (KS F w)).length→∃b o,p=some ⟨b,o,none⟩∧F b∧SegV w b o cs))↔_
 simp only [List.length_map,tcF_iff]
 exact Iff.rfl
theorem TC.len {l:List Tm} {cs:List Value} (h:TC F w l cs):cs.length=l.length * 3:=by
 induction l generalizing cs with
 | nil=>rw [show cs=[] from h];rfl
 | cons t l ih =>
  obtain ⟨s,cs',rfl,_,h3⟩:=h
  simp only [List.length_cons,ih h3];omega
theorem TC.get {l:List Tm} {cs:List Value} (h:TC F w l cs) {i:Nat} {t:Tm} (ht:l[i]?=some t):∃s,cs[i * 3]?=some (.int .i64 t.k)∧cs[i * 3+1]?=some (.int .i64 t.n)∧cs[i * 3+2]?=some s∧KS F w t s:=by
 induction l generalizing cs i with
 | nil=>simp at ht
 | cons u l ih =>
  obtain ⟨s,cs',rfl,h2,h3⟩:=h
  cases i with
  | zero =>
   simp at ht;subst ht
   exact ⟨s,rfl,rfl,rfl,h2⟩
  | succ i =>
   obtain ⟨s',e1,e2,e3,e4⟩:=ih h3 (by simpa using ht)
   exact ⟨s',by rw [show (i+1) * 3=i * 3+3 by omega];simpa using e1,by rw [show (i+1) * 3+1=i * 3+1+3 by omega];simpa using e2,by rw [show (i+1) * 3+2=i * 3+2+3 by omega];simpa using e3,e4⟩
theorem TC.snoc {l:List Tm} {cs:List Value} (h:TC F w l cs) {t:Tm} {s:Value} (hs:KS F w t s):TC F w (l++[t]) (cs++[.int .i64 t.k,.int .i64 t.n,s]):=by
 induction l generalizing cs with
 | nil=>rw [show cs=[] from h];exact ⟨s,[],rfl,hs,rfl⟩
 | cons u l ih =>
  obtain ⟨s',cs',rfl,h2,h3⟩:=h
  exact ⟨s',_,rfl,h2,ih h3⟩
theorem TC.keep {l:List Tm} (H:∀t∈l,∀v,KS F w t v→KS F' w' t v) {cs:List Value} (h:TC F w l cs):TC F' w' l cs:=by
 induction l generalizing cs with
 | nil=>exact h
 | cons u l ih =>
  obtain ⟨s,cs',rfl,h2,h3⟩:=h
  exact ⟨s,cs',rfl,H u (List.mem_cons_self ..) s h2,ih (fun t ht=>H t (List.mem_cons_of_mem _ ht)) h3⟩
def Keeps (F F':Nat→Prop) (w w':World):Prop:=∀b,F b→F' b∧∀o u,w.cell? ⟨b,o,none⟩=some u→w'.cell? ⟨b,o,none⟩=some u
theorem SlT.keep1 (hk:Keeps F F' w w') {v:Value} {l:List Tm} (H:∀t∈l,∀v,KS F w t v→KS F' w' t v) (h:SlT F w v l):SlT F' w' v l:=by
 obtain ⟨p,cap,cs,hv,hc,ht,hs⟩:=h
 refine ⟨p,cap,cs,hv,hc,ht.keep H,fun h0=>?_⟩
 obtain ⟨b,o,hp,hF,hseg⟩:=hs h0
 exact ⟨b,o,hp,(hk b hF).1,fun j u hu=>(hk b hF).2 _ _ (hseg j u hu)⟩
theorem KS.keep (hk:Keeps F F' w w') (t:Tm):∀v,KS F w t v→KS F' w' t v:=by
 induction t using Tm.ind with
 | h t ih =>
  intro v h
  rw [bH] at h ⊢
  exact h.keep1 hk ih
theorem SlT.keep (hk:Keeps F F' w w') {v:Value} {l:List Tm} (h:SlT F w v l):SlT F' w' v l:=h.keep1 hk (fun t _=>KS.keep hk t)
theorem Keeps.below (hb:Below w.heap.size w w'):Keeps F F w w':=fun b hF=>⟨hF,fun o u hu=>by rw [hb.cell (p:=⟨b,o,none⟩) (block_lt_of_cell hu)];exact hu⟩
theorem Keeps.upd {g:Nat} (hu:Upd g w w') (hg:∀b,F b→b≠g):Keeps F F w w':=fun b hF=>⟨hF,fun o u h=>by rw [hu.cell (p:=⟨b,o,none⟩) (block_lt_of_cell h) (hg b hF)];exact h⟩
theorem Keeps.weak (h:∀b,F b→F' b):Keeps F F' w w:=fun b hF=>⟨h b hF,fun _ _ hu=>hu⟩
theorem Keeps.grown {x:Option Nat} (hg:w.grownBy w' x) (hx:∀b,F b→some b≠x):Keeps F F w w':=fun b hF=>⟨hF,fun o u h=>by
 rw [World.cell?_of_block (w:=w) (hg.block b (block_lt_of_cell (a:=⟨b,o,none⟩) h) (hx b hF))];exact h⟩
theorem SlT.below {v:Value} {l:List Tm} (h:SlT F w v l) (hb:Below w.heap.size w w'):SlT F w' v l:=h.keep (Keeps.below hb)
theorem SlT.weak {v:Value} {l:List Tm} (h:SlT F w v l) (hF:∀b,F b→F' b):SlT F' w v l:=h.keep (Keeps.weak hF)
theorem KS.below {t:Tm} {v:Value} (h:KS F w t v) (hb:Below w.heap.size w w'):KS F w' t v:=KS.keep (Keeps.below hb) t v h
theorem SlT.nil:SlT F w (.slice none 0 0) []:=⟨none,0,[],rfl,Nat.le_refl _,rfl,fun h=>absurd h (by simp)⟩
theorem SlT.len {v:Value} {l:List Tm} (h:SlT F w v l):∃p cap,v=.slice p l.length cap∧l.length≤cap:=by
 obtain ⟨p,cap,_,hv,hc,_⟩:=h;exact ⟨p,cap,hv,hc⟩
theorem SlT.at {p:Option Addr} {n cap:Nat} {l:List Tm} (h:SlT F w (.slice p n cap) l) (h0:0<n):∃b o,p=some ⟨b,o,none⟩:=by
 obtain ⟨q,c,cs,hv,_,_,hs⟩:=h
 simp only [Value.slice.injEq] at hv
 obtain ⟨rfl,hl,rfl⟩:=hv
 obtain ⟨b,o,hp,_⟩:=hs (by omega)
 exact ⟨b,o,hp⟩
theorem SlT.n {p:Option Addr} {n cap:Nat} {l:List Tm} (h:SlT F w (.slice p n cap) l):n=l.length:=by
 obtain ⟨q,c,cs,hv,_⟩:=h
 simp only [Value.slice.injEq] at hv
 exact hv.2.1
/-- The three cells of an element, and what its last one holds. -/
theorem SlT.cells {b o n cap:Nat} {l:List Tm} (h:SlT F w (.slice (some ⟨b,o,none⟩) n cap) l) {i:Nat} {t:Tm} (ht:l[i]?=some t) :
  ∃p m c,w.cell? ⟨b,o+i * 3,none⟩=some (.int .i64 t.k)∧w.cell? ⟨b,o+i * 3+1,none⟩=some (.int .i64 t.n)∧w.cell? ⟨b,o+i * 3+2,none⟩=some (.slice p m c)∧m=t.l.length∧SlT F w (.slice p m c) t.l:=by
 obtain ⟨q,c,cs,hv,_,ht2,hs⟩:=h
 simp only [Value.slice.injEq] at hv
 obtain ⟨rfl,hl,rfl⟩:=hv
 have h0:0<l.length:=by have:=(List.getElem?_eq_some_iff.1 ht).1;omega
 obtain ⟨b',o',hp,_,hseg⟩:=hs h0
 simp only [Option.some.injEq,Addr.mk.injEq] at hp
 obtain ⟨rfl,rfl,_⟩:=hp
 obtain ⟨s,e1,e2,e3,e4⟩:=ht2.get ht
 rw [bH] at e4
 obtain ⟨p,cap,hs,_⟩:=e4.len
 subst hs
 exact ⟨p,_,cap,hseg _ _ e1,by rw [Nat.add_assoc];exact hseg _ _ e2,by rw [Nat.add_assoc];exact hseg _ _ e3,rfl,e4⟩
end
section
variable {ops:Array Oper} {rest:List Oper} {a:Act} {w w0:World} {Q:Exit→Act→World→Prop} {dst:Option Tmp} {typ:TypeId} {pos:String} {aft:Array Edge} {gd:Option (Nat×Bool)} {S:List Nat} {rows:List (Nat×List Value×TypeId)}
theorem ak {x ix:Operand} {b o n cap:Nat} (i:Nat) {ii:Int} (hx:a.eval x=.slice (some ⟨b,o,none⟩) n cap) (hix:a.eval ix=.int .i64 ii) (hii:ii=(i:Int)) (hi:i<n) :
  (execOp a.eval {dst:=dst,op:=.indexAddr 22 x ix,type:=typ,pos:=pos,after:=aft,guard:=gd}).run Tryz.prog w=.ok (.value (.pointer (some ⟨b,o+i * 3,none⟩))) w:=by
 subst hii
 have h0:(0:Int)≤(i:Int)∧(i:Int)<(n:Int):=by omega
 unfold execOp
 simp [hx,hix,Instr.indexAt,asIntOf,run_underlying aZ,h0,aQ]
 omega
theorem am {x:Operand} {b o:Nat} {t:Tm} {s:Value} (hx:a.eval x=.pointer (some ⟨b,o,none⟩)) (h0:w.cell? ⟨b,o,none⟩=some (.int .i64 t.k)) (h1:w.cell? ⟨b,o+1,none⟩=some (.int .i64 t.n)) (h2:w.cell? ⟨b,o+2,none⟩=some s) :
  (execOp a.eval {dst:=dst,op:=.load 24 x,type:=typ,pos:=pos,after:=aft,guard:=gd}).run Tryz.prog w=.ok (.value (.agg (tcs t s).toArray)) w:=by
 obtain ⟨fs,hfs⟩:=un_term
 have hc:∀j u,[Value.int .i64 t.k,Value.int .i64 t.n,s][j]?=some u→w.cell? ⟨b,o+j,none⟩=some u:=by
  intro j u hu
  match j with
  | 0=>simp at hu;subst hu;exact h0
  | 1=>simp at hu;subst hu;exact h1
  | 2=>simp at hu;subst hu;exact h2
  | j+3=>simp at hu
 unfold execOp
 simp only [hx,Instr.loadAt,Instr.sureAddr,Sem.run_bind,Sem.run_pure,Result.andThen_ok,cf w b o 3 24 _ (.struct fs) hc hfs rfl aj rfl]
 rfl
theorem ad {ty:TypeId} {x:Operand} {b j:Nat} (v:Value) (hc:w.cell? ⟨b,j,none⟩=some v) (hx:a.eval x=.pointer (some ⟨b,j,none⟩)) (ha:∀w,(isAgg ty).run Tryz.prog w=.ok false w) :
  (execOp a.eval {dst:=dst,op:=.load ty x,type:=typ,pos:=pos,after:=aft,guard:=gd}).run Tryz.prog w=.ok (.value v) w:=by
 have hld:(loadVar ty ⟨b,j,none⟩).run Tryz.prog w=.ok v w:=by simp [loadVar,ha,go_sem,hc]
 unfold execOp
 simp only [hx,Instr.loadAt,Instr.sureAddr,Sem.run_bind,Sem.run_pure,Result.andThen_ok,hld]
theorem wpl_bslT {x:Operand} (t:Tm) (s:Value) (hw:Region.wanted {dst:=dst,op:=.buildSlice 22 1 #[(0,x)],type:=typ,pos:=pos,after:=aft,guard:=gd} (yielded ops a.tmps)=true) (hx:a.eval x=.agg (tcs t s).toArray) (hm:Mem w0 S w rows)
  (h:∀w' g,Below w.heap.size w w'→Mem w0 S w' ((g,tcs t s,24)::rows)→wpList Tryz.prog ops Q rest (a.put dst (.slice (some ⟨g,0,none⟩) 1 1)) w') :
  wpList Tryz.prog ops Q ({dst:=dst,op:=.buildSlice 22 1 #[(0,x)],type:=typ,pos:=pos,after:=aft,guard:=gd}::rest) a w:=by
 refine wpList_step fun K hK=>?_
 rw [if_pos hw]
 have hh:=hK _ _ (h _ _ ((Below.refl _ _).alloc (Nat.le_refl _) _) (hm.alloc (tcs t s) 24))
 unfold Oper.wp execOp
 simp only [List.map_toArray,List.map_cons,List.map_nil,hx,run_bslK (P:=Tryz.prog) w _ (tcs t s) aZ cM rfl rfl,Sem.run_bind,Sem.run_pure,Result.andThen_ok]
 exact hh
end
section
variable {P:Program} {a:Act} {w w0:World} {S:List Nat} {rows:List (Nat×List Value×TypeId)}
theorem bJ {fn:Func} {R:Ending→World→Prop} {p u:Tmp} {ty:TypeId} (i:Nat) {g:Nat} {l:List Value} {t:TypeId} (v:Value) (hm:Mem w0 S w rows) (hi:rows[i]?=some (g,l,t))
  (hres:fn.results=#[.cell p ty,.tmp u]) (hp:a.tmps.getD p undef=.pointer (some ⟨g,0,none⟩)) (hv:a.tmps.getD u undef=v) (d:TypeDesc) (hu:P.underlying ty=some d) (hd:(match d with | .struct _ | .array _ _=>true|_=>false)=true)
  (n:Nat) (hs:(P.info? ty).map (·.size)=some n) (hn:l.length=n) (hd0:a.defers=[]) (hR:R (.returned (.tuple #[.agg l.toArray,v])) w):bodyPost P fn R .ret a w:=by
 refine bodyPost_ret ?_ hd0 hR
 rw [results_cell_tmp hres,hp,hv]
 have hl:=run_loadVar_row (P:=P) w g t ty l.toArray (0,0) d (hm.get i hi) hu hd (by rw [hs];simp [hn])
 simp [asAddr,hl]
end
open Go Go.RowKit Go.Maps
def rdV (v:Value):Option (DataW Value×List MemPlace):=some (.held v,[])
theorem rdV_inj {v:Value} {D:DataW Value} {ps:List MemPlace} (h:rdV v=some (D,ps)):D=.held v:=by
 unfold rdV at h
 simp only [Option.some.injEq,Prod.mk.injEq] at h
 exact h.1.symm
theorem b8 {w:World} {g m:Nat} {l:List Value} {t:TypeId} {es:Array MapEntry} {c:Nat} (hr:Row w g l t) (hm:w.heap[m]?=some (.map es c)):g≠m:=by
 rintro rfl
 unfold Row at hr
 rw [hr] at hm
 cases hm
def KM (P:Program) (kT:TypeId) (w:World) (m q:Nat) (p:Value→Value→Prop):Prop :=
 ∃D,w.ownsMap P kT rdV m q D∧(∀k kl,keyOf P kT k=some kl→(Maps.has D kl=true↔∃v,p k v))∧(∀k kl v z,keyOf P kT k=some kl→p k v→D.atKey kl z=.held v)
def putK (p:Value→Value→Prop) (key val:Value):Value→Value→Prop:=fun k v=>(k=key∧v=val)∨(k≠key∧p k v)
section
variable {P:Program} {kT:TypeId} {w w':World} {m q:Nat} {p:Value→Value→Prop}
theorem KM.isMap (h:KM P kT w m q p):∃es c,w.heap[m]?=some (.map es c):=by
 obtain ⟨D,⟨es,c,hb,_⟩,_⟩:=h
 exact ⟨es,c,hb⟩
theorem KM.lt (h:KM P kT w m q p):m<w.heap.size:=by
 obtain ⟨D,ho,_⟩:=h
 exact ho.lt
theorem KM.keep (h:KM P kT w m q p) (hk:w'.heap[m]?=w.heap[m]?):KM P kT w' m q p:=by
 obtain ⟨D,⟨es,c,hb,F,hs,hD⟩,pm⟩:=h
 exact ⟨D,⟨es,c,by rw [hk];exact hb,F,hs,hD⟩,pm⟩
theorem KM.below (h:KM P kT w m q p) (hb:Below w.heap.size w w'):KM P kT w' m q p:=h.keep (hb.block m h.lt)
theorem KM.upd {g:Nat} (h:KM P kT w m q p) (hu:Upd g w w') (hg:g≠m):KM P kT w' m q p:=h.keep (hu.block m h.lt (fun e=>hg e.symm))
theorem KM.new (h:w.heap[m]?=some (.map #[] 0)):KM P kT w m 0 (fun _ _=>False) :=
 ⟨.map [],⟨#[],0,h,⟨by simp,MapKept.stamped_empty 0,by simp⟩,Nat.le_refl _,rfl⟩,fun k kl _=>by simp [Maps.has],fun _ _ _ _ _ h=>h.elim⟩
theorem KM.same {p':Value→Value→Prop} (h:KM P kT w m q p) (hp:∀k v,p k v↔p' k v):KM P kT w m q p':=by
 obtain ⟨D,ho,h1,h2⟩:=h
 exact ⟨D,ho,fun k kl hk=>(h1 k kl hk).trans ⟨fun ⟨v,hv⟩=>⟨v,(hp k v).1 hv⟩,fun ⟨v,hv⟩=>⟨v,(hp k v).2 hv⟩⟩,fun k kl v z hk hv=>h2 k kl v z hk ((hp k v).2 hv)⟩
theorem KM.look (h:KM P kT w m q p) (K:Keyed P kT) {t e:TypeId} (ht:P.underlying t=some (.map kT e)) {z:Value} (hz:(zeroValue e).run P w=.ok z w) {key v:Value} {kl:Lit} (hk:keyOf P kT key=some kl) (hp:p key v) :
  (Instr.lookup t (.map (some m)) key true).run P w=.ok (.tuple #[v,.bool true]) w:=by
 obtain ⟨D,ho,h1,h2⟩:=h
 obtain ⟨u,ps,hr,hv⟩:=ho.look_ok K ht hz (show rdV z=some (.held z,[]) from rfl) hk
 have e1:=rdV_inj hv
 rw [h2 key kl v _ hk hp] at e1
 simp only [DataW.held.injEq] at e1
 rw [hr,e1,(h1 key kl hk).2 ⟨v,hp⟩]
theorem KM.lookNo (h:KM P kT w m q p) (K:Keyed P kT) {t e:TypeId} (ht:P.underlying t=some (.map kT e)) {z:Value} (hz:(zeroValue e).run P w=.ok z w) {key:Value} {kl:Lit} (hk:keyOf P kT key=some kl) (hp:∀v,¬p key v) :
  (Instr.lookup t (.map (some m)) key true).run P w=.ok (.tuple #[z,.bool false]) w:=by
 obtain ⟨D,ho,h1,h2⟩:=h
 obtain ⟨u,ps,hr,hv⟩:=ho.look_ok K ht hz (show rdV z=some (.held z,[]) from rfl) hk
 have e1:=rdV_inj hv
 have hn:Maps.has D kl=false:=by
  cases hh:Maps.has D kl with
  | false=>rfl
  | true=>obtain ⟨v,hv⟩:=(h1 key kl hk).1 hh;exact absurd hv (hp v)
 rw [atKey_of_not_has hn] at e1
 simp only [DataW.held.injEq] at e1
 rw [hr,←e1,hn]
theorem KM.putRun (h:KM P kT w m q p) (K:Keyed P kT) {t e:TypeId} (ht:P.underlying t=some (.map kT e)) (hq:q<1000000) {key:Value} {kl:Lit} (hk:keyOf P kT key=some kl) (val:Value) :
  ∃w',(Instr.mapUpdate t (.map (some m)) key val).run P w=.ok () w'∧KM P kT w' m (q+1) (putK p key val)∧Upd m w w':=by
 obtain ⟨D,ho,h1,h2⟩:=h
 obtain ⟨w',hr,ho2,hg⟩:=ho.update K ht (by unfold maxLen;omega) hk (d:=.held val) (ps:=[]) (val:=val) rfl
 refine ⟨w',hr,⟨_,ho2,fun k kl' hk'=>?_,fun k kl' v z hk' hv=>?_⟩,⟨hg.os,hg.tape,hg.output,hg.size,fun k hk hne=>hg.block k hk (by simpa using hne)⟩⟩
 ·by_cases he:kl'=kl
  ·subst he
   rw [has_put_same ho.isMap (K.key hk)]
   have e2:k=key:=K.inj hk' hk
   exact ⟨fun _=>⟨val,Or.inl ⟨e2,rfl⟩⟩,fun _=>rfl⟩
  ·have e2:k≠key:=fun e=>he (by subst e;exact Option.some.inj (hk'.symm.trans hk))
   rw [has_put_other he,h1 k kl' hk']
   constructor
   ·rintro ⟨v,hv⟩;exact ⟨v,Or.inr ⟨e2,hv⟩⟩
   ·rintro ⟨v,hv⟩
    rcases hv with ⟨e3,_⟩|⟨_,hv⟩
    ·exact absurd e3 e2
    ·exact ⟨v,hv⟩
 ·by_cases he:kl'=kl
  ·subst he
   have e2:k=key:=K.inj hk' hk
   rw [atKey_put_same ho.isMap (K.key hk)]
   rcases hv with ⟨_,e3⟩|⟨e3,_⟩
   ·rw [e3]
   ·exact absurd e2 e3
  ·have e2:k≠key:=fun e=>he (by subst e;exact Option.some.inj (hk'.symm.trans hk))
   rw [atKey_put_other he]
   rcases hv with ⟨e3,_⟩|⟨_,hv⟩
   ·exact absurd e3 e2
   ·exact h2 k kl' v z hk' hv
end
section
variable {P:Program} {kT:TypeId} {ops:Array Oper} {rest:List Oper} {a:Act} {w w0 w':World} {Q:Exit→Act→World→Prop} {dst:Option Tmp} {typ:TypeId} {pos:String} {aft:Array Edge} {gd:Option (Nat×Bool)} {S:List Nat} {rows:List (Nat×List Value×TypeId)} {m q:Nat} {p:Value→Value→Prop}
theorem wpl_mkmap {ty:TypeId} (hm:Mem w0 S w rows) (h:∀w' m,w'.heap[m]?=some (.map #[] 0)→w0.heap.size≤m→Mem w0 S w' rows→wpList P ops Q rest (a.put dst (.map (some m))) w') :
  wpList P ops Q ({dst:=dst,op:=.makeMap ty none,type:=typ,pos:=pos,after:=aft,guard:=none}::rest) a w:=by
 refine wpList_plain rfl fun K hK=>?_
 have hh:=hK _ _ (h (w.alloc (.map #[] 0)) w.heap.size (heap_alloc_new w _) hm.size (hm.allocO _))
 unfold Oper.wp execOp
 simp only [Option.map_none,run_makeMap,Sem.run_bind,Sem.run_pure,Result.andThen_ok]
 exact hh
theorem wpl_kmPut {x k y:Operand} {t e:TypeId} {key val:Value} {kl:Lit} (st:KM P kT w m q p) (K:Keyed P kT) (ht:P.underlying t=some (.map kT e)) (hq:q<1000000) (hkey:keyOf P kT key=some kl) (hx:a.eval x=.map (some m)) (hk:a.eval k=key) (hy:a.eval y=val)
  (h:∀w',KM P kT w' m (q+1) (putK p key val)→Upd m w w'→wpList P ops Q rest (a.put dst undef) w') :
  wpList P ops Q ({dst:=dst,op:=.mapUpdate t x k y,type:=typ,pos:=pos,after:=aft,guard:=none}::rest) a w:=by
 obtain ⟨w',hr,h1,h2⟩:=st.putRun K ht hq hkey val
 refine wpList_plain rfl fun K' hK'=>?_
 have hh:=hK' _ _ (h w' h1 h2)
 unfold Oper.wp
 simp [execOp,hx,hk,hy,hr,Result.andThen]
 exact hh
theorem exec_look {x k:Operand} {t:TypeId} {b:Bool} {key r:Value} (hr:(Instr.lookup t (.map (some m)) key b).run P w=.ok r w) (hx:a.eval x=.map (some m)) (hk:a.eval k=key) :
  (execOp a.eval {dst:=dst,op:=.lookup t x k b,type:=typ,pos:=pos,after:=aft,guard:=gd}).run P w=.ok (.value r) w:=by
 unfold execOp
 simp only [hx,hk,hr,Sem.run_bind,Sem.run_pure,Result.andThen_ok]
end
end Go.Proofs.YtcibhfcjbokdlaaGreatDoor
