import Derived.Test.YtnllomcajijbjaaGreatDoorQp00
import Derived.Laws.BitsAllLaws
import Derived.Test.YtnllomcajijbjaaGreatDoorRows
import Derived.Deep.QuietTactic
import Derived.BigQuiet
set_option maxRecDepth 100000
set_option maxHeartbeats 4000000
namespace Go.Proofs.YtnllomcajijbjaaGreatDoor
open Go Go.RowKit
theorem jc:Bytes []:=by intro x hx;cases hx
def keyCut (k:List Int):List Int:=if k.length≤64 then k else shaOf k
def fillOf (k:List Int):List Int:=keyCut k++List.replicate (64 - (keyCut k).length) 0
def xorB (l:List Int) (p:Int):List Int:=l.map fun x=>bits .xor .u8 x p
def padIn (k:List Int):List Int:=xorB (fillOf k) 54
def padOut (k:List Int):List Int:=xorB (fillOf k) 92
def macOf (k m:List Int):List Int:=shaOf (padOut k++shaOf (padIn k++m))
theorem keyCut_le (k:List Int):(keyCut k).length≤64:=by
 unfold keyCut
 split
 ·assumption
 ·rw [bC];omega
theorem keyCut_bytes {k:List Int} (h:Bytes k):Bytes (keyCut k):=by
 unfold keyCut
 split
 ·exact h
 ·exact fp _
theorem cK (k:List Int):(fillOf k).length=64:=by
 have:=keyCut_le k
 simp [fillOf];omega
theorem dG {k:List Int} (h:Bytes k):Bytes (fillOf k):=(keyCut_bytes h).append (Bytes.zeros _)
theorem xor_byte {x p:Int} (hx:0≤x∧x<256) (hp:0≤p∧p<256):0≤bits .xor .u8 x p∧bits .xor .u8 x p<256:=by
 rw [u8_xor x p hx.1 hx.2 hp.1 hp.2]
 have:x.toNat ^^^ p.toNat<2 ^ 8:=Nat.xor_lt_two_pow (by omega) (by omega)
 omega
theorem fd (l:List Int) (p:Int):(xorB l p).length=l.length:=by simp [xorB]
theorem ga {l:List Int} (h:Bytes l) {p:Int} (hp:0≤p∧p<256):Bytes (xorB l p):=by
 intro y hy
 obtain ⟨x,hx,rfl⟩:=List.mem_map.1 hy
 exact xor_byte (h x hx) hp
theorem gu (k:List Int):(padIn k).length=64:=by rw [padIn,fd,cK]
theorem fQ (k:List Int):(padOut k).length=64:=by rw [padOut,fd,cK]
theorem ip {k:List Int} (h:Bytes k):Bytes (padIn k):=ga (dG h) (by omega)
theorem gk {k:List Int} (h:Bytes k):Bytes (padOut k):=ga (dG h) (by omega)
theorem bw (k m:List Int):(macOf k m).length=32:=bC _
theorem en (k m:List Int):Bytes (macOf k m):=fp _
def xorUpto (l:List Int) (p:Int) (i:Nat):List Int:=xorB (l.take i) p++l.drop i
theorem fm (l:List Int) (p:Int) (i:Nat):(xorUpto l p i).length=l.length:=by simp [xorUpto,xorB];omega
theorem xorUpto_full (l:List Int) (p:Int) (i:Nat) (h:l.length≤i):xorUpto l p i=xorB l p:=by
 simp [xorUpto,List.take_of_length_le h,List.drop_of_length_le h]
theorem xorUpto_get (l:List Int) (p:Int) (i:Nat) (h:i<l.length):(xorUpto l p i).getD i 0=l.getD i 0:=by
 have e:min i l.length=i:=by omega
 simp [xorUpto,xorB,List.getElem?_append,e]
theorem xorUpto_set (l:List Int) (p:Int) (i:Nat) (h:i<l.length):(xorUpto l p i).set i (bits .xor .u8 (l.getD i 0) p)=xorUpto l p (i+1):=by
 unfold xorUpto
 have e:(xorB (l.take i) p).length=i:=by simp [xorB];omega
 rw [List.set_append_right _ _ (by omega),e,Nat.sub_self]
 have hd:l.drop i=l[i]::l.drop (i+1):=List.drop_eq_getElem_cons h
 rw [hd,List.set_cons_zero,List.take_succ_eq_append_getElem h,xorB,xorB,List.map_append,List.append_assoc]
 simp [h]
def pieceOf (k info:List Int):Nat→List Int
 | 0=>[]
 | i+1=>macOf k (pieceOf k info i++info++[((i+1:Nat):Int)])
theorem dd (k info:List Int) (i:Nat):(pieceOf k info (i+1)).length=32:=bw _ _
theorem pieceOf_le (k info:List Int) (i:Nat):(pieceOf k info i).length≤32:=by
 cases i with
 | zero=>simp [pieceOf]
 | succ i=>rw [dd];omega
theorem jB (k info:List Int) (i:Nat):Bytes (pieceOf k info i):=by
 cases i with
 | zero=>intro x hx;cases hx
 | succ i=>exact en _ _
def rowsOf (k info:List Int):Nat→List Int
 | 0=>[]
 | i+1=>rowsOf k info i++pieceOf k info (i+1)
theorem dy (k info:List Int) (i:Nat):(rowsOf k info i).length=32 * i:=by
 induction i with
 | zero=>rfl
 | succ i ih=>rw [rowsOf,List.length_append,ih,dd];omega
theorem rowsOf_take (k info:List Int) (i j n:Nat) (h:n≤32 * i):(rowsOf k info (i+j)).take n=(rowsOf k info i).take n:=by
 induction j with
 | zero=>rfl
 | succ j ih =>
  rw [←Nat.add_assoc,rowsOf,List.take_append_of_le_length (by rw [dy];omega),ih]
def expandOf (k info:List Int) (n:Nat):List Int:=(rowsOf k info ((n+31) / 32)).take n
theorem io (k info:List Int) (n i:Nat) (h:n≤32 * i):expandOf k info n=(rowsOf k info i).take n:=by
 unfold expandOf
 have h1:(n+31) / 32≤i:=by omega
 obtain ⟨j,rfl⟩:∃j,i=(n+31) / 32+j:=⟨i - (n+31) / 32,by omega⟩
 rw [rowsOf_take _ _ _ _ _ (by omega)]
theorem jA (k info:List Int) (i:Nat):expandOf k info (32 * i)=rowsOf k info i:=by
 rw [io k info (32 * i) i (Nat.le_refl _),List.take_of_length_le (by rw [dy];omega)]
theorem expandOf_32 (k info:List Int):expandOf k info 32=macOf k (info++[1]):=by
 rw [show 32=32 * 1 from rfl,jA]
 rfl
def outAt (k info:List Int) (n i:Nat):List Int:=(rowsOf k info i).take n++List.replicate (n - 32 * i) 0
theorem outAt_length (k info:List Int) (n i:Nat):(outAt k info n i).length=n:=by simp [outAt,dy];omega
theorem outAt_zero (k info:List Int) (n:Nat):outAt k info n 0=List.replicate n 0:=by simp [outAt,rowsOf]
theorem outAt_full (k info:List Int) (n i:Nat) (h:n≤32 * i):outAt k info n i=expandOf k info n:=by
 rw [io k info n i h,outAt,show n - 32 * i=0 by omega,List.replicate_zero,List.append_nil]
theorem outAt_step (k info:List Int) (n i:Nat) (h:32 * i<n):splice (outAt k info n i) (32 * i) ((pieceOf k info (i+1)).take (n - 32 * i))=outAt k info n (i+1):=by
 have hr:=dy k info i
 have hp:=dd k info i
 have e1:(rowsOf k info i).take n=rowsOf k info i:=List.take_of_length_le (by omega)
 unfold splice outAt
 rw [e1,List.take_append_of_le_length (by omega),List.take_of_length_le (l:=rowsOf k info i) (by omega)]
 rw [rowsOf,List.take_append,e1,hr,List.drop_append,hr,List.drop_of_length_le (by rw [hr];omega),List.nil_append]
 rw [List.append_assoc]
 refine congrArg (rowsOf k info i ++ ·) (congrArg (List.take (n - 32 * i) (pieceOf k info (i+1)) ++ ·) ?_)
 have hl:((pieceOf k info (i+1)).take (n - 32 * i)).length=min (n - 32 * i) 32:=by rw [List.length_take,hp]
 rw [hl,List.drop_replicate]
 congr 1
 omega
def be4 (n:Int):List Int:=[n / 256 / 256 / 256 % 256,n / 256 / 256 % 256,n / 256 % 256,n % 256]
theorem du (n:Int):(be4 n).length=4:=rfl
theorem be4_bytes (n:Int):Bytes (be4 n):=by
 intro x hx
 simp only [be4,List.mem_cons,List.not_mem_nil,or_false] at hx
 omega
def deriveOf (k label:List Int) (n:Int):List Int:=macOf k (label++be4 n++[1])
theorem bW (k label:List Int) (n:Int):(deriveOf k label n).length=32:=bw _ _
theorem fe (k label:List Int) (n:Int):Bytes (deriveOf k label n):=en _ _
theorem deriveOf_eq (k label:List Int) (n:Int):expandOf k (label++be4 n) 32=deriveOf k label n:=expandOf_32 _ _
def jefe:List Int:=[74,101,102,101]
def want:List Int:=[119,104,97,116,32,100,111,32,121,97,32,119,97,110,116,32,102,111,114,32,110,111,116,104,105,110,103,63]
open Go Go.RowKit
def Word (x:Int):Prop:=0≤x∧x<4294967296
def rotl (x n:Int):Int:=bits .or .u32 (x * 2 ^ n.toNat % 4294967296) (x / 2 ^ (32 - n).toNat)
def quart (a b c d:Int):Int×Int×Int×Int :=
 let a1:=(a+b) % 4294967296
 let d1:=rotl (bits .xor .u32 d a1) 16
 let c1:=(c+d1) % 4294967296
 let b1:=rotl (bits .xor .u32 b c1) 12
 let a2:=(a+b+b1) % 4294967296
 let d2:=rotl (bits .xor .u32 d1 a2) 8
 let c2:=(c+d1+d2) % 4294967296
 let b2:=rotl (bits .xor .u32 b1 c2) 7
 (a2,b2,c2,d2)
theorem xor_twice8 {x y:Int} (hx:0≤x∧x<256) (hy:0≤y∧y<256):bits .xor .u8 (bits .xor .u8 x y) y=x:=by
 have hl:x.toNat ^^^ y.toNat<2 ^ 8:=Nat.xor_lt_two_pow (by omega) (by omega)
 rw [u8_xor x y hx.1 hx.2 hy.1 hy.2,u8_xor _ y (by omega) (by omega) hy.1 hy.2,Int.toNat_natCast,Nat.xor_assoc,Nat.xor_self,Nat.xor_zero]
 have:=hx.1
 omega
def qTab:List (List Nat):=[[0,4,8,12],[1,5,9,13],[2,6,10,14],[3,7,11,15],[0,5,10,15],[1,6,11,12],[2,7,8,13],[3,4,9,14]]
def qAt (n i:Nat):Nat:=(qTab.getD n []).getD i 0
def qFlat:List Int:=[0,4,8,12,1,5,9,13,2,6,10,14,3,7,11,15,0,5,10,15,1,6,11,12,2,7,8,13,3,4,9,14]
theorem qAt_lt:∀n:Fin 8,∀i:Fin 4,qAt n.val i.val<16:=by decide +kernel
def qset (ws:List Int) (i j k l:Nat):List Int :=
 (((ws.set i (quart (ws.getD i 0) (ws.getD j 0) (ws.getD k 0) (ws.getD l 0)).1).set j (quart (ws.getD i 0) (ws.getD j 0) (ws.getD k 0) (ws.getD l 0)).2.1).set k (quart (ws.getD i 0) (ws.getD j 0) (ws.getD k 0) (ws.getD l 0)).2.2.1).set l (quart (ws.getD i 0) (ws.getD j 0) (ws.getD k 0) (ws.getD l 0)).2.2.2
def qrounds (ws:List Int):Nat→List Int
 | 0=>ws
 | n+1=>qset (qrounds ws n) (qAt (n % 8) 0) (qAt (n % 8) 1) (qAt (n % 8) 2) (qAt (n % 8) 3)
theorem qset_length (ws:List Int) (i j k l:Nat):(qset ws i j k l).length=ws.length:=by simp [qset]
theorem b6 (ws:List Int) (n:Nat):(qrounds ws n).length=ws.length:=by
 induction n with
 | zero=>rfl
 | succ n ih=>rw [qrounds,qset_length,ih]
def Words (l:List Int):Prop:=∀x∈l,Word x
theorem Words.get {l:List Int} (h:Words l) (j:Nat):Word (l.getD j 0):=by
 rcases Nat.lt_or_ge j l.length with hj|hj
 ·have:=h l[j] (List.getElem_mem hj)
  simpa [hj] using this
 ·simp [List.getElem?_eq_none hj,Word]
theorem Words.set {l:List Int} (h:Words l) (i:Nat) {x:Int} (hx:Word x):Words (l.set i x):=by
 intro y hy
 rcases List.mem_or_eq_of_mem_set hy with hy|rfl
 ·exact h y hy
 ·exact hx
def lit4 (a b c d:Int):Int:=bits .or .u32 (bits .or .u32 (bits .or .u32 (d * 16777216) (c * 65536)) (b * 256)) a
def lfour (x:Int):List Int:=[x % 256,x / 256 % 256,x / 65536 % 256,x / 16777216 % 256]
def litAt (b:List Int) (i:Nat):Int:=lit4 (b.getD (4 * i) 0) (b.getD (4 * i+1) 0) (b.getD (4 * i+2) 0) (b.getD (4 * i+3) 0)
def litWords (b:List Int):Nat→List Int
 | 0=>[]
 | n+1=>litWords b n++[litAt b n]
theorem bU (b:List Int) (n:Nat):(litWords b n).length=n:=by
 induction n with
 | zero=>rfl
 | succ n ih=>simp [litWords,ih]
def headWs:List Int:=[1634760805,857760878,2036477234,1797285236]
def firstOf (k nonce:List Int) (c:Int):List Int:=headWs++(litWords k 8++(c::litWords nonce 3))
theorem d6 (k nonce:List Int) (c:Int):(firstOf k nonce c).length=16:=by simp [firstOf,headWs,bU]
def asL (ws:List Int):List Int:=ws.flatMap lfour
theorem eH (ws:List Int):(asL ws).length=4 * ws.length:=by
 induction ws with
 | nil=>rfl
 | cons x l ih=>simp [asL,lfour] at ih ⊢;omega
theorem lfour_bytes (x:Int):Bytes (lfour x):=by
 intro y hy
 simp only [lfour,List.mem_cons,List.not_mem_nil,or_false] at hy
 rcases hy with rfl|rfl|rfl|rfl<;>omega
theorem asL_bytes (ws:List Int):Bytes (asL ws):=by
 intro y hy
 obtain ⟨x,_,hx⟩:=List.mem_flatMap.1 hy
 exact lfour_bytes x y hx
def sumOf (ws vs:List Int):List Int:=List.zipWith (fun x y=>(x+y) % 4294967296) ws vs
def blockOf (k nonce:List Int) (c:Int):List Int:=asL (sumOf (qrounds (firstOf k nonce c) 80) (firstOf k nonce c))
theorem dc (ws vs:List Int) (h:ws.length=vs.length):(sumOf ws vs).length=ws.length:=by simp [sumOf,h]
theorem ea (k nonce:List Int) (c:Int):(blockOf k nonce c).length=64:=by
 rw [blockOf,eH,dc _ _ (by rw [b6]),b6,d6]
theorem jI (k nonce:List Int) (c:Int):Bytes (blockOf k nonce c):=asL_bytes _
def sumUpto (ws vs:List Int) (i:Nat):List Int:=(sumOf ws vs).take i++ws.drop i
theorem sumUpto_zero (ws vs:List Int):sumUpto ws vs 0=ws:=by simp [sumUpto]
theorem fi (ws vs:List Int) (h:ws.length=vs.length) (i:Nat):(sumUpto ws vs i).length=ws.length:=by
 simp [sumUpto,sumOf,h];omega
theorem sumUpto_full (ws vs:List Int) (h:ws.length=vs.length) (n:Nat) (hn:ws.length=n):sumUpto ws vs n=sumOf ws vs:=by
 unfold sumUpto
 rw [List.take_of_length_le (by rw [dc _ _ h];omega),List.drop_of_length_le (by omega),List.append_nil]
theorem sumUpto_get (ws vs:List Int) (h:ws.length=vs.length) (i:Nat) (hi:i<ws.length):(sumUpto ws vs i).getD i 0=ws.getD i 0:=by
 have e:((sumOf ws vs).take i).length=i:=by rw [List.length_take,dc _ _ h];omega
 unfold sumUpto
 rw [List.getD_eq_getElem?_getD,List.getElem?_append_right (by omega),e,Nat.sub_self,List.getElem?_drop]
 simp
theorem sumUpto_set (ws vs:List Int) (h:ws.length=vs.length) (i:Nat) (hi:i<ws.length):(sumUpto ws vs i).set i ((ws.getD i 0+vs.getD i 0) % 4294967296)=sumUpto ws vs (i+1):=by
 unfold sumUpto
 have hl:(sumOf ws vs).length=ws.length:=dc _ _ h
 have e:((sumOf ws vs).take i).length=i:=by rw [List.length_take];omega
 rw [List.set_append_right _ _ (by omega),e,Nat.sub_self,List.drop_eq_getElem_cons hi,List.set_cons_zero,List.take_succ_eq_append_getElem (by omega)]
 simp [sumOf,hi,show i<vs.length by omega]
def lRow (ws:List Int) (i:Nat):List Int:=asL (ws.take i)++List.replicate (64 - 4 * i) 0
theorem lRow_length (ws:List Int) (h:ws.length=16) (i:Nat) (hi:i≤16):(lRow ws i).length=64:=by simp [lRow,eH,h];omega
theorem lRow_full (ws:List Int) (h:ws.length=16):lRow ws 16=asL ws:=by
 unfold lRow
 rw [List.take_of_length_le (by omega)]
 simp
theorem lRow_step (ws:List Int) (h:ws.length=16) (i:Nat) (hi:i<16):splice (lRow ws i) (4 * i) (lfour (ws.getD i 0))=lRow ws (i+1):=by
 have hl:(asL (ws.take i)).length=4 * i:=by rw [eH];simp;omega
 have h4:(lfour (ws.getD i 0)).length=4:=rfl
 have e1:(lRow ws i).take (4 * i)=asL (ws.take i):=by
  unfold lRow
  rw [List.take_append_of_le_length (by omega),List.take_of_length_le (by omega)]
 have e2:(lRow ws i).drop (4 * i+4)=List.replicate (64 - 4 * (i+1)) 0:=by
  unfold lRow
  rw [List.drop_append,List.drop_of_length_le (by omega),hl,List.nil_append,List.drop_replicate]
  congr 1
  omega
 have e3:asL (ws.take (i+1))=asL (ws.take i)++lfour (ws.getD i 0):=by
  have hg:ws.getD i 0=ws[i]'(by omega):=by simp [show i<ws.length by omega]
  unfold asL
  rw [List.take_succ_eq_append_getElem (by omega),List.flatMap_append,hg,List.flatMap_cons,List.flatMap_nil,List.append_nil]
 unfold splice
 rw [h4,e1,e2,lRow,e3,List.append_assoc]
def keyAt (k nonce:List Int) (c:Int) (i:Nat):Int:=(blockOf k nonce ((c+((i / 64:Nat):Int)) % 4294967296)).getD (i % 64) 0
theorem jt (k nonce:List Int) (c:Int) (i:Nat):0≤keyAt k nonce c i∧keyAt k nonce c i<256:=(jI _ _ _).get _
def xorUp (k nonce:List Int) (c:Int) (m:List Int) (n:Nat):List Int:=m.mapIdx fun i x=>if i<n then bits .xor .u8 x (keyAt k nonce c i) else x
def xorOf (k nonce:List Int) (c:Int) (m:List Int):List Int:=m.mapIdx fun i x=>bits .xor .u8 x (keyAt k nonce c i)
theorem dK (k nonce:List Int) (c:Int) (m:List Int) (n:Nat):(xorUp k nonce c m n).length=m.length:=by simp [xorUp]
theorem gz (k nonce:List Int) (c:Int) (m:List Int):(xorOf k nonce c m).length=m.length:=by simp [xorOf]
theorem xorUp_zero (k nonce:List Int) (c:Int) (m:List Int):xorUp k nonce c m 0=m:=by
 apply List.ext_getElem
 ·simp [xorUp]
 ·intro i h1 h2
  simp [xorUp]
theorem f9 (k nonce:List Int) (c:Int) (m:List Int) (n:Nat) (h:m.length≤n):xorUp k nonce c m n=xorOf k nonce c m:=by
 apply List.ext_getElem
 ·simp [xorUp,xorOf]
 ·intro i h1 h2
  have:i<n:=by rw [dK] at h1;omega
  simp [xorUp,xorOf,this]
theorem byte_xor {x p:Int} (hx:0≤x∧x<256) (hp:0≤p∧p<256):0≤bits .xor .u8 x p∧bits .xor .u8 x p<256:=by
 rw [u8_xor x p hx.1 hx.2 hp.1 hp.2]
 have:x.toNat ^^^ p.toNat<2 ^ 8:=Nat.xor_lt_two_pow (by omega) (by omega)
 omega
theorem xorOf_bytes (k nonce:List Int) (c:Int) {m:List Int} (h:Bytes m):Bytes (xorOf k nonce c m):=by
 intro y hy
 obtain ⟨i,hi,rfl⟩:=List.getElem_of_mem hy
 have hm:i<m.length:=by rwa [gz] at hi
 simp only [xorOf,List.getElem_mapIdx]
 exact byte_xor (h _ (List.getElem_mem hm)) (jt _ _ _ _)
def maskL (l:List Int) (off n:Nat) (b:List Int):List Int:=l.mapIdx fun i x=>if off≤i∧i<off+n then bits .xor .u8 x (b.getD (i - off) 0) else x
theorem eJ (l:List Int) (off n:Nat) (b:List Int):(maskL l off n b).length=l.length:=by simp [maskL]
theorem maskL_zero (l:List Int) (off:Nat) (b:List Int):maskL l off 0 b=l:=by
 apply List.ext_getElem
 ·simp [maskL]
 ·intro i h1 h2
  have:¬(off≤i∧i<off):=by omega
  simp [maskL,this]
theorem maskL_get (l:List Int) (off n:Nat) (b:List Int) (h:off+n<l.length):(maskL l off n b).getD (off+n) 0=l.getD (off+n) 0:=by
 simp [maskL,h]
theorem maskL_step (l:List Int) (off n:Nat) (b:List Int) (h:off+n<l.length):(maskL l off n b).set (off+n) (bits .xor .u8 (l.getD (off+n) 0) (b.getD n 0))=maskL l off (n+1) b:=by
 apply List.ext_getElem
 ·simp [maskL]
 ·intro i h1 h2
  have hi:i<l.length:=by rwa [eJ] at h2
  rw [List.getElem_set]
  by_cases he:off+n=i
  ·subst he
   have:off≤off+n∧off+n<off+(n+1):=by omega
   rw [if_pos rfl]
   simp only [maskL,List.getElem_mapIdx,if_pos this,show off+n - off=n by omega]
   simp [h]
  ·rw [if_neg he]
   simp only [maskL,List.getElem_mapIdx]
   by_cases h3:off≤i∧i<off+n
   ·rw [if_pos h3,if_pos (by omega)]
   ·rw [if_neg h3,if_neg (by omega)]
theorem iT (k nonce:List Int) (c:Int) (m:List Int) (j n:Nat) (hn:n≤64) :
  maskL (xorUp k nonce c m (64 * j)) (64 * j) n (blockOf k nonce ((c+(j:Int)) % 4294967296))=xorUp k nonce c m (64 * j+n):=by
 apply List.ext_getElem
 ·simp [maskL,xorUp]
 ·intro i h1 h2
  have hi:i<m.length:=by rwa [dK] at h2
  simp only [maskL,xorUp,List.getElem_mapIdx]
  by_cases h3:i<64 * j
  ·rw [if_neg (by omega),if_pos h3,if_pos (by omega)]
  ·by_cases h4:i<64 * j+n
   ·rw [if_pos ⟨by omega,h4⟩,if_neg h3,if_pos h4]
    have hk:keyAt k nonce c i=(blockOf k nonce ((c+(j:Int)) % 4294967296)).getD (i - 64 * j) 0:=by
     unfold keyAt
     rw [show i / 64=j by omega,show i % 64=i - 64 * j by omega]
    rw [hk]
   ·rw [if_neg (by omega),if_neg h3,if_neg h4]
theorem xorOf_twice (k nonce:List Int) (c:Int) {m:List Int} (h:Bytes m):xorOf k nonce c (xorOf k nonce c m)=m:=by
 apply List.ext_getElem
 ·simp [xorOf]
 ·intro i h1 h2
  simp only [xorOf,List.getElem_mapIdx]
  exact xor_twice8 (h _ (List.getElem_mem h2)) (jt _ _ _ _)
def riseK:List Int:=[0,1,2,3,4,5,6,7,8,9,10,11,12,13,14,15,16,17,18,19,20,21,22,23,24,25,26,27,28,29,30,31]
def nonceN:List Int:=[0,0,0,9,0,0,0,74,0,0,0,0]
open Go Go.RowKit
def padZ (n:Nat):Nat:=(119 - n % 64) % 64
def padOf (m:List Int):List Int:=m++[128]++List.replicate (padZ m.length) 0++be8 (m.length * 8)
theorem bx (n:Int):(be8 n).length=8:=rfl
def putN (x:Int):Nat→List Int
 | 0=>[]
 | k+1=>putN x k++[x / 2 ^ (8 * (7 - k)) % 256]
open Go Go.RowKit
def nonceOf (p g:Int):List Int:=be4 p++be8 g
theorem da (p g:Int):(nonceOf p g).length=12:=rfl
theorem et (p g:Int):Bytes (nonceOf p g):=(be4_bytes p).append (dP g)
def labEnc:List Int:=[101,110,99]
def labMac:List Int:=[109,97,99]
def labWrap:List Int:=[119,114,97,112]
theorem bI:Bytes labWrap:=by unfold Bytes labWrap;decide
def encKey (k:List Int):List Int:=deriveOf k labEnc 0
def macKey (k:List Int):List Int:=deriveOf k labMac 0
def msgOf (n a c:List Int):List Int:=be8 (a.length:Int)++a++n++c
theorem msgOf_length (n a c:List Int):(msgOf n a c).length=8+a.length+n.length+c.length:=by simp [msgOf,bx];omega
theorem msgOf_bytes {n a c:List Int} (hn:Bytes n) (ha:Bytes a) (hc:Bytes c):Bytes (msgOf n a c):=(((dP _).append ha).append hn).append hc
def tagOf (k n a c:List Int):List Int:=(macOf (macKey k) (msgOf n a c)).take 16
theorem df (k n a c:List Int):(tagOf k n a c).length=16:=by simp [tagOf,bw]
theorem tagOf_bytes (k n a c:List Int):Bytes (tagOf k n a c):=(en _ _).take _
def encOf (k n m:List Int):List Int:=xorOf (encKey k) n 1 m
theorem cH (k n m:List Int):(encOf k n m).length=m.length:=gz _ _ _ _
theorem iz (k n:List Int) {m:List Int} (h:Bytes m):Bytes (encOf k n m):=xorOf_bytes _ _ _ h
theorem encOf_twice (k n:List Int) {m:List Int} (h:Bytes m):encOf k n (encOf k n m)=m:=xorOf_twice _ _ _ h
def sealOf (k n a m:List Int):List Int:=encOf k n m++tagOf k n a (encOf k n m)
theorem fS (k n a m:List Int):(sealOf k n a m).length=m.length+16:=by rw [sealOf,List.length_append,cH,df]
theorem sealOf_bytes (k n a:List Int) {m:List Int} (h:Bytes m):Bytes (sealOf k n a m):=(iz k n h).append (tagOf_bytes _ _ _ _)
theorem sealOf_take (k n a m:List Int):(sealOf k n a m).take m.length=encOf k n m:=by
 rw [sealOf,←cH k n m,List.take_left]
theorem sealOf_drop (k n a m:List Int):(sealOf k n a m).drop m.length=tagOf k n a (encOf k n m):=by
 rw [sealOf,←cH k n m,List.drop_left]
def fits (k n a b:List Int):Bool:=decide (b.drop (b.length - 16)=tagOf k n a (b.take (b.length - 16)))
def kOne:List Int:=0::2::List.replicate 30 0
def secret:List Int:=[115,101,99,114,101,116]
open Go Go.RowKit
theorem info_b64:(Tryz.prog.info? 63).map (fun i=>(i.zero,i.size))=some (some (.agg (u8s (List.replicate 64 0)).toArray),64):=by kernel_rfl
theorem cq:∀w,(zeroValue 63).run Tryz.prog w=.ok (.agg (u8s (List.replicate 64 0)).toArray) w:=(zero_of_info info_b64).1
theorem bq:(Tryz.prog.info? 63).map (·.size)=some 64:=(zero_of_info info_b64).2
theorem info_b32:(Tryz.prog.info? 38).map (fun i=>(i.zero,i.size))=some (some (.agg (u8s (List.replicate 32 0)).toArray),32):=by kernel_rfl
theorem cd:∀w,(zeroValue 38).run Tryz.prog w=.ok (.agg (u8s (List.replicate 32 0)).toArray) w:=(zero_of_info info_b32).1
theorem b8:(Tryz.prog.info? 38).map (·.size)=some 32:=(zero_of_info info_b32).2
theorem info_b4:(Tryz.prog.info? 181).map (fun i=>(i.zero,i.size))=some (some (.agg (u8s [0,0,0,0]).toArray),4):=by kernel_rfl
theorem eg:∀w,(zeroValue 181).run Tryz.prog w=.ok (.agg (u8s [0,0,0,0]).toArray) w:=(zero_of_info info_b4).1
theorem fT:(Tryz.prog.info? 181).map (·.size)=some 4:=(zero_of_info info_b4).2
theorem info_w8:(Tryz.prog.info? 166).map (fun i=>(i.zero,i.size))=some (some (.agg (u32s (List.replicate 8 0)).toArray),8):=by kernel_rfl
theorem eG:∀w,(zeroValue 166).run Tryz.prog w=.ok (.agg (u32s (List.replicate 8 0)).toArray) w:=(zero_of_info info_w8).1
theorem co:(Tryz.prog.info? 166).map (·.size)=some 8:=(zero_of_info info_w8).2
theorem info_w64:(Tryz.prog.info? 184).map (fun i=>(i.zero,i.size))=some (some (.agg (u32s (List.replicate 64 0)).toArray),64):=by kernel_rfl
theorem jg:∀w,(zeroValue 184).run Tryz.prog w=.ok (.agg (u32s (List.replicate 64 0)).toArray) w:=(zero_of_info info_w64).1
theorem sz_w64:(Tryz.prog.info? 184).map (·.size)=some 64:=(zero_of_info info_w64).2
theorem be:(Tryz.prog.info? 5).map (·.size)=some 1:=by kernel_rfl
theorem fj:∀w,(isAgg 5).run Tryz.prog w=.ok false w:=by intro w;simp [go_sem]
theorem dr:(Tryz.prog.info? 72).map (·.size)=some 1:=by kernel_rfl
theorem er:∀w,(isAgg 72).run Tryz.prog w=.ok false w:=by intro w;simp [go_sem]
theorem cf:Tryz.prog.underlying 63=some (.array 64 5):=Tryz.underlying63
theorem fc:Tryz.prog.underlying 38=some (.array 32 5):=Tryz.underlying38
theorem un_b4:Tryz.prog.underlying 181=some (.array 4 5):=Tryz.underlying181
theorem eY:Tryz.prog.underlying 166=some (.array 8 72):=Tryz.underlying166
theorem un_w64:Tryz.prog.underlying 184=some (.array 64 72):=Tryz.underlying184
theorem aU:Tryz.prog.underlying 33=some (.slice 5):=Tryz.underlying33
theorem rotr_any (x n:Int) (w:World) (hn0:0≤n) (hn1:n<32) :
  Calls Tryz.prog 113 #[.int .u32 x,.int .i64 n] w fun e w'=>e=.returned (.int .u32 (rotr x n))∧w'=w:=by
 have hn:n % 32=n:=by omega
 go_enter Tryz.func113,Tryz.ntmps113
 go_wp2
 go_ret
 exact ⟨rfl,rfl⟩
theorem putBig_any (x:Int) (w:World) :
  Calls Tryz.prog 114 #[.int .u32 x] w fun e w'=>e=.returned (.agg (u8s (four x)).toArray)∧Below w.heap.size w w':=by
 go_enter Tryz.func114,Tryz.ntmps114
 go_wp2
 refine bodyPost_ret (v:=.agg (u8s (four x)).toArray) (by simp [results,Tryz.results114,go_sem,u8s,four]) rfl ⟨rfl,?_⟩
 exact (Below.refl _ _).alloc (Nat.le_refl _) _
theorem jN (b off cap:Nat) (cs:List Int) (hcs:cs.length=4) (w:World) (hc:Seg w b off cs) :
  Calls Tryz.prog 118 #[.slice (some ⟨b,off,none⟩) 4 cap] w fun e w'=>e=.returned (.agg (u8s cs).toArray)∧Below w.heap.size w w':=by
 have hm:=Mem.start w
 go_enter Tryz.func118,Tryz.ntmps118
 go_wp2_with (first
  | ((with_reducible refine aa (some 2) (.alloc 181) ?_);refine aj _ eg hm ?_;clear hm;intro w1 g1 hm)
  | ((with_reducible refine aa (some 3) (.alloc 181) ?_);refine aj _ eg hm ?_;clear hm;intro w2 g2 hm)
  | ((with_reducible refine aa (some 6) (.call {callee:=.builtin .copy,args:=#[.tmp 4,.tmp 5],argTypes:=#[33,33]}) ?_);refine gr 0 0 4 4 ⟨b,off,none⟩ 4 cap (u8s cs) hm rfl rfl rfl _ aU be (by simp [ab,hcs]) (hc.mem hm (by simp)).src (by simp [ab,hcs]) (aq _) ?_;clear hm;intro w3 hm;rw [eU _ _ (by simp [ab,hcs])] at hm)
  | ((with_reducible refine aa (some 7) (.load 181 (.tmp 3)) ?_);refine ay 0 hm rfl rfl _ un_b4 rfl 4 fT (by simp [ab,hcs]) ?_)
  | ((with_reducible refine aa none (.store 181 (.tmp 2) (.tmp 7)) ?_);refine ap 1 (u8s cs) hm rfl rfl rfl 4 fT (by simp [ab]) (by simp [ab,hcs]) (aq _) ?_;clear hm;intro w4 hm))
 exact aJ 1 hm rfl Tryz.results118 rfl _ un_b4 rfl 4 fT (by simp [ab,hcs]) rfl ⟨rfl,hm.below⟩
theorem big_any (b off cap:Nat) (c0 c1 c2 c3:Int) (w:World) (hc:Seg w b off [c0,c1,c2,c3]) (h0:0≤c0∧c0<256) (h1:0≤c1∧c1<256) (h2:0≤c2∧c2<256) (h3:0≤c3∧c3<256) :
  Calls Tryz.prog 117 #[.slice (some ⟨b,off,none⟩) 4 cap] w fun e w'=>e=.returned (.int .u32 (big4 c0 c1 c2 c3))∧Below w.heap.size w w':=by
 obtain ⟨h00,h01⟩:=h0
 obtain ⟨h10,h11⟩:=h1
 obtain ⟨h20,h21⟩:=h2
 obtain ⟨h30,h31⟩:=h3
 have hm:=Mem.start w
 go_enter Tryz.func117,Tryz.ntmps117
 go_wp2_with (first
  | (go_at_call 118;refine (jN b off cap [c0,c1,c2,c3] rfl _ (hc.mem hm (by simp))).mono ?_;rintro e w1 ⟨rfl,hb⟩;replace hm:=hm.call hb;clear hb)
  | ((with_reducible refine aa (some 3) (.alloc 181) ?_);refine aj _ eg hm ?_;clear hm;intro w2 g2 hm)
  | ((with_reducible refine aa none (.store 181 (.tmp 3) (.tmp 5)) ?_);refine ap 0 (u8s [c0,c1,c2,c3]) hm rfl rfl rfl 4 fT (by simp [ab]) (rfl) (aq _) ?_;clear hm;intro w3 hm)
  | ((with_reducible refine aa (some 7) (.load 5 (.tmp 6)) ?_);refine bi 0 0 (.int .u8 c0) hm rfl rfl fj (rfl) ?_)
  | ((with_reducible refine aa (some 11) (.load 5 (.tmp 10)) ?_);refine bi 0 1 (.int .u8 c1) hm rfl rfl fj (rfl) ?_)
  | ((with_reducible refine aa (some 16) (.load 5 (.tmp 15)) ?_);refine bi 0 2 (.int .u8 c2) hm rfl rfl fj (rfl) ?_)
  | ((with_reducible refine aa (some 21) (.load 5 (.tmp 20)) ?_);refine bi 0 3 (.int .u8 c3) hm rfl rfl fj (rfl) ?_))
 go_ret
 exact ⟨rfl,hm.below⟩
end Go.Proofs.YtnllomcajijbjaaGreatDoor
namespace Go.Proofs.YtnllomcajijbjaaGreatDoor
open Go Go.RowKit
theorem seg4 {w:World} {g:Nat} {bs:List Int} {t:TypeId} (h:Row w g (u8s bs) t) (k:Nat) (hk:4 * k+3<bs.length) :
  Seg w g (4 * k) [bs.getD (4 * k) 0,bs.getD (4 * k+1) 0,bs.getD (4 * k+2) 0,bs.getD (4 * k+3) 0]:=by
 have hs:=Seg.row h
 intro j hj
 have hj4:j<4:=by simpa using hj
 have hq:=hs (4 * k+j) (by omega)
 rw [Nat.zero_add] at hq
 rw [hq]
 match j,hj4 with
 | 0,_=>rfl
 | 1,_=>rfl
 | 2,_=>rfl
 | 3,_=>rfl
theorem spread_step {w wr:World} {g1 g2 g3:Nat} {bs z:List Int} {t t':TypeId} {m:Nat} (hm:Mem w [] wr [(g3,u32s (schedRow bs (m+16)),t),(g2,u32s z,t),(g1,u8s bs,t')]) (n:Nat) (hlt:m<48) (x:Int) (hx:x=nextW (sched bs (m+16)) (m+16)) :
  Mem w [] ((wr.drewN n).setCell ⟨g3,m+16,none⟩ (.int .u32 x)) [(g3,u32s (schedRow bs (m+1+16)),t),(g2,u32s z,t),(g1,u8s bs,t')]:=by
 have h:=(hm.drewN n).setCell 0 rfl (m+16) (.int .u32 x)
 rw [List.set_cons_zero,dl,gC bs (m+16) (by omega) x (by rw [if_neg (by omega)];exact hx)] at h
 rw [show m+1+16=m+16+1 by omega]
 exact h
theorem spread_any (bs:List Int) (hbs:bs.length=64) (hby:∀j,0≤bs.getD j 0∧bs.getD j 0<256) (w:World) :
  Calls Tryz.prog 112 #[.agg (u8s bs).toArray] w fun e w'=>e=.returned (.agg (u32s (sched bs 64)).toArray)∧Below w.heap.size w w':=by
 have hm:=Mem.start w
 go_enter Tryz.func112,Tryz.ntmps112
 go_wp2_with (first
  | ((with_reducible refine aa (some 1) (.box 63 (.tmp 0)) ?_);refine aB (u8s bs) rfl hm ?_;clear hm;intro w1 g1 hm)
  | ((with_reducible refine aa (some 2) (.alloc 184) ?_);refine aj _ jg hm ?_;clear hm;intro w2 g2 hm)
  | ((with_reducible refine aa (some 3) (.alloc 184) ?_);refine aj _ jg hm ?_;clear hm;intro w3 g3 hm))

 go_loopw [10] (fun i wr=>∃k:Nat,k≤16∧i=.int .i64 k∧Mem w [] wr [(g3,u32s (schedRow bs k),184),(g2,u32s (List.replicate 64 0),184),(g1,u8s bs,63)]) (fun i _=>16 - (intOf i).toNat)
 case atStart=>exact ⟨0,by omega,rfl,hm⟩
 case round =>
  clear hm
  obtain ⟨k,hk,rfl,hm⟩:=hrel
  by_cases hlt:k<16
  ·have e1:4 * (k:Int)=((4 * k:Nat):Int):=by omega
   have e2:4 * ((k:Int)+1)=((4 * k+4:Nat):Int):=by omega
   have E1:Hid _:=e1
   have E2:Hid _:=e2
   clear e1 e2
   have hq:=hby (4 * k)
   have hq1:=hby (4 * k+1)
   have hq2:=hby (4 * k+2)
   have hq3:=hby (4 * k+3)
   have hsg:Seg wr g1 (4 * k) [bs.getD (4 * k) 0,bs.getD (4 * k+1) 0,bs.getD (4 * k+2) 0,bs.getD (4 * k+3) 0]:=seg4 (hm.get 2 rfl) k (by omega)
   have HQ:Hid _:=And.intro hq (And.intro hq1 (And.intro hq2 (And.intro hq3 hsg)))
   clear hq hq1 hq2 hq3 hsg hby
   go_wp2_with (first
    | ((with_reducible refine aa (some 19) (.slice 63 (.tmp 1) (some (.tmp 15)) (some (.tmp 18)) none) ?_);refine gA 64 cf be (4 * k) 4 (by omega) (by omega) rfl (Or.inl (eq _ rfl E1.out)) (Or.inl (eq _ rfl E2.out)) ?_)
    | (go_at_call 117;refine (big_any _ _ _ _ _ _ _ _ HQ.out.2.2.2.2 HQ.out.1 HQ.out.2.1 HQ.out.2.2.1 HQ.out.2.2.2.1).mono ?_;rintro e w5 ⟨rfl,hb⟩;replace hm:=hm.call hb;clear hb)
    | ((with_reducible refine aa none (.store 72 (.tmp 21) (.tmp 20)) ?_);refine bm 0 k (.int .u32 (big4 (bs.getD (4 * k) 0) (bs.getD (4 * k+1) 0) (bs.getD (4 * k+2) 0) (bs.getD (4 * k+3) 0))) hm rfl (rfl) rfl dr (by simp [ar,bV _ _ (show k≤64 by omega)];omega) rfl rfl ?_;clear hm;intro w6 hm))
   have hn:Mem w [] w6 [(g3,u32s (schedRow bs (k+1)),184),(g2,u32s (List.replicate 64 0),184),(g1,u8s bs,63)]:=by
    rw [List.set_cons_zero,dl,gC bs k (by omega) _ (by rw [if_pos hlt])] at hm
    exact hm
   clear hm
   go_roundw
   case rel=>exact ⟨k+1,by omega,by go_num,hn⟩
   case measure=>simp [intOf];omega
  ·have hk16:k=16:=by omega
   subst hk16
   go_wp2_with fail
   rw [show ((16:Nat):Int)=16 from rfl]
   go_loopw [5] (fun i wr=>∃m:Nat,m≤48∧i=.int .i64 (m+16:Nat)∧Mem w [] wr [(g3,u32s (schedRow bs (m+16)),184),(g2,u32s (List.replicate 64 0),184),(g1,u8s bs,63)]) (fun i _=>64 - (intOf i).toNat)
   case atStart=>exact ⟨0,by omega,rfl,hm⟩
   case round =>
    clear hm
    obtain ⟨m,hm64,rfl,hm⟩:=hrel
    by_cases hlt2:m<48
    ·have hrow:=hm.get 0 rfl
     obtain ⟨a15,ha15⟩:∃x,x=(sched bs (m+16)).getD (m+1) 0:=⟨_,rfl⟩
     obtain ⟨a2,ha2⟩:∃x,x=(sched bs (m+16)).getD (m+14) 0:=⟨_,rfl⟩
     obtain ⟨a7,ha7⟩:∃x,x=(sched bs (m+16)).getD (m+9) 0:=⟨_,rfl⟩
     obtain ⟨a16,ha16⟩:∃x,x=(sched bs (m+16)).getD m 0:=⟨_,rfl⟩
     have hc15:wr.cell? ⟨g3,m+1,none⟩=some (.int .u32 a15):=by rw [hrow.cell,bQ _ _ (by rw [bV _ _ (by omega)];omega),dJ _ _ _ (by omega),ha15]
     have hc2:wr.cell? ⟨g3,m+14,none⟩=some (.int .u32 a2):=by rw [hrow.cell,bQ _ _ (by rw [bV _ _ (by omega)];omega),dJ _ _ _ (by omega),ha2]
     have hc7:wr.cell? ⟨g3,m+9,none⟩=some (.int .u32 a7):=by rw [hrow.cell,bQ _ _ (by rw [bV _ _ (by omega)];omega),dJ _ _ _ (by omega),ha7]
     have hc16:wr.cell? ⟨g3,m,none⟩=some (.int .u32 a16):=by rw [hrow.cell,bQ _ _ (by rw [bV _ _ (by omega)];omega),dJ _ _ _ (by omega),ha16]
     have hck:wr.cell? ⟨g3,m+16,none⟩=some (.int .u32 ((schedRow bs (m+16)).getD (m+16) 0)):=by rw [hrow.cell,bQ _ _ (by rw [bV _ _ (by omega)];omega)]
     have hfk:wr.frozen? ⟨g3,m+16,none⟩=false:=hrow.free _
     have hnext:nextW (sched bs (m+16)) (m+16)=(sig1 a2+a7+sig0 a15+a16) % 4294967296:=by
      rw [ha15,ha2,ha7,ha16];rfl
     have HN:Hid _:=hnext
     have HM:Hid _:=hm
     clear hnext hm ha15 ha2 ha7 ha16 hrow
     go_wp2_with fail
     go_quiet (fail)
     go_wp2_with (go_at_call 113;refine (rotr_any _ _ _ (by omega) (by omega)).mono ?_;rintro e w' ⟨rfl,rfl⟩)
     go_region
     go_wp2
     go_roundw
     case rel=>exact ⟨m+1,by omega,by go_num,spread_step HM.out _ (by omega) _ HN.out.symm⟩
     case measure=>simp [intOf];omega
    ·have hm48:m=48:=by omega
     subst hm48
     rw [show 48+16=64 from rfl,jE] at hm
     go_wp2_with (first
      | ((with_reducible refine aa (some 66) (.load 184 (.tmp 3)) ?_);refine ay 0 hm rfl rfl _ un_w64 rfl 64 sz_w64 (by simp [ar,bR]) ?_)
      | ((with_reducible refine aa none (.store 184 (.tmp 2) (.tmp 66)) ?_);refine ap 1 (u32s (sched bs 64)) hm rfl rfl rfl 64 sz_w64 (by simp [ar]) (by simp [ar,bR]) (bk _) ?_;clear hm;intro w8 hm))
     exact aJ 1 hm rfl Tryz.results112 rfl _ un_w64 rfl 64 sz_w64 (by simp [ar,bR]) rfl ⟨rfl,hm.below⟩
end Go.Proofs.YtnllomcajijbjaaGreatDoor
namespace Go.Proofs.YtnllomcajijbjaaGreatDoor
open Go Go.RowKit
def Tab (w:World):Prop:=∀j,j<64→w.cell? ⟨1,j,none⟩=some (.int .u32 (kTab.getD j 0))
theorem Tab.lt {w:World} (h:Tab w):1<w.heap.size:=block_lt_of_cell (h 0 (by omega))
theorem fC (ws bs:List Int) (hws:ws.length=8) (hbs:bs.length=64) (hby:∀j,0≤bs.getD j 0∧bs.getD j 0<256) (w:World) (ht:Tab w) :
  Calls Tryz.prog 105 #[.agg (u32s ws).toArray,.agg (u8s bs).toArray] w fun e w'=>e=.returned (.agg (u32s (mix ws bs)).toArray)∧Below w.heap.size w w':=by
 match ws,hws with
 | [x0,x1,x2,x3,x4,x5,x6,x7],_ =>
 have hm:=Mem.start w
 have HT:Hid _:=ht
 clear ht
 go_enter Tryz.func105,Tryz.ntmps105
 go_wp2_with (first
  | ((with_reducible refine aa (some 2) (.box 166 (.tmp 0)) ?_);refine aB (u32s [x0,x1,x2,x3,x4,x5,x6,x7]) rfl hm ?_;clear hm;intro w1 g1 hm)
  | ((with_reducible refine aa (some 3) (.box 63 (.tmp 1)) ?_);refine aB (u8s bs) rfl hm ?_;clear hm;intro w2 g2 hm)
  | ((with_reducible refine aa (some 4) (.alloc 166) ?_);refine aj _ eG hm ?_;clear hm;intro w3 g3 hm)
  | ((with_reducible refine aa (some 21) (.load 63 (.tmp 3)) ?_);refine ay 1 hm rfl rfl _ cf rfl 64 bq (by simp [ab,hbs]) ?_)
  | (go_at_call 112;refine (spread_any bs hbs hby _).mono ?_;rintro e w4 ⟨rfl,hb⟩;replace hm:=hm.call hb;clear hb)
  | ((with_reducible refine aa (some 5) (.alloc 184) ?_);refine aj _ jg hm ?_;clear hm;intro w5 g5 hm)
  | ((with_reducible refine aa none (.store 184 (.tmp 5) (.tmp 22)) ?_);refine ap 0 (u32s (sched bs 64)) hm rfl rfl rfl 64 sz_w64 (by simp [ar]) (by simp [ar,bR]) (bk _) ?_;clear hm;intro w6 hm))

 have hr:=hm.get 3 rfl
 have c0:w6.cell? ⟨g1,0,none⟩=some (.int .u32 x0):=hr.cell 0
 have c1:w6.cell? ⟨g1,1,none⟩=some (.int .u32 x1):=hr.cell 1
 have c2:w6.cell? ⟨g1,2,none⟩=some (.int .u32 x2):=hr.cell 2
 have c3:w6.cell? ⟨g1,3,none⟩=some (.int .u32 x3):=hr.cell 3
 have c4:w6.cell? ⟨g1,4,none⟩=some (.int .u32 x4):=hr.cell 4
 have c5:w6.cell? ⟨g1,5,none⟩=some (.int .u32 x5):=hr.cell 5
 have c6:w6.cell? ⟨g1,6,none⟩=some (.int .u32 x6):=hr.cell 6
 have c7:w6.cell? ⟨g1,7,none⟩=some (.int .u32 x7):=hr.cell 7
 have HM:Hid _:=hm
 clear hr hm
 go_quiet (fail)
 go_wp2_with fail
 go_quiet (fail)
 go_wp2_with fail
 clear c0 c1 c2 c3 c4 c5 c6 c7
 go_loopw [6,7,8,9,10,11,12,13,39] (fun va vb vc vd ve vf vg vh vi wr=>∃(k:Nat) (a b c d e f g h:Int),k≤64∧vi=.int .i64 k∧va=.int .u32 a∧vb=.int .u32 b∧vc=.int .u32 c∧vd=.int .u32 d∧ve=.int .u32 e∧vf=.int .u32 f∧vg=.int .u32 g∧vh=.int .u32 h ∧
   Hid (shaRounds [x0,x1,x2,x3,x4,x5,x6,x7] (sched bs 64) k=[a,b,c,d,e,f,g,h])∧Hid (Mem w [] wr [(g5,u32s (sched bs 64),184),(g3,u32s (List.replicate 8 0),166),(g2,u8s bs,63),(g1,u32s [x0,x1,x2,x3,x4,x5,x6,x7],166)]))
  (fun _ _ _ _ _ _ _ _ vi _=>64 - (intOf vi).toNat)
 case atStart=>exact ⟨0,x0,x1,x2,x3,x4,x5,x6,x7,by omega,rfl,rfl,rfl,rfl,rfl,rfl,rfl,rfl,rfl,rfl,(HM.out.drewN _).drewN _⟩
 case round =>
  clear HM
  obtain ⟨k,a,b,c,d,e,f,g,h,hk,rfl,rfl,rfl,rfl,rfl,rfl,rfl,rfl,rfl,HR,HM⟩:=hrel
  by_cases hlt:k<64
  ·obtain ⟨kk,hkk⟩:∃x,x=kTab.getD k 0:=⟨_,rfl⟩
   obtain ⟨xx,hxx⟩:∃x,x=(sched bs 64).getD k 0:=⟨_,rfl⟩
   have hcK:wr.cell? ⟨1,k,none⟩=some (.int .u32 kk):=by rw [HM.out.old (p:=⟨1,k,none⟩) (Tab.lt HT.out) (by simp),HT.out k hlt,hkk]
   have hcW:wr.cell? ⟨g5,k,none⟩=some (.int .u32 xx):=by rw [HM.out.cell 0 rfl,bQ _ _ (by rw [bR];exact hlt),hxx]
   have HK:Hid _:=hkk
   have HX:Hid _:=hxx
   clear hkk hxx
   go_wp2_with (go_at_call 113;refine (rotr_any _ _ _ (by omega) (by omega)).mono ?_;rintro e w' ⟨rfl,rfl⟩)
   go_quiet (fail)
   go_wp2_with fail
   go_roundw
   case rel=>exact ⟨k+1,_,a,b,c,_,e,f,g,by omega,by go_num,rfl,rfl,rfl,rfl,rfl,rfl,rfl,rfl,jp HR.out HK.out HX.out,HM.out.drewN _⟩
   case measure=>simp [intOf];omega
  ·have hk64:k=64:=by omega
   subst hk64
   have hm:=HM.out
   clear HM HT
   go_wp2_with fail
   rw [show ((64:Nat):Int)=64 from rfl]
   have hv8:[a,b,c,d,e,f,g,h].length=8:=rfl
   have hx8:[x0,x1,x2,x3,x4,x5,x6,x7].length=8:=rfl
   have hfin:mix [x0,x1,x2,x3,x4,x5,x6,x7] bs=addW [x0,x1,x2,x3,x4,x5,x6,x7] [a,b,c,d,e,f,g,h]:=by unfold mix;rw [HR.out]
   have HF:Hid _:=hfin
   have HV:Hid _:=hv8
   have HX:Hid _:=hx8
   clear hfin hv8 hx8 HR
   go_loopw [113] (fun vi wr=>∃k:Nat,k≤8∧vi=.int .i64 k∧Mem w [] wr [(g5,u32s (sched bs 64),184),(g3,u32s (List.replicate 8 0),166),(g2,u8s bs,63),(g1,u32s (addUpto [x0,x1,x2,x3,x4,x5,x6,x7] [a,b,c,d,e,f,g,h] k),166)])
    (fun vi _=>8 - (intOf vi).toNat)
   case atStart=>exact ⟨0,by omega,rfl,hm⟩
   case round =>
    clear hm
    obtain ⟨k,hk8,rfl,hm⟩:=hrel
    by_cases hlt8:k<8
    ·obtain ⟨y,hy⟩:∃y,y=[a,b,c,d,e,f,g,h].getD k 0:=⟨_,rfl⟩
     obtain ⟨x,hx⟩:∃y,y=[x0,x1,x2,x3,x4,x5,x6,x7].getD k 0:=⟨_,rfl⟩
     have hvy:(u32s [a,b,c,d,e,f,g,h])[k]?=some (.int .u32 y):=by rw [bQ _ _ hlt8,hy]
     have hvx:(u32s (addUpto [x0,x1,x2,x3,x4,x5,x6,x7] [a,b,c,d,e,f,g,h] k))[k]?=some (.int .u32 x):=by
      rw [bQ _ _ (by rw [ff _ _ HX.out HV.out k hk8];exact hlt8),addUpto_get _ _ HX.out HV.out k hlt8,hx]
     have hset:(u32s (addUpto [x0,x1,x2,x3,x4,x5,x6,x7] [a,b,c,d,e,f,g,h] k)).set k (.int .u32 ((x+y) % 4294967296))=u32s (addUpto [x0,x1,x2,x3,x4,x5,x6,x7] [a,b,c,d,e,f,g,h] (k+1)):=by
      rw [dl,hx,hy,addUpto_set _ _ HX.out HV.out k hlt8]
     have hlen:k<(u32s (addUpto [x0,x1,x2,x3,x4,x5,x6,x7] [a,b,c,d,e,f,g,h] k)).length:=by
      rw [ar,ff _ _ HX.out HV.out k hk8];exact hlt8
     have HVY:Hid _:=hvy
     have HVX:Hid _:=hvx
     have HS:Hid _:=hset
     have HL:Hid _:=hlen
     clear hvy hvx hset hlen hy hx
     go_wp2_with (first
      | ((with_reducible refine aa (some 116) (.index 166 (.tmp 112) (.tmp 113)) ?_);refine wpl_ixa 8 eY dr er (u32s [a,b,c,d,e,f,g,h]) k (.int .u32 y) (hlt8) rfl rfl (rfl) (HVY.out) ?_)
      | ((with_reducible refine aa (some 119) (.load 72 (.tmp 118)) ?_);refine bi 3 k (.int .u32 x) hm rfl rfl er (HVX.out) ?_)
      | ((with_reducible refine aa none (.store 72 (.tmp 122) (.tmp 121)) ?_);refine bm 3 k (.int .u32 ((x+y) % 4294967296)) hm rfl (rfl) rfl dr (HL.out) rfl rfl ?_;clear hm;intro w9 hm))

     have hn:Mem w [] w9 [(g5,u32s (sched bs 64),184),(g3,u32s (List.replicate 8 0),166),(g2,u8s bs,63),(g1,u32s (addUpto [x0,x1,x2,x3,x4,x5,x6,x7] [a,b,c,d,e,f,g,h] (k+1)),166)]:=by
      rw [HS.out] at hm
      exact hm
     clear hm
     go_roundw
     case rel=>exact ⟨k+1,by omega,by go_num,hn⟩
     case measure=>simp [intOf];omega
    ·have hk8':k=8:=by omega
     subst hk8'
     rw [addUpto_full _ _ HX.out HV.out,←HF.out] at hm
     have hln:(u32s (mix [x0,x1,x2,x3,x4,x5,x6,x7] bs)).length=8:=by rw [HF.out,ar,ec _ _ HX.out HV.out]
     have HLN:Hid _:=hln
     clear hln
     go_wp2_with (first
      | ((with_reducible refine aa (some 124) (.load 166 (.tmp 2)) ?_);refine ay 3 hm rfl rfl _ eY rfl 8 co (HLN.out) ?_)
      | ((with_reducible refine aa none (.store 166 (.tmp 4) (.tmp 124)) ?_);refine ap 1 (u32s (mix [x0,x1,x2,x3,x4,x5,x6,x7] bs)) hm rfl rfl rfl 8 co (by simp [ar]) (HLN.out) (bk _) ?_;clear hm;intro w8 hm))
     exact aJ 1 hm rfl Tryz.results105 rfl _ eY rfl 8 co HLN.out rfl ⟨rfl,hm.below⟩
end Go.Proofs.YtnllomcajijbjaaGreatDoor
