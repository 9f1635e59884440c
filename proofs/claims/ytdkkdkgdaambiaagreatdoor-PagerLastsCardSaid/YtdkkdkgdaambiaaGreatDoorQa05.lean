import Derived.Test.YtdkkdkgdaambiaaGreatDoorQa01
import Derived.Test.YtdkkdkgdaambiaaGreatDoorQa04
import Derived.Maps.OwnSet
import Derived.Maps.OwnOps
import Derived.DeepKeys4
set_option maxRecDepth 100000
namespace Go.Proofs.YtdkkdkgdaambiaaGreatDoor
open Go Go.RowKit
def padZ (n:Nat):Nat:=(119 - n % 64) % 64
def padOf (m:List Int):List Int:=m++[128]++List.replicate (padZ m.length) 0++be8 (m.length * 8)
theorem be8_length (n:Int):(be8 n).length=8:=rfl
theorem padOf_length (m:List Int):(padOf m).length % 64=0:=by
 simp [padOf,be8_length,padZ]
 omega
theorem splice_full (m d:List Int) (h:m.length % 64+d.length=64):splice (restOf m) (m.length % 64) d=tailOf m++d:=by
 rw [splice_rest m d (by omega),h]
 simp
theorem rest_one (m:List Int):(restOf m).set (m.length % 64) 128=tailOf m++([128]++List.replicate (63 - m.length % 64) 0):=by
 have hl:=tailOf_length m
 unfold restOf
 rw [List.set_append_right _ _ (by omega),hl,Nat.sub_self,show 64 - m.length % 64=(63 - m.length % 64)+1 by omega,List.replicate_succ,List.set_cons_zero]
 rfl
theorem pad_ws (m:List Int):wsOf (padOf m)=fin (wsOf m) (restOf m) m.length:=by
 have hl:=tailOf_length m
 unfold fin
 split
 ·rename_i h56
  have ez:padZ m.length=(63 - m.length % 64)+56:=by unfold padZ;omega
  have hd1:m.length % 64+([128]++List.replicate (63 - m.length % 64) (0:Int)).length=64:=by simp;omega
  have ep:padOf m=(m++([128]++List.replicate (63 - m.length % 64) 0))++(List.replicate 56 0++be8 (m.length * 8)):=by
   unfold padOf
   rw [ez,←List.replicate_append_replicate]
   simp
  have h0:(m++([128]++List.replicate (63 - m.length % 64) (0:Int))).length % 64=0:=by
   rw [List.length_append];omega
  rw [ep,full_ws _ (List.replicate 56 0++be8 (m.length * 8)) (by rw [h0];rfl),full_ws m _ hd1,full_rest m _ hd1,h0,splice_full m _ hd1,rest_one]
  rfl
 ·rename_i h56
  have ez:padZ m.length=55 - m.length % 64:=by unfold padZ;omega
  have hd:m.length % 64+([128]++List.replicate (55 - m.length % 64) 0++be8 (m.length * 8)).length=64:=by simp [be8_length];omega
  have ep:padOf m=m++([128]++List.replicate (55 - m.length % 64) 0++be8 (m.length * 8)):=by
   unfold padOf
   rw [ez]
   simp
  rw [ep,full_ws m _ hd,splice_full m _ hd,rest_one]
  congr 1
  unfold splice
  rw [be8_length,List.take_append,List.take_of_length_le (by omega),hl,List.drop_of_length_le (by simp [hl];omega),List.take_append,List.take_of_length_le (by simp;omega),List.take_replicate]
  simp
  omega
theorem shaOf_pad (m:List Int):shaOf m=asB (absorb (padOf m) ((padOf m).length / 64)):=by
 unfold shaOf
 rw [←pad_ws]
 rfl
def putN (x:Int):Nat→List Int
 | 0=>[]
 | k+1=>putN x k++[x / 2 ^ (8 * (7 - k)) % 256]
theorem putN_8 (x:Int):putN x 8=be8 x:=by
 simp only [putN,be8,List.nil_append,List.cons_append,List.cons.injEq,and_true]
 refine ⟨?_,?_,?_,?_,?_,?_,?_,?_⟩<;>omega
theorem putN_length (x:Int) (k:Nat):(putN x k).length=k:=by
 induction k with
 | zero=>rfl
 | succ k ih=>simp [putN,ih]
open Go Go.RowKit
theorem be4_inj {x y:Int} (hx:0≤x∧x<4294967296) (hy:0≤y∧y<4294967296) (h:be4 x=be4 y):x=y:=by
 simp only [be4,List.cons.injEq,and_true] at h
 omega
theorem be8_inj {x y:Int} (hx:0≤x∧x<18446744073709551616) (hy:0≤y∧y<18446744073709551616) (h:be8 x=be8 y):x=y:=by
 simp only [be8,List.cons.injEq,and_true] at h
 omega
def nonceOf (p g:Int):List Int:=be4 p++be8 g
theorem nonceOf_length (p g:Int):(nonceOf p g).length=12:=rfl
theorem nonceOf_bytes (p g:Int):Bytes (nonceOf p g):=(be4_bytes p).append (be8_bytes g)
theorem nonceOf_eq {p q g h:Int} (hp:0≤p∧p<4294967296) (hq:0≤q∧q<4294967296) (hg:0≤g∧g<18446744073709551616) (hh:0≤h∧h<18446744073709551616):nonceOf p g=nonceOf q h↔p=q∧g=h:=by
 constructor
 ·intro e
  obtain ⟨e1,e2⟩:=List.append_inj e rfl
  exact ⟨be4_inj hp hq e1,be8_inj hg hh e2⟩
 ·rintro ⟨rfl,rfl⟩
  rfl
def labEnc:List Int:=[101,110,99]
def labMac:List Int:=[109,97,99]
def labWrap:List Int:=[119,114,97,112]
theorem labWrap_bytes:Bytes labWrap:=by unfold Bytes labWrap;decide
def encKey (k:List Int):List Int:=deriveOf k labEnc 0
def macKey (k:List Int):List Int:=deriveOf k labMac 0
def msgOf (n a c:List Int):List Int:=be8 (a.length:Int)++a++n++c
theorem msgOf_length (n a c:List Int):(msgOf n a c).length=8+a.length+n.length+c.length:=by simp [msgOf,be8_length];omega
theorem msgOf_bytes {n a c:List Int} (hn:Bytes n) (ha:Bytes a) (hc:Bytes c):Bytes (msgOf n a c):=(((be8_bytes _).append ha).append hn).append hc
def tagOf (k n a c:List Int):List Int:=(macOf (macKey k) (msgOf n a c)).take 16
theorem tagOf_length (k n a c:List Int):(tagOf k n a c).length=16:=by simp [tagOf,macOf_length]
theorem tagOf_bytes (k n a c:List Int):Bytes (tagOf k n a c):=(macOf_bytes _ _).take _
def encOf (k n m:List Int):List Int:=xorOf (encKey k) n 1 m
theorem encOf_length (k n m:List Int):(encOf k n m).length=m.length:=xorOf_length _ _ _ _
theorem encOf_bytes (k n:List Int) {m:List Int} (h:Bytes m):Bytes (encOf k n m):=xorOf_bytes _ _ _ h
theorem encOf_twice (k n:List Int) {m:List Int} (h:Bytes m):encOf k n (encOf k n m)=m:=xorOf_twice _ _ _ h
def sealOf (k n a m:List Int):List Int:=encOf k n m++tagOf k n a (encOf k n m)
theorem sealOf_length (k n a m:List Int):(sealOf k n a m).length=m.length+16:=by rw [sealOf,List.length_append,encOf_length,tagOf_length]
theorem sealOf_bytes (k n a:List Int) {m:List Int} (h:Bytes m):Bytes (sealOf k n a m):=(encOf_bytes k n h).append (tagOf_bytes _ _ _ _)
theorem sealOf_take (k n a m:List Int):(sealOf k n a m).take m.length=encOf k n m:=by
 rw [sealOf,←encOf_length k n m,List.take_left]
theorem sealOf_drop (k n a m:List Int):(sealOf k n a m).drop m.length=tagOf k n a (encOf k n m):=by
 rw [sealOf,←encOf_length k n m,List.drop_left]
def fits (k n a b:List Int):Bool:=decide (b.drop (b.length - 16)=tagOf k n a (b.take (b.length - 16)))
theorem fits_seal (k n a m:List Int):fits k n a (sealOf k n a m)=true:=by
 unfold fits
 rw [sealOf_length,Nat.add_sub_cancel,sealOf_take,sealOf_drop]
 exact decide_eq_true rfl
/-- Sealed anew: what fits is what is sealed of what is opened. -/
theorem fits_back (k n a:List Int) {b:List Int} (hb:Bytes b) (h:fits k n a b=true):sealOf k n a (encOf k n (b.take (b.length - 16)))=b:=by
 have h1:=of_decide_eq_true h
 rw [sealOf,encOf_twice k n (hb.take _),←h1,List.take_append_drop]
theorem fits_turned (k n a m:List Int) (j:Nat) (x:Int) (hj:j<16):fits k n a ((sealOf k n a m).set (m.length+j) x)=decide ((sealOf k n a m).getD (m.length+j) 0=x):=by
 have hl:(encOf k n m).length=m.length:=encOf_length k n m
 have ht:(tagOf k n a (encOf k n m)).length=16:=tagOf_length _ _ _ _
 have e:(sealOf k n a m).set (m.length+j) x=encOf k n m++(tagOf k n a (encOf k n m)).set j x:=by
  rw [sealOf,List.set_append_right _ _ (by rw [hl];omega),hl,Nat.add_sub_cancel_left]
 unfold fits
 rw [e,List.length_append,List.length_set,hl,ht,Nat.add_sub_cancel,←hl,List.take_left,List.drop_left,hl]
 have e2:(sealOf k n a m).getD (m.length+j) 0=(tagOf k n a (encOf k n m)).getD j 0:=by
  rw [sealOf,getD_append,if_neg (by rw [hl];omega),hl,Nat.add_sub_cancel_left]
 rw [e2]
 generalize tagOf k n a (encOf k n m)=T at ht
 congr 1
 apply propext
 constructor
 ·intro h
  have:=congrArg (fun l=>l.getD j 0) h
  simp only [List.getD_eq_getElem?_getD,List.getElem?_set_self (show j<T.length by omega)] at this
  simpa using this.symm
 ·intro h
  rw [←h]
  apply List.ext_getElem
  ·simp
  ·intro i h1 h2
   by_cases hij:j=i
   ·subst hij
    simp [show j<T.length by omega]
   ·simp [hij]
/-- Where texts differ. -/
theorem encOf_get (k n m:List Int) (i:Nat) (h:i<m.length):(encOf k n m).getD i 0=bits .xor .u8 (m.getD i 0) (keyAt (encKey k) n 1 i):=xorOf_get _ _ _ _ _ h
def kOne:List Int:=0::2::List.replicate 30 0
theorem kOne_length:kOne.length=32:=rfl
theorem kOne_bytes:Bytes kOne:=by unfold Bytes kOne;decide
def secret:List Int:=[115,101,99,114,101,116]
theorem secret_bytes:Bytes secret:=by unfold Bytes secret;decide
theorem tags_apart:tagOf kOne (nonceOf 1 2) [97] (encOf kOne (nonceOf 1 2) secret)≠tagOf kOne (nonceOf 1 2) [98] (encOf kOne (nonceOf 1 2) secret):=by decide +kernel
theorem fits_not:fits kOne (nonceOf 1 2) [98] (sealOf kOne (nonceOf 1 2) [97] secret)=false:=by
 unfold fits
 rw [sealOf_length,Nat.add_sub_cancel,sealOf_take,sealOf_drop]
 exact decide_eq_false tags_apart
open Go Go.RowKit
def begV (gi go:Nat):List Value:=[.pointer (some ⟨gi,0,none⟩),.pointer (some ⟨go,0,none⟩)]
set_option maxHeartbeats 1000000 in
theorem begin_any (b:List Int) (hbl:b.length=64) (hbb:Bytes b) (w:World) (ht:Tab w) :
  Calls Tryz.prog 156 #[.agg (u8s b).toArray] w fun e w'=>∃gi go,e=.returned (.agg (begV gi go).toArray)∧w.heap.size≤gi∧w.heap.size≤go∧gi≠go∧Row w' gi (hrow (wsOf (xorB b 54)) (restOf (xorB b 54)) ((xorB b 54).length:Int)) 248∧Row w' go (hrow (wsOf (xorB b 92)) (restOf (xorB b 92)) ((xorB b 92).length:Int)) 248∧Below w.heap.size w w':=by
 have hm:=Mem.start w
 have HT:Hid _:=ht
 have HB:Hid _:=hbb
 have HL:Hid _:=hbl
 clear ht hbb hbl
 go_enter Tryz.func156,Tryz.ntmps156
 go_wp2_with (first
  | ((with_reducible refine at_op (some 1) (.box 104 (.tmp 0)) ?_);refine wpl_box (u8s b) rfl hm ?_;clear hm;intro w1 g1 hm)
  | ((with_reducible refine at_op (some 2) (.alloc 212) ?_);refine wpl_alloc _ zero_beg hm ?_;clear hm;intro w2 g2 hm))

 refine wp_ends0 ?_
 refine anyH_start (T:=fun W=>Mem w [] W [(g1,u8s b,104)]) (by kernel_rfl) hm ?_
 clear hm
 intro w3 hm
 refine aT 0 (v:=.agg (u8s b).toArray) rfl (by kernel_rfl) rfl (fun W hW=>exec_lds 0 _ (Mem.get hW 0 rfl) rfl _ un_b64 rfl 64 sz_b64 (by rw [u8s_length,HL.out];omega) (by rw [List.drop_zero,List.take_of_length_le (by rw [u8s_length];exact Nat.le_of_eq HL.out)])) hm.tail ?_
 go_simp
 refine aT 2 (v:=.agg (u8s b).toArray) rfl (by kernel_rfl) rfl (fun W hW=>exec_lds 0 _ (Mem.get hW 0 rfl) rfl _ un_b64 rfl 64 sz_b64 (by rw [u8s_length,HL.out];omega) (by rw [List.drop_zero,List.take_of_length_le (by rw [u8s_length];exact Nat.le_of_eq HL.out)])) hm.tail ?_
 go_simp
 refine aP 1 (by kernel_rfl) rfl rfl ?_
 intro K hK
 go_wp2_with (go_at_call 173;refine (hashOf_any b 54 HL.out HB.out (by omega) _ (Tab.mem HT.out hm (by simp))).mono ?_;rintro e w4 ⟨gi,rfl,hgi,hri,hb⟩;replace hm:=hm.callNew hb hri hgi;clear hb hgi hri)
 refine hK _ _ hm.tail.tail ?_
 clear hK K
 refine aP 3 (by kernel_rfl) rfl rfl ?_
 intro K hK
 go_wp2_with (go_at_call 173;refine (hashOf_any b 92 HL.out HB.out (by omega) _ (Tab.mem HT.out hm (by simp))).mono ?_;rintro e w5 ⟨go,rfl,hgo,hro,hb⟩;replace hm:=hm.callNew hb hro hgo;clear hb hgo hro)
 refine hK _ _ hm.tail.tail.tail ?_
 clear hK K
 refine aP 4 (by kernel_rfl) rfl rfl ?_
 intro K hK
 refine wpl_build (pl:=[(0,.tmp 4),(1,.tmp 6)]) (begV gi go) [(0,.pointer (some ⟨gi,0,none⟩)),(1,.pointer (some ⟨go,0,none⟩))] rfl (by kernel_rfl) ?_
 refine wpList_nil ?_
 refine hK _ _ hm.tail.tail.tail ?_
 clear hK K
 refine aP 5 (by kernel_rfl) rfl rfl ?_
 intro K hK
 refine wpl_stw 2 (begV gi go) hm rfl rfl rfl 2 sz_beg rfl rfl (by intro v hv;simp [begV] at hv;rcases hv with rfl | rfl<;>rfl) ?_
 clear hm
 intro w6 hm
 refine wpList_nil ?_
 refine hK _ _ hm.tail.tail.tail ?_
 clear hK K
 refine wpAnyH_done (by kernel_rfl) ?_ _
 simp only [endsIn]
 go_wp2_with fail
 have h0:=hm.fresh _ (List.mem_cons_self ..)
 have h1:=hm.tail.fresh _ (List.mem_cons_self ..)
 refine ret_cell 2 hm rfl Tryz.results156 rfl _ un_beg rfl 2 sz_beg rfl rfl ⟨gi,go,rfl,by simpa using h1,by simpa using h0,fun h=>hm.ne 0 rfl h.symm,hm.get 1 rfl,hm.get 0 rfl,hm.below⟩
def catN (Pc:Nat→List Int):Nat→List Int
 | 0=>[]
 | k+1=>catN Pc k++Pc k
theorem catN_bytes {Pc:Nat→List Int} {N:Nat} (h:∀i,i<N→Bytes (Pc i)):∀k,k≤N→Bytes (catN Pc k):=by
 intro k
 induction k with
 | zero=>intro _;exact bytes_none
 | succ k ih=>intro hk;exact (ih (by omega)).append (h k (by omega))
theorem catN_mono (Pc:Nat→List Int) (k j:Nat):(catN Pc k).length≤(catN Pc (k+j)).length:=by
 induction j with
 | zero=>exact Nat.le_refl _
 | succ j ih=>rw [←Nat.add_assoc,catN,List.length_append];omega
theorem catN_le (Pc:Nat→List Int) {k N:Nat} (h:k≤N):(catN Pc k).length≤(catN Pc N).length:=by
 have:=catN_mono Pc k (N - k)
 rwa [show k+(N - k)=N by omega] at this
set_option maxHeartbeats 2000000 in
theorem code_any (gi go:Nat) (ki ko:List Int) (hki:Bytes ki) (hko:Bytes ko) (hkl:ko.length≤64) (b o N cap:Nat) (Pv:Nat→Value) (Pc:Nat→List Int) (hlen:ki.length+(catN Pc N).length≤1000000) (hN:N≤3) (w:World) (ht:Tab w)
  (hri:Row w gi (hrow (wsOf ki) (restOf ki) (ki.length:Int)) 248) (hro:Row w go (hrow (wsOf ko) (restOf ko) (ko.length:Int)) 248)
  (hp:∀i,i<N→w.cell? ⟨b,o+i,none⟩=some (Pv i)∧SlOld w (Pv i) (Pc i)∧Bytes (Pc i)) :
  Calls Tryz.prog 142 #[.agg (begV gi go).toArray,.slice (some ⟨b,o,none⟩) N cap] w fun e w'=>e=.returned (.agg (u8s (shaOf (ko++shaOf (ki++catN Pc N)))).toArray)∧Below w.heap.size w w':=by
 have hm:=Mem.start w
 have HT:Hid _:=ht
 have HKI:Hid _:=hki
 have HKO:Hid _:=hko
 have HRI:Hid (Row w gi (hrow (wsOf ki) (restOf ki) (ki.length:Int)) 248):=hri
 have HRO:Hid (Row w go (hrow (wsOf ko) (restOf ko) (ko.length:Int)) 248):=hro
 have HP:Hid _:=hp
 have HCB:Hid (∀k,k≤N→Bytes (catN Pc k)):=catN_bytes (fun i hi=>(hp i hi).2.2)
 clear ht hki hko hri hro hp
 go_enter Tryz.func142,Tryz.ntmps142
 go_wp2_with (first
  | ((with_reducible refine at_op (some 2) (.box 212 (.tmp 0)) ?_);refine wpl_box (begV gi go) rfl hm ?_;clear hm;intro w1 g2 hm)
  | ((with_reducible refine at_op (some 4) (.alloc 60) ?_);refine wpl_alloc _ zero_b32 hm ?_;clear hm;intro w2 g4 hm)
  | ((with_reducible refine at_op (some 11) (.load 210 (.tmp 10)) ?_);refine wpl_ldc 1 0 (.pointer (some ⟨gi,0,none⟩)) hm rfl rfl ag_hp (rfl) ?_)
  | (go_at_call 161;refine (copy_any gi (wsOf ki) (restOf ki) _ (wsOf_length _) (restOf_length _) _ (HRI.out.below' hm.below)).mono ?_;rintro e w3 ⟨gc,rfl,hge,hr,hb⟩;have HGC:Hid _:=Nat.ne_of_lt (Nat.lt_of_lt_of_le (Tab.lt (Tab.mem HT.out hm (by simp))) hge);replace hm:=hm.callNew hb hr hge;clear hb hr hge))

 have hgw:w.heap.size≤gc:=by simpa using hm.fresh _ (List.mem_cons_self ..)
 have HGW:Hid _:=hgw
 clear hgw
 go_loopw [15] (fun vi wr=>∃k:Nat,k≤N∧vi=.int .i64 k∧Mem w [] wr [(gc,hrow (wsOf (ki++catN Pc k)) (restOf (ki++catN Pc k)) ((ki++catN Pc k).length:Int),248),(g4,u8s (List.replicate 32 0),60),(g2,begV gi go,212)]) (fun vi _=>N - (intOf vi).toNat)
 case atStart=>exact ⟨0,by omega,rfl,by rw [catN,List.append_nil];exact hm⟩
 case round =>
  clear hm
  obtain ⟨k,hk,rfl,hm⟩:=hrel
  by_cases hlt:k<N
  ·obtain ⟨hck,hsk,hbk⟩:=HP.out k hlt
   obtain ⟨pk,ck,hpk,_⟩:=hsk.len
   rw [hpk] at hck hsk
   have hki2:(k:Int)<(N:Int):=by omega
   have HB0:Hid (b<w.heap.size):=block_lt_of_cell hck
   have HCK:Hid _:=hck
   have HSK:Hid (SlOld w (.slice pk (Pc k).length ck) (Pc k)):=hsk
   have HBK:Hid _:=hbk
   have HBM:Hid (Bytes (ki++catN Pc k)):=Bytes.append HKI.out (HCB.out k (by omega))
   have hll:(ki++catN Pc k).length+(Pc k).length≤1099511627776:=by
    have:=catN_le Pc (show k+1≤N by omega)
    rw [catN,List.length_append] at this
    rw [List.length_append]
    omega
   have HLL:Hid _:=hll
   clear hck hsk hbk hll hpk
   go_wp2_with (first
    | ((with_reducible refine at_op (some 18) (.load 22 (.tmp 17)) ?_);refine wpl_ldx (.slice pk (Pc k).length ck) ((hm.old (p:=⟨b,o+k,none⟩) HB0.out (by simp)).trans HCK.out) rfl ag_bs ?_)
    | (go_at_call 162;refine (write_any gc (ki++catN Pc k) (Pc k) _ HBM.out HBK.out HLL.out _ (Tab.mem HT.out hm (by simp)) HGC.out (hm.get 0 rfl) (SlOld.sl HSK.out hm.below HGW.out)).mono ?_;rintro e w5 ⟨rfl,hr,hu⟩;replace hm:=hm.upd 0 rfl hu hr;clear hr hu))

   rw [List.append_assoc] at hm
   replace hm:Mem w [] w5 [(gc,hrow (wsOf (ki++catN Pc (k+1))) (restOf (ki++catN Pc (k+1))) ((ki++catN Pc (k+1)).length:Int),248),(g4,u8s (List.replicate 32 0),60),(g2,begV gi go,212)]:=hm
   go_roundw
   case rel=>exact ⟨k+1,by omega,by go_num,hm⟩
   case measure=>simp [intOf];omega
  ·have hkN:k=N:=by omega
   subst hkN
   have hni:¬(k:Int)<(k:Int):=by omega
   obtain ⟨s,hs⟩:∃s,s=shaOf (ki++catN Pc k):=⟨_,rfl⟩
   have HS:Hid _:=hs
   have HSL:Hid (s.length=32):=by show _=_;rw [hs,shaOf_length]
   have HSB:Hid (Bytes s):=by rw [hs];exact shaOf_bytes _
   have HBM:Hid (Bytes (ki++catN Pc k)):=Bytes.append HKI.out (HCB.out k (by omega))
   have HBO:Hid (Bytes (ko++s)):=Bytes.append HKO.out HSB.out
   clear hs
   have HOL:Hid (ko.length+s.length≤1099511627776):=by show _≤_;have:=HSL.out;omega
   go_wp2_with fail
   refine (hashSum_any gc (ki++catN Pc k) HBM.out (by rw [List.length_append];omega) _ (Tab.mem HT.out hm (by simp)) (hm.get 0 rfl)).mono ?_
   rintro e w6 ⟨rfl,hb⟩
   replace hm:=hm.call hb
   clear hb
   rw [show shaOf (ki++catN Pc k)=s from HS.out.symm]
   go_wp2_with (first
    | ((with_reducible refine at_op (some 8) (.alloc 60) ?_);refine wpl_alloc _ zero_b32 hm ?_;clear hm;intro w7 g8 hm)
    | ((with_reducible refine at_op none (.store 60 (.tmp 8) (.tmp 24)) ?_);refine wpl_stw 0 (u8s s) hm rfl rfl rfl 32 sz_b32 (by simp [u8s_length]) (by rw [u8s_length];exact HSL.out) (u8s_one _) ?_;clear hm;intro w8 hm)
    | ((with_reducible refine at_op (some 26) (.load 210 (.tmp 25)) ?_);refine wpl_ldc 3 1 (.pointer (some ⟨go,0,none⟩)) hm rfl rfl ag_hp (rfl) ?_)
    | (go_at_call 161;refine (copy_any go (wsOf ko) (restOf ko) _ (wsOf_length _) (restOf_length _) _ (HRO.out.below' hm.below)).mono ?_;rintro e w9 ⟨gd,rfl,hge,hr,hb⟩;have HGD:Hid _:=Nat.ne_of_lt (Nat.lt_of_lt_of_le (Tab.lt (Tab.mem HT.out hm (by simp))) hge);replace hm:=hm.callNew hb hr hge;clear hb hr hge)
    | (go_at_call 162;refine (write_any gd ko s _ HKO.out HSB.out HOL.out _ (Tab.mem HT.out hm (by simp)) HGD.out (hm.get 0 rfl) (sl_all (hm.get 1 rfl) (fun h=>hm.ne 0 rfl h.symm) HSL.out (Nat.le_refl _))).mono ?_;rintro e w10 ⟨rfl,hr,hu⟩;replace hm:=hm.upd 0 rfl hu hr;clear hr hu)
    | (go_at_call 163;refine (hashSum_any gd (ko++s) HBO.out (by rw [List.length_append];exact HOL.out) _ (Tab.mem HT.out hm (by simp)) (hm.get 0 rfl)).mono ?_;rintro e w11 ⟨rfl,hb⟩;replace hm:=hm.call hb;clear hb)
    | ((with_reducible refine at_op none (.store 60 (.tmp 4) (.tmp 32)) ?_);refine wpl_stw 3 (u8s (shaOf (ko++s))) hm rfl rfl rfl 32 sz_b32 (by simp [u8s_length]) (by rw [u8s_length,shaOf_length]) (u8s_one _) ?_;clear hm;intro w12 hm))
   exact ret_cell 3 hm rfl Tryz.results142 rfl _ un_b32 rfl 32 sz_b32 (by rw [u8s_length,shaOf_length]) rfl ⟨by rw [HS.out],hm.below⟩
set_option maxHeartbeats 1000000 in
theorem mac_any (ks ms:List Int) (vk vm:Value) (hbk:Bytes ks) (hbm:Bytes ms) (hkl:ks.length≤500000) (hml:ms.length≤500000) (w:World) (ht:Tab w) (hvk:SlOld w vk ks) (hvm:SlOld w vm ms) :
  Calls Tryz.prog 128 #[vk,vm] w fun e w'=>e=.returned (.agg (u8s (macOf ks ms)).toArray)∧Below w.heap.size w w':=by
 obtain ⟨pk,ck,rfl,_⟩:=hvk.len
 obtain ⟨pm,cm,rfl,_⟩:=hvm.len
 have hm:=Mem.start w
 have HT:Hid _:=ht
 have HBK:Hid _:=hbk
 have HBM:Hid _:=hbm
 have HVK:Hid (SlOld w (.slice pk ks.length ck) ks):=hvk
 have HVM:Hid (SlOld w (.slice pm ms.length cm) ms):=hvm
 have HFB:Hid _:=fillOf_bytes hbk
 have HML:Hid (macOf ks ms=shaOf (padOut ks++shaOf (padIn ks++catN (fun _=>ms) 1))):=rfl
 clear ht hbk hbm hvk hvm
 go_enter Tryz.func128,Tryz.ntmps128
 go_wp2_with (first
  | ((with_reducible refine at_op (some 4) (.alloc 60) ?_);refine wpl_alloc _ zero_b32 hm ?_;clear hm;intro w1 g4 hm)
  | (go_at_call 157;refine (filled_any ks _ HBK.out (by omega) _ (Tab.mem HT.out hm (by simp)) (SlOld.mem HVK.out hm)).mono ?_;rintro e w2 ⟨rfl,hb⟩;replace hm:=hm.call hb;clear hb)
  | (go_at_call 156;refine (begin_any (fillOf ks) (fillOf_length _) HFB.out _ (Tab.mem HT.out hm (by simp))).mono ?_;rintro e w3 ⟨gi,go,rfl,hgi,hgo,_,hri,hro,hb⟩;have HRI:Hid (Row w3 gi (hrow (wsOf (padIn ks)) (restOf (padIn ks)) ((padIn ks).length:Int)) 248):=hri;have HRO:Hid (Row w3 go (hrow (wsOf (padOut ks)) (restOf (padOut ks)) ((padOut ks).length:Int)) 248):=hro;replace hm:=hm.call hb;clear hb hri hro hgi hgo)
  | ((with_reducible refine at_op (some 9) (.buildSlice 233 1 #[(0,.tmp 8)]) ?_);refine wpl_bsl1 rfl (.slice none 0 0) (.slice pm ms.length cm) un_bss info_bs rfl rfl rfl hm ?_;clear hm;intro w4 g9 hb4 hm)
  | (go_at_call 142;refine (code_any gi go (padIn ks) (padOut ks) (padIn_bytes HBK.out) (padOut_bytes HBK.out) (by rw [padOut_length];omega) g9 0 1 1 (fun _=>.slice pm ms.length cm) (fun _=>ms) (by rw [padIn_length];simp [catN];omega) (by omega) _ (Tab.mem HT.out hm (by simp)) (HRI.out.below' hb4) (HRO.out.below' hb4) (fun i hi=>⟨by rw [Nat.zero_add,show i=0 by omega];exact hm.cell 0 rfl 0,SlOld.mem HVM.out hm,HBM.out⟩)).mono ?_;rintro e w5 ⟨rfl,hb⟩;rw [←HML.out];replace hm:=hm.call hb;clear hb)
  | ((with_reducible refine at_op none (.store 60 (.tmp 4) (.tmp 10)) ?_);refine wpl_stw 1 (u8s (macOf ks ms)) hm rfl rfl rfl 32 sz_b32 (by simp [u8s_length]) (by rw [u8s_length,macOf_length]) (u8s_one _) ?_;clear hm;intro w6 hm))
 exact ret_cell 1 hm rfl Tryz.results128 rfl _ un_b32 rfl 32 sz_b32 (by rw [u8s_length,macOf_length]) rfl ⟨rfl,hm.below⟩
open Go Go.RowKit
open Go.Maps
theorem key_laid:laidOutB Tryz.prog=true:=by kernel_rfl
theorem key_row:(61:TypeId)<Tryz.prog.types.size:=of_decide_eq_true (by kernel_rfl)
theorem key_wide:(match Tryz.prog.underlying 61 with | some (.array _ _) | some (.struct _)=>true | _=>false)=true:=by kernel_rfl
theorem key_law:Keyed Tryz.prog 61:=Keyed.of_law (deep_law_laid key_laid (m:=2) (by omega) key_row (by kernel_rfl) key_wide)
theorem key_type:Tryz.prog.keyType 61=true:=by kernel_rfl
theorem key_cells:Tryz.prog.cellsOf 61=32:=by kernel_rfl
theorem byte_cells:Tryz.prog.cellsOf 5=1:=by kernel_rfl
theorem types_some:∃n,Tryz.prog.types.size=n+1:=⟨Tryz.prog.types.size - 1,by have h:(61:Nat)<Tryz.prog.types.size:=key_row;omega⟩
theorem mapM_all {α β:Type} (f:α→Option β) (g:α→β):∀l:List α,(∀x∈l,f x=some (g x))→l.mapM f=some (l.map g)
 | [],_=>rfl
 | x::r,h=>by
  rw [List.mapM_cons,h x (List.mem_cons_self ..),mapM_all f g r (fun y hy=>h y (List.mem_cons_of_mem _ hy))]
  rfl
theorem wf_u8 (x:Int) (h0:0≤x) (h1:x<256):(Lit.int .u8 x).wf=true:=by
 simp [Lit.wf,IntKind.min,IntKind.max,IntKind.signed,IntKind.bits]
 omega
theorem key_of (zs:List Int) (hl:zs.length=32) (hb:Bytes zs):∃kl,keyOf Tryz.prog 61 (.agg (u8s zs).toArray)=some kl:=by
 obtain ⟨n,hn⟩:=types_some
 have hf:(Value.agg (u8s zs).toArray).formed Tryz.prog 61=true:=by
  simp [Value.formed,key_cells,u8s_length,hl]
 have hk:Tryz.prog.keyLits (Tryz.prog.types.size+1) 61 (u8s zs)=some ((List.range 32).map fun i=>[Lit.int .u8 (zs.getD i 0)]).flatten:=by
  unfold Program.keyLits
  simp only [un_key]
  rw [if_pos (by rw [u8s_length,hl,key_cells]),mapM_all (g:=fun i=>[Lit.int .u8 (zs.getD i 0)])]
  ·rfl
  ·intro i hi
   have hi':i<zs.length:=by rw [hl];exact List.mem_range.1 hi
   have hc:(List.drop (i * Tryz.prog.cellsOf 5) (u8s zs)).take (Tryz.prog.cellsOf 5)=[.int .u8 (zs.getD i 0)]:=by
    rw [byte_cells,Nat.mul_one,List.take_one,List.head?_drop,u8s_get zs i hi']
    rfl
   have:=hb.get i
   rw [hc,hn]
   unfold Program.keyLits
   have hg:=wf_u8 _ this.1 this.2
   simp only [un_u8]
   exact if_pos ⟨trivial,hg⟩
 unfold keyOf
 rw [un_key]
 simp only
 rw [if_pos (by rw [key_type,hf];rfl)]
 exact ⟨_,by rw [show (Value.agg (u8s zs).toArray).cells.toList=u8s zs from rfl,hk];rfl⟩
theorem un_started:Tryz.prog.underlying 209=some (.map 61 212):=Tryz.underlying209
def noBeg:List Value:=[.pointer none,.pointer none]
def MapHas (w:World) (m:Nat) (key s:Value):Prop :=
 ∃(R:Value→Option (DataW Unit×List MemPlace)) (kl:Lit),keyOf Tryz.prog 61 key=some kl∧R s=some (.lit (.bool true),[])∧(∀v ps,R v=some (.lit (.bool true),ps)→v=s)∧R (.agg noBeg.toArray)=some (.lit (.bool false),[])∧w.ownsMap Tryz.prog 61 R m 1 ((DataW.map []).put kl (.lit (.bool true)))
theorem MapHas.isMap {w:World} {m:Nat} {key s:Value} (h:MapHas w m key s):∃es c,w.heap[m]?=some (.map es c):=by
 obtain ⟨_,_,_,_,_,_,es,c,hb,_⟩:=h
 exact ⟨es,c,hb⟩
theorem MapHas.kept {w w':World} {m:Nat} {key s:Value} (h:MapHas w m key s) (hg:w'.heap[m]?=w.heap[m]?):MapHas w' m key s:=by
 obtain ⟨R,kl,h1,h2,h3,h4,es,c,hb,h5⟩:=h
 exact ⟨R,kl,h1,h2,h3,h4,es,c,hg.trans hb,h5⟩
theorem MapHas.hidKept {w w':World} {m g:Nat} {key s:Value} {l:List Value} {t:TypeId} (h:MapHas w m key s) (hu:Upd g w w') (hr:Row w g l t):Hid (MapHas w' m key s):=by
 obtain ⟨es,c,hmap⟩:=h.isMap
 exact h.kept (hu.block m (Array.getElem?_eq_some_iff.1 hmap).1 (fun he=>by
  rw [he,hr] at hmap
  cases hmap))
def Started (w:World) (m:Nat) (zs:List Int):Prop :=
 w.heap[m]?=some (.map #[] 0)∨∃gi go,MapHas w m (.agg (u8s zs).toArray) (.agg (begV gi go).toArray)∧Row w gi (hrow (wsOf (padIn zs)) (restOf (padIn zs)) ((padIn zs).length:Int)) 248∧Row w go (hrow (wsOf (padOut zs)) (restOf (padOut zs)) ((padOut zs).length:Int)) 248
theorem Started.isMap {w:World} {m:Nat} {zs:List Int} (h:Started w m zs):∃es c,w.heap[m]?=some (.map es c):=by
 rcases h with h | ⟨_,_,h,_⟩
 ·exact ⟨_,_,h⟩
 ·exact h.isMap
theorem row_ne_map {w:World} {g m:Nat} {l:List Value} {t:TypeId} {es:Array MapEntry} {c:Nat} (hr:Row w g l t) (hm:w.heap[m]?=some (.map es c)):g≠m:=by
 rintro rfl
 rw [hr] at hm
 cases hm
theorem Mem.updO {w0 w w':World} {S:List Nat} {rows:List (Nat×List Value×TypeId)} {m:Nat} {es:Array MapEntry} {c:Nat} (hm:Mem w0 S w rows) (hmap:w.heap[m]?=some (.map es c)) (hS:m∈S∨w0.heap.size≤m) (hu:Upd m w w'):Mem w0 S w' rows:=by
 refine ⟨hu.os.trans hm.os,hu.tape.trans hm.tape,hu.output.trans hm.output,Nat.le_trans hm.size hu.size,fun k hk hn=>?_,fun r hr=>hu.row (hm.row r hr) (row_ne_map (hm.row r hr) hmap),hm.nodup,hm.fresh⟩
 refine (hu.block k (Nat.lt_of_lt_of_le hk hm.size) ?_).trans (hm.block k hk hn)
 rintro rfl
 rcases hS with h | h
 ·exact hn h
 ·omega
theorem Mem.trans {w0 w w':World} {S:List Nat} {rows rows':List (Nat×List Value×TypeId)} (hm:Mem w0 S w rows) (h2:Mem w (rows.map Prod.fst) w' rows'):Mem w0 S w' rows':=by
 refine ⟨h2.os.trans hm.os,h2.tape.trans hm.tape,h2.output.trans hm.output,Nat.le_trans hm.size h2.size,fun k hk hn=>?_,h2.row,h2.nodup,fun r hr=>?_⟩
 ·refine (h2.block k (Nat.lt_of_lt_of_le hk hm.size) (fun hc=>?_)).trans (hm.block k hk hn)
  obtain ⟨r,hr,rfl⟩:=List.mem_map.1 hc
  rcases hm.fresh r hr with h | h
  ·exact hn h
  ·omega
 ·rcases h2.fresh r hr with h | h
  ·obtain ⟨q,hq,he⟩:=List.mem_map.1 h
   rw [←he]
   exact hm.fresh q hq
  ·exact Or.inr (Nat.le_trans hm.size h)
theorem Seg.notMap {w:World} {b off m:Nat} {cs:List Int} {es:Array MapEntry} {c:Nat} (h:Seg w b off cs) (h0:0<cs.length) (hm:w.heap[m]?=some (.map es c)):b≠m:=by
 rintro rfl
 have:=h 0 h0
 simp [World.cell?,hm] at this
theorem SlOld.updMap {w w':World} {v:Value} {cs:List Int} {m:Nat} {es:Array MapEntry} {c:Nat} (h:SlOld w v cs) (hm:w.heap[m]?=some (.map es c)) (hu:Upd m w w'):SlOld w' v cs:=by
 obtain ⟨p,cap,hv,hc,hs⟩:=h
 refine ⟨p,cap,hv,hc,fun h0=>?_⟩
 obtain ⟨b,off,hp,hseg⟩:=hs h0
 refine ⟨b,off,hp,fun j hj=>?_⟩
 rw [hu.cell (p:=⟨b,off+j,none⟩) (hseg.lt h0) (hseg.notMap h0 hm)]
 exact hseg j hj
theorem upd_of_mem {w w':World} {m:Nat} {rows:List (Nat×List Value×TypeId)} (hm:Mem w [m] w' rows):Upd m w w' :=
 ⟨hm.os,hm.tape,hm.output,hm.size,fun k hk hn=>hm.block k hk (by simpa using hn)⟩
theorem Mem.mapUpd {w0 w w':World} {rows:List (Nat×List Value×TypeId)} {m:Nat} {es:Array MapEntry} {c:Nat} (hm:Mem w0 [] w rows) (hmap:w.heap[m]?=some (.map es c)) (hg:w.grownBy w' (some m)):Mem w0 [m] w' rows:=by
 refine ⟨hg.os.trans hm.os,hg.tape.trans hm.tape,hg.output.trans hm.output,Nat.le_trans hm.size hg.size,fun k hk hn=>?_,fun r hr=>?_,hm.nodup,fun r hr=>Or.inr ?_⟩
 ·exact (hg.block k (Nat.lt_of_lt_of_le hk hm.size) (by simpa using hn)).trans (hm.block k hk (by simp))
 ·have hrow:=hm.row r hr
  unfold Row
  rw [hg.block r.1 hrow.lt (fun he=>row_ne_map hrow hmap (by simpa using he))]
  exact hrow
 ·have:=hm.fresh r hr
  simpa using this
theorem begV_ne (gi go:Nat):Value.agg (begV gi go).toArray≠.agg noBeg.toArray:=by
 simp [begV,noBeg]
theorem begV_one (gi go:Nat):∀v∈begV gi go,v.oneCell'=true:=by
 intro v hv
 simp [begV] at hv
 rcases hv with rfl | rfl<;>rfl
theorem noBeg_one:∀v∈noBeg,v.oneCell'=true:=by
 intro v hv
 simp [noBeg] at hv
 subst hv
 rfl
theorem pin_zero:∃R0:Value→Option (DataW Unit×List MemPlace),R0 (.agg noBeg.toArray)=some (.nil,[])∧∀v p,R0 v=some p→v=.agg noBeg.toArray:=by
 classical
 refine ⟨fun v=>if v=.agg noBeg.toArray then some (.nil,[]) else none,if_pos rfl,fun v p h=>?_⟩
 by_cases hv:v=.agg noBeg.toArray
 ·exact hv
 ·simp [hv] at h
theorem pin_of (s:Value) (hs:s≠.agg noBeg.toArray):∃R:Value→Option (DataW Unit×List MemPlace),R s=some (.lit (.bool true),[])∧(∀v ps,R v=some (.lit (.bool true),ps)→v=s)∧R (.agg noBeg.toArray)=some (.lit (.bool false),[]):=by
 classical
 refine ⟨fun v=>if v=s then some (.lit (.bool true),[]) else some (.lit (.bool false),[]),if_pos rfl,fun v ps h=>?_,if_neg (fun h=>hs h.symm)⟩
 by_cases hv:v=s
 ·exact hv
 ·simp [hv] at h
theorem own_none {W:World} {m:Nat} (h:W.heap[m]?=some (.map #[] 0)) (R:Value→Option (DataW Unit×List MemPlace)):W.ownsMap Tryz.prog 61 R m 0 (.map []) :=
 ⟨#[],0,h,⟨by simp,MapKept.stamped_empty 0,by simp⟩,Nat.le_refl _,rfl⟩
set_option maxHeartbeats 800000 in
theorem under_first (zs:List Int) (m:Nat) (hl:zs.length=32) (hb:Bytes zs) (w:World) (ht:Tab w) (hm0:w.heap[m]?=some (.map #[] 0)) :
  Calls Tryz.prog 141 #[.map (some m),.agg (u8s zs).toArray] w fun e w'=>∃gi go,e=.returned (.agg (begV gi go).toArray)∧MapHas w' m (.agg (u8s zs).toArray) (.agg (begV gi go).toArray)∧Row w' gi (hrow (wsOf (padIn zs)) (restOf (padIn zs)) ((padIn zs).length:Int)) 248∧Row w' go (hrow (wsOf (padOut zs)) (restOf (padOut zs)) ((padOut zs).length:Int)) 248∧Upd m w w':=by
 obtain ⟨kl,hkl⟩:=key_of zs hl hb
 have hm:=Mem.start w
 obtain ⟨R0,hR0,hR0i⟩:=pin_zero
 have HMT:Hid (m<w.heap.size):=(Array.getElem?_eq_some_iff.1 hm0).1
 have HT:Hid _:=ht
 have HL:Hid _:=hl
 have HKL:Hid _:=hkl
 have HM0:Hid _:=hm0
 have HR0:Hid _:=hR0
 have HR0I:Hid _:=hR0i
 have HB:Hid _:=hb
 have HFB:Hid _:=fillOf_bytes hb
 have HU:Hid ((u8s zs).length=32):=by show _=_;rw [u8s_length];exact hl
 clear ht hl hkl hm0 hR0 hR0i hb
 go_enter Tryz.func141,Tryz.ntmps141
 go_wp2_with (first
  | ((with_reducible refine at_op (some 3) (.box 61 (.tmp 1)) ?_);refine wpl_box (u8s zs) rfl hm ?_;clear hm;intro w1 g3 hm)
  | ((with_reducible refine at_op (some 4) (.alloc 212) ?_);refine wpl_alloc _ zero_beg hm ?_;clear hm;intro w2 g4 hm)
  | ((with_reducible refine at_op (some 10) (.load 61 (.tmp 3)) ?_);refine wpl_ldw 1 hm rfl rfl _ un_key rfl 32 sz_key (HU.out) ?_)
  | ((with_reducible refine at_op (some 11) (.lookup 209 (.tmp 9) (.tmp 10) true) ?_);refine wpList_lookup_own_ok _ rfl _ _ 209 rfl 61 212 key_law un_started R0 (zero_beg _) .nil [] HR0.out m 0 (.map []) rfl (own_none ((hm.block m HMT.out (by simp)).trans HM0.out) R0) _ kl rfl HKL.out ?_;intro v ps hv;obtain rfl:=HR0I.out v _ hv;clear hv;rw [show Maps.has (DataW.map ([]:List (Lit×DataW Unit))) kl=false from rfl])
  | ((with_reducible refine at_op (some 5) (.alloc 212) ?_);refine wpl_alloc _ zero_beg hm ?_;clear hm;intro w3 g5 hm)
  | ((with_reducible refine at_op none (.store 212 (.tmp 5) (.tmp 12)) ?_);refine wpl_stw 0 noBeg hm rfl rfl rfl 2 sz_beg (rfl) (rfl) (noBeg_one) ?_;clear hm;intro w4 hm)
  | (go_at_call 157;refine (filled_any zs _ HB.out (by rw [HL.out];omega) _ (Tab.mem HT.out hm (by simp)) (old_all (hm.get 2 rfl) HL.out (Nat.le_refl _))).mono ?_;rintro e w5 ⟨rfl,hb⟩;replace hm:=hm.call hb;clear hb)
  | (go_at_call 156;refine (begin_any (fillOf zs) (fillOf_length _) HFB.out _ (Tab.mem HT.out hm (by simp))).mono ?_;rintro e w6 ⟨gi,go,rfl,hgi,hgo,hne,hri,hro,hb⟩;replace hm:=hm.callNew2 hb hri hro hgi hgo hne;clear hb hri hro hgi hgo hne)
  | ((with_reducible refine at_op (some 7) (.alloc 212) ?_);refine wpl_alloc _ zero_beg hm ?_;clear hm;intro w7 g7 hm)
  | ((with_reducible refine at_op none (.store 212 (.tmp 7) (.tmp 18)) ?_);refine wpl_stw 0 (begV gi go) hm rfl rfl rfl 2 sz_beg (rfl) (rfl) (begV_one _ _) ?_;clear hm;intro w8 hm)
  | ((with_reducible refine at_op (some 20) (.load 61 (.tmp 3)) ?_);refine wpl_ldw 5 hm rfl rfl _ un_key rfl 32 sz_key (HU.out) ?_)
  | ((with_reducible refine at_op (some 21) (.load 212 (.tmp 7)) ?_);refine wpl_ldw 0 hm rfl rfl _ un_beg rfl 2 sz_beg (rfl) ?_)
  | ((with_reducible refine at_op none (.mapUpdate 209 (.tmp 19) (.tmp 20) (.tmp 21)) ?_);obtain ⟨R1,hR1,hR1i,hR1z⟩:=pin_of (.agg (begV gi go).toArray) (begV_ne gi go);refine wpList_mapUpdate_own _ rfl _ _ _ 209 rfl 61 212 key_law un_started R1 m 0 (.map []) rfl (own_none ((hm.block m HMT.out (by simp)).trans HM0.out) R1) (by unfold maxLen;omega) _ _ kl rfl rfl HKL.out (.lit (.bool true)) [] hR1 ?_;intro w9 hown1 hg1;have HAS:Hid (MapHas w9 m (.agg (u8s zs).toArray) (.agg (begV gi go).toArray)):=⟨R1,kl,HKL.out,hR1,hR1i,hR1z,hown1⟩;clear hown1 hR1 hR1i hR1z;have hm9:=hm.mapUpd ((hm.block m HMT.out (by simp)).trans HM0.out) hg1;clear hm hg1;have hm:=hm9;clear hm9)
  | ((with_reducible refine at_op (some 22) (.load 212 (.tmp 7)) ?_);refine wpl_ldw 0 hm rfl rfl _ un_beg rfl 2 sz_beg (rfl) ?_)
  | ((with_reducible refine at_op none (.store 212 (.tmp 4) (.tmp 22)) ?_);go_must (refine wpl_stwV 4 (begV gi go) hm rfl rfl rfl 2 sz_beg rfl rfl (begV_one _ _) ?_);intro w10 hu hm10;go_must (have HAS2:=MapHas.hidKept HAS.out hu (hm.get 4 rfl));clear hm hu HAS;have hm:=hm10;clear hm10))

 exact ret_cell 4 hm rfl Tryz.results141 rfl _ un_beg rfl 2 sz_beg rfl rfl ⟨gi,go,rfl,HAS2.out,hm.get 1 rfl,hm.get 2 rfl,upd_of_mem hm⟩
set_option maxHeartbeats 800000 in
theorem under_again (zs:List Int) (m gi go:Nat) (hl:zs.length=32) (w:World) (hh:MapHas w m (.agg (u8s zs).toArray) (.agg (begV gi go).toArray)) :
  Calls Tryz.prog 141 #[.map (some m),.agg (u8s zs).toArray] w fun e w'=>e=.returned (.agg (begV gi go).toArray)∧Below w.heap.size w w':=by
 obtain ⟨R,kl,hkl,hR,hRi,hRz,es,c,hblock,hrest⟩:=hh
 have hm:=Mem.start w
 have HMT:Hid (m<w.heap.size):=(Array.getElem?_eq_some_iff.1 hblock).1
 have HKL:Hid _:=hkl
 have HR:Hid _:=hR
 have HRI:Hid _:=hRi
 have HRZ:Hid _:=hRz
 have HBL:Hid _:=hblock
 have HRE:Hid _:=hrest
 have HA:Hid (((DataW.map ([]:List (Lit×DataW Unit))).put kl (.lit (.bool true))).atKey kl (.lit (.bool false))=.lit (.bool true)):=atKey_put_same isMap_empty (key_law.key hkl) _ _
 have HH:Hid (Maps.has ((DataW.map ([]:List (Lit×DataW Unit))).put kl (.lit (.bool true))) kl=true):=has_put_same isMap_empty (key_law.key hkl) _
 have HU:Hid ((u8s zs).length=32):=by show _=_;rw [u8s_length];exact hl
 clear hl hkl hR hRi hRz hblock hrest
 go_enter Tryz.func141,Tryz.ntmps141
 go_wp2_with (first
  | ((with_reducible refine at_op (some 3) (.box 61 (.tmp 1)) ?_);refine wpl_box (u8s zs) rfl hm ?_;clear hm;intro w1 g3 hm)
  | ((with_reducible refine at_op (some 4) (.alloc 212) ?_);refine wpl_alloc _ zero_beg hm ?_;clear hm;intro w2 g4 hm)
  | ((with_reducible refine at_op (some 10) (.load 61 (.tmp 3)) ?_);refine wpl_ldw 1 hm rfl rfl _ un_key rfl 32 sz_key (HU.out) ?_)
  | ((with_reducible refine at_op (some 11) (.lookup 209 (.tmp 9) (.tmp 10) true) ?_);refine wpList_lookup_own_ok _ rfl _ _ 209 rfl 61 212 key_law un_started R (zero_beg _) (.lit (.bool false)) [] HRZ.out m 1 ((DataW.map ([]:List (Lit×DataW Unit))).put kl (.lit (.bool true))) rfl ⟨es,c,(hm.block m HMT.out (by simp)).trans HBL.out,HRE.out⟩ _ kl rfl HKL.out ?_;intro v ps hv;rw [HA.out] at hv;obtain rfl:=HRI.out v _ hv;clear hv;rw [HH.out])
  | ((with_reducible refine at_op (some 5) (.alloc 212) ?_);refine wpl_alloc _ zero_beg hm ?_;clear hm;intro w3 g5 hm)
  | ((with_reducible refine at_op none (.store 212 (.tmp 5) (.tmp 12)) ?_);refine wpl_stw 0 (begV gi go) hm rfl rfl rfl 2 sz_beg (rfl) (rfl) (begV_one _ _) ?_;clear hm;intro w4 hm)
  | ((with_reducible refine at_op (some 15) (.load 212 (.tmp 5)) ?_);refine wpl_ldw 0 hm rfl rfl _ un_beg rfl 2 sz_beg (rfl) ?_)
  | ((with_reducible refine at_op none (.store 212 (.tmp 4) (.tmp 15)) ?_);refine wpl_stw 1 (begV gi go) hm rfl rfl rfl 2 sz_beg (rfl) (rfl) (begV_one _ _) ?_;clear hm;intro w5 hm))

 exact ret_cell 1 hm rfl Tryz.results141 rfl _ un_beg rfl 2 sz_beg rfl rfl ⟨rfl,hm.below⟩
theorem under_any (zs:List Int) (m:Nat) (hl:zs.length=32) (hb:Bytes zs) (w:World) (ht:Tab w) (hs:Started w m zs) :
  Calls Tryz.prog 141 #[.map (some m),.agg (u8s zs).toArray] w fun e w'=>∃gi go,e=.returned (.agg (begV gi go).toArray)∧MapHas w' m (.agg (u8s zs).toArray) (.agg (begV gi go).toArray)∧Row w' gi (hrow (wsOf (padIn zs)) (restOf (padIn zs)) ((padIn zs).length:Int)) 248∧Row w' go (hrow (wsOf (padOut zs)) (restOf (padOut zs)) ((padOut zs).length:Int)) 248∧Upd m w w':=by
 rcases hs with hs | ⟨gi,go,hs,hri,hro⟩
 ·exact under_first zs m hl hb w ht hs
 ·refine (under_again zs m gi go hl w hs).mono ?_
  rintro e w' ⟨rfl,hb⟩
  obtain ⟨es,c,hmap⟩:=hs.isMap
  exact ⟨gi,go,rfl,hs.kept (hb.block m (Array.getElem?_eq_some_iff.1 hmap).1),hri.below' hb,hro.below' hb,Upd.of_below hb⟩
end Go.Proofs.YtdkkdkgdaambiaaGreatDoor
