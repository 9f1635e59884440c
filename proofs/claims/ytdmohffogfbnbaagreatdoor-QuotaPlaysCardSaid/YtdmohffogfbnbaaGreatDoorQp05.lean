import Derived.Test.YtdmohffogfbnbaaGreatDoorQp04
import Derived.Laws.StructEq
import Derived.DeepKeys4
set_option maxRecDepth 100000
set_option maxHeartbeats 4000000
namespace Go.Proofs.YtdmohffogfbnbaaGreatDoor
open Go Go.RowKit
theorem cutHi_some (g o cap:Nat):cutHi (some ⟨g,o,none⟩) cap=some ⟨g,o,none⟩:=by
 unfold cutHi
 split
 ·rfl
 ·simp [bn]
theorem exec_hiB {a:Act} {w:World} {dst:Option Tmp} {typ:TypeId} {pos:String} {aft:Array Edge} {gd:Option (Nat×Bool)} {x hi:Operand} {g o len cap:Nat} (m:Nat) {ih:Int} (hm:m≤cap) (hx:a.eval x=.slice (some ⟨g,o,none⟩) len cap) (hhi:a.eval hi=.int .i64 ih) (hih:ih=(m:Int)) :
  (execOp a.eval {dst:=dst,op:=.slice 37 x none (some hi) none,type:=typ,pos:=pos,after:=aft,guard:=gd}).run Tryz.prog w=.ok (.value (.slice (some ⟨g,o,none⟩) m cap)) w:=by
 have h:=exec_sHi (P:=Tryz.prog) (w:=w) (dst:=dst) (typ:=typ) (pos:=pos) (aft:=aft) (gd:=gd) aW cG m hm hx hhi hih
 rw [cutHi_some] at h
 exact h
def jnk (c:UInt8) (xs:List ByteArray) (k:Nat):List UInt8:=jn c ((xs.take k).map bs)
theorem jn_snoc (c:UInt8):∀ {ks:List (List UInt8)} (x:List UInt8),ks≠[]→jn c (ks++[x])=jn c ks++c::x
 | [],_,h=>absurd rfl h
 | [k],x,_=>by rw [List.singleton_append,cj,cU,cU]
 | k::q::r,x,_=>by
  have:=jn_snoc c (ks:=q::r) x (by simp)
  rw [List.cons_append,List.cons_append,cj,cj,←List.cons_append,this]
  simp
theorem dB {xs:List ByteArray} {k:Nat} (hk:k<xs.length):(xs.take (k+1)).map bs=(xs.take k).map bs++[bs (xs.getD k noStr)]:=by
 have e:xs[k]?=some (xs.getD k noStr):=by simp [hk]
 rw [List.take_add_one,e,List.map_append];rfl
theorem jnk_one {c:UInt8} {xs:List ByteArray} (hk:0<xs.length):jnk c xs 1=bs (xs.getD 0 noStr):=by
 rw [jnk,dB hk];simp [cU]
theorem jnk_next {c:UInt8} {xs:List ByteArray} {k:Nat} (hk:k+1<xs.length):jnk c xs (k+2)=(jnk c xs (k+1)++[c])++bs (xs.getD (k+1) noStr):=by
 rw [jnk,dB hk,jn_snoc c _ (by
  intro h
  have:=congrArg List.length h
  rw [List.length_map,List.length_take,List.length_nil] at this
  omega),jnk]
 simp
theorem jn_len2 (c:UInt8) (B:Nat):∀ {ks:List (List UInt8)},(∀k∈ks,k.length≤B)→(jn c ks).length≤(B+1) * ks.length
 | [],_=>by simp [jn_nil]
 | [k],h=>by rw [cU];have:=h k (by simp);simp;omega
 | k::q::r,h=>by
  have:=h k (by simp)
  have h2:=jn_len2 c B (ks:=q::r) (fun x hx=>h x (List.mem_cons_of_mem _ hx))
  rw [cj]
  simp only [List.length_append,List.length_cons] at h2 ⊢
  have e:(B+1) * (r.length+1+1)=(B+1) * (r.length+1)+(B+1):=by rw [Nat.mul_succ]
  omega
theorem jnk_len {c:UInt8} {xs:List ByteArray} (hl:xs.length≤200) (hz:∀x∈xs,x.size≤200) (k:Nat):(jnk c xs k).length≤50000:=by
 have:=jn_len2 c 200 (ks:=(xs.take k).map bs) (fun y hy=>by obtain ⟨x,hx,rfl⟩:=List.mem_map.1 hy;rw [aV];exact hz x (List.mem_of_mem_take hx))
 have h2:((xs.take k).map bs).length≤200:=by simp;omega
 have h3:(200+1) * ((xs.take k).map bs).length≤(200+1) * 200:=Nat.mul_le_mul_left _ h2
 unfold jnk
 omega
theorem joinedR_go (c:UInt8) (xs:List ByteArray) (n cap:Nat) (p:Option Addr) (w:World) (hn:xs.length=n) (hv:SlS w (.slice p n cap) xs) (hl:n≤200) (hz:∀x∈xs,x.size≤200) :
  Calls Tryz.prog 76 #[.slice p n cap,.string ⟨#[c]⟩] w fun e w'=>e=.returned (.string (mkS (jn c (xs.map bs))))∧Below w.heap.size w w':=by
 have HV:Hid (SlS w (.slice p n cap) xs):=hv
 have HN:Hid (∀_:Unit,xs.length=n):=fun _=>hn
 have HZ:Hid (∀x∈xs,x.size≤200):=hz
 have HJ:Hid (∀k,(jnk c xs k).length≤50000):=fun k=>jnk_len (by omega) hz k
 obtain ⟨sp,hsp⟩:∃sp,sp=mkS [c]:=⟨_,rfl⟩
 have HSP:Hid (∀_:Unit,sp=mkS [c]):=fun _=>hsp
 rw [show (⟨#[c]⟩:ByteArray)=sp from hsp.symm]
 clear hv hn hz hsp
 go_enter Tryz.func76,Tryz.ntmps76
 go_wp2_with fail
 go_loopw [5,6] (fun vs vi wr=>∃k:Nat,k≤n∧vi=.int .i64 (k:Int)∧vs=.string (mkS (jnk c xs k))∧Hid (Below w.heap.size w wr)) (fun _ vi _=>n - (intOf vi).toNat)
 case atStart=>exact ⟨0,by omega,rfl,rfl,Below.refl _ _⟩
 case round =>
  obtain ⟨k,hk,rfl,rfl,HB⟩:=hrel
  by_cases hlt:k<n
  ·have hki:(k:Int)<(n:Int):=by omega
   obtain ⟨b,off,hp⟩:=SlS.at HV.out (HN.out ()) (by omega)
   subst hp
   obtain ⟨x,hx⟩:∃x,x=xs.getD k noStr:=⟨_,rfl⟩
   have HC:Hid (wr.cell? ⟨b,off+k,none⟩=some (.string x)):=by
    rw [hx]
    exact SlS.cells (HN.out ()) (SlV.below HV.out HB.out) k hlt
   have hmem:x∈xs:=by
    rw [hx,List.getD_eq_getElem?_getD,List.getElem?_eq_getElem (by rw [HN.out ()];exact hlt)]
    exact List.getElem_mem _
   have hxz:=HZ.out x hmem
   obtain ⟨c1,hc1⟩:∃s,s=mkS (jnk c xs k):=⟨_,rfl⟩
   obtain ⟨c3,hc3⟩:∃s,s=mkS (jnk c xs (k+1)):=⟨_,rfl⟩
   have hz1:c1.size≤50000:=by rw [hc1,bx];exact HJ.out k
   have HC3:Hid (∀_:Unit,c3=mkS (jnk c xs (k+1))):=fun _=>hc3
   cases k with
   | zero =>
    have HA:Hid (∀_:Unit,c3=c1++x):=fun _=>by
     rw [hc3,hc1,jnk_one (by rw [HN.out ()];exact hlt),←hx,show mkS (jnk c xs 0)=mkS [] from rfl]
     conv=>rhs;rw [←cp x]
     rw [bF];rfl
    have HZ1:Hid (∀_:Unit,c1.size+x.size≤1000000000):=fun _=>by omega
    rw [←hc1]
    clear hx hmem hc1 hc3 hz1 hxz
    go_wp2_with (first
     | ((with_reducible refine ab (some 22) (.load 9 (.tmp 21)) ?_);go_must (refine aa (.string x) rfl (ar (.string x) (HC.out) rfl aj) ?_))
     | ((with_reducible refine ab (some 23) (.binOp .add 9 (.tmp 18) (.tmp 22) 9) ?_);go_must (refine aa (.string c3) rfl (bP c1 x c3 (HA.out ()) rfl rfl (HZ1.out ())) ?_)))
    go_roundw
    case rel=>exact ⟨1,by omega,by go_num,by rw [HC3.out ()],HB.out⟩
    case measure=>simp [intOf];omega
   | succ k =>
    have hgt:(0:Int)<((k+1:Nat):Int):=by omega
    obtain ⟨c2,hc2⟩:∃s,s=c1++sp:=⟨_,rfl⟩
    have HA2:Hid (∀_:Unit,c2=c1++sp):=fun _=>hc2
    have hspz:sp.size=1:=by rw [HSP.out (),bx];rfl
    have HA:Hid (∀_:Unit,c3=c2++x):=fun _=>by
     rw [hc3,hc2,hc1,jnk_next (by rw [HN.out ()];exact hlt),←hx,HSP.out (),bF]
     conv=>rhs;rw [←cp x]
     rw [bF]
    have HZ1:Hid (∀_:Unit,c1.size+sp.size≤1000000000):=fun _=>by omega
    have HZ2:Hid (∀_:Unit,c2.size+x.size≤1000000000):=fun _=>by rw [hc2,ByteArray.size_append];omega
    rw [←hc1]
    clear hx hmem hc1 hc2 hc3 hz1 hxz hspz
    go_wp2_with (first
     | ((with_reducible refine ab (some 22) (.load 9 (.tmp 21)) ?_);go_must (refine aa (.string x) rfl (ar (.string x) (HC.out) rfl aj) ?_))
     | ((with_reducible refine ab (some 17) (.binOp .add 9 (.tmp 15) (.tmp 16) 9) ?_);go_must (refine aa (.string c2) rfl (bP c1 sp c2 (HA2.out ()) rfl rfl (HZ1.out ())) ?_))
     | ((with_reducible refine ab (some 23) (.binOp .add 9 (.tmp 18) (.tmp 22) 9) ?_);go_must (refine aa (.string c3) rfl (bP c2 x c3 (HA.out ()) rfl rfl (HZ2.out ())) ?_)))
    go_roundw
    case rel=>exact ⟨k+1+1,by omega,by go_num,by rw [HC3.out ()],HB.out⟩
    case measure=>simp [intOf];omega
  ·have hkn:n=k:=by omega
   subst hkn
   have hki:¬(n:Int)<(n:Int):=by omega
   have HE:Hid (∀_:Unit,jnk c xs n=jn c (xs.map bs)):=fun _=>by rw [jnk,List.take_of_length_le (by rw [HN.out ()];exact Nat.le_refl _)]
   go_wp2_with fail
   go_ret
   refine ⟨?_,HB.out⟩
   rw [←HE.out ()]
   rfl
theorem joinR_go (xs:List ByteArray) (n cap:Nat) (p:Option Addr) (w:World) (hn:xs.length=n) (hv:SlS w (.slice p n cap) xs) (hl:n≤1000) (hz:∀x∈xs,x.size≤maxLen) :
  Calls Tryz.prog 61 #[.slice p n cap] w fun e w'=>e=.returned (.string (mkS (jn 47 ((plOf xs).map bs))))∧Below w.heap.size w w':=by
 have HV:Hid (SlS w (.slice p n cap) xs):=hv
 have HN:Hid (∀_:Unit,xs.length=n):=fun _=>hn
 have HZ:Hid (∀x∈xs,x.size≤maxLen):=hz
 clear hv hn hz
 go_enter Tryz.func61,Tryz.ntmps61
 go_wp2_with fail
 go_loopw [3] (fun vi wr=>∃k:Nat,k≤n∧vi=.int .i64 (k:Int)∧Hid ((xs.take k).all (fun x=>seg (bs x))=true)∧Hid (Below w.heap.size w wr)) (fun vi _=>n - (intOf vi).toNat)
 case atStart=>exact ⟨0,by omega,rfl,rfl,Below.refl _ _⟩
 case round =>
  obtain ⟨k,hk,rfl,HA,HB⟩:=hrel
  by_cases hlt:k<n
  ·have hki:(k:Int)<(n:Int):=by omega
   obtain ⟨b,off,hp⟩:=SlS.at HV.out (HN.out ()) (by omega)
   subst hp
   obtain ⟨x,hx⟩:∃x,x=xs.getD k noStr:=⟨_,rfl⟩
   have HC:Hid (wr.cell? ⟨b,off+k,none⟩=some (.string x)):=by
    rw [hx]
    exact SlS.cells (HN.out ()) (SlV.below HV.out HB.out) k hlt
   have hmem:x∈xs:=by
    rw [hx,List.getD_eq_getElem?_getD,List.getElem?_eq_getElem (by rw [HN.out ()];exact hlt)]
    exact List.getElem_mem _
   have HXZ:Hid (x.size≤maxLen):=HZ.out x hmem
   have HX:Hid (∀_:Unit,x=xs.getD k noStr∧x∈xs):=fun _=>⟨hx,hmem⟩
   obtain ⟨r,hr⟩:∃r,seg (bs x)=r:=⟨_,rfl⟩
   have HR:Hid (∀_:Unit,seg (bs x)=r):=fun _=>hr
   clear hx hmem hr
   cases r with
   | true =>
    go_wp2_with (first
     | ((with_reducible refine ab (some 13) (.load 9 (.tmp 12)) ?_);go_must (refine aa (.string x) rfl (ar (.string x) (HC.out) rfl aj) ?_))
     | (go_at_call 72;refine (d5 x _ HXZ.out).mono ?_;rintro e w' ⟨he,hw⟩;rw [HR.out ()] at he;subst he;subst hw))
    go_roundw
    case rel=>exact ⟨k+1,by omega,by go_num,fo (by rw [HN.out ()];exact hlt) HA.out (by rw [←(HX.out ()).1];exact HR.out ()),HB.out⟩
    case measure=>simp [intOf];omega
   | false =>
    go_wp2_with (first
     | ((with_reducible refine ab (some 13) (.load 9 (.tmp 12)) ?_);go_must (refine aa (.string x) rfl (ar (.string x) (HC.out) rfl aj) ?_))
     | (go_at_call 72;refine (d5 x _ HXZ.out).mono ?_;rintro e w' ⟨he,hw⟩;rw [HR.out ()] at he;subst he;subst hw))
    go_ret
    refine ⟨?_,HB.out⟩
    rw [plOf,ec (HX.out ()).2 (HR.out ())]
    rfl
  ·have hkn:n=k:=by omega
   subst hkn
   have hki:¬(n:Int)<(n:Int):=by omega
   by_cases h3:n≤3
   ·have h3i:¬(3:Int)<(n:Int):=by omega
    have hok:okSegs (xs.map bs)=true:=dI (by rw [HN.out ()];exact h3) (by rw [HN.out ()];exact HA.out)
    have HPL:Hid (∀_:Unit,plOf xs=xs):=fun _=>by rw [plOf,hok];rfl
    have HSZ:Hid (∀x∈xs,x.size≤200):=fun x hx=>by have:=((PlOk.of hok).size hx).2;omega
    clear hok
    have hm:=Mem.start wr
    go_wp2_with (first
     | (go_at_call 76;refine (joinedR_go 47 xs n cap p _ (HN.out ()) (SlV.below HV.out HB.out) (by omega) HSZ.out).mono ?_;rintro e w' ⟨he,hb⟩;subst he;replace hm:=hm.call hb;clear hb))
    go_ret
    refine ⟨?_,aD HB.out HB.out.size hm.below⟩
    rw [HPL.out ()]
    rfl
   ·have h3i:(3:Int)<(n:Int):=by omega
    go_wp2_with fail
    go_ret
    refine ⟨?_,HB.out⟩
    rw [plOf,dd (by rw [HN.out ()];omega)]
    rfl
theorem sls_take {w:World} {b off n cap:Nat} {xs:List ByteArray} (hn:xs.length=n) (h:SlS w (.slice (some ⟨b,off,none⟩) n cap) xs) (m:Nat) (hm:m≤n):SlS w (.slice (some ⟨b,off,none⟩) m cap) (xs.take m):=by
 subst hn
 obtain ⟨q,c,hv,hc,_,hs⟩:=h
 simp only [Value.slice.injEq] at hv
 obtain ⟨rfl,_,rfl⟩:=hv
 have hl:(xs.take m).length=m:=by rw [List.length_take,Nat.min_eq_left hm]
 refine ⟨some ⟨b,off,none⟩,cap,by rw [hl],by rw [hl];omega,by simp [strs],fun h0=>?_⟩
 rw [hl] at h0
 obtain ⟨b',off',hp,hseg⟩:=hs (by omega)
 simp only [Option.some.injEq,Addr.mk.injEq] at hp
 obtain ⟨rfl,rfl,_⟩:=hp
 refine ⟨b,off,rfl,fun j u hu=>hseg j u ?_⟩
 unfold strs at hu ⊢
 rw [List.map_take,List.getElem?_take] at hu
 split at hu
 ·exact hu
 ·cases hu
theorem bH (s:ByteArray) (w:World) (hs:s.size≤1000) :
  Calls Tryz.prog 39 #[.string s] w fun e w'=>e=.returned (.tuple #[.string (mkS (parOf (bs s))),.bool (parOk (bs s))])∧Below w.heap.size w w':=by
 have hm:=Mem.start w
 obtain ⟨ks,hks⟩:∃ks,ks=segsB s:=⟨_,rfl⟩
 obtain ⟨n,hn⟩:∃n,n=ks.length:=⟨_,rfl⟩
 have HN:Hid (∀_:Unit,ks.length=n):=fun _=>hn.symm
 have HK:Hid (∀_:Unit,PlOk ks):=fun _=>by rw [hks];exact aR s
 have HKS:Hid (∀_:Unit,segsOf (bs s)=ks.map bs):=fun _=>by rw [hks,bm]
 have hn3:n≤3:=by rw [hn];exact (HK.out ()).len
 have HSP:Hid (∀W,Calls Tryz.prog 55 #[.string s] W fun e w'=>∃v,e=.returned v∧SlS w' v ks∧Below W.heap.size W w'):=fun W=>by rw [hks];exact cA s W hs
 clear hks hn hs
 by_cases h0:n=0
 ·have HP1:Hid (∀_:Unit,parOk (bs s)=false∧parOf (bs s)=[]):=fun _=>cI (by rw [HKS.out (),List.length_eq_zero_iff.1 ((HN.out ()).trans h0)];rfl)
  have h0i:((n:Int)==0)=true:=by rw [beq_iff_eq];omega
  go_enter Tryz.func39,Tryz.ntmps39
  go_wp2_with (first
   | (go_at_call 55;refine (HSP.out _).mono ?_;rintro e w9 ⟨v,he,ho,hb⟩;subst he;obtain ⟨p,cap,hv,hcap⟩:=SlV.len ho;subst hv;have HO:Hid (SlS w9 (.slice p n cap) ks):=by {have h9:=ho;rw [HN.out ()] at h9;exact h9};rw [HN.out ()];rw [HN.out ()] at hcap;clear ho;replace hm:=hm.call hb;clear hb))
  go_ret2
  exact ⟨by rw [(HP1.out ()).1,(HP1.out ()).2];rfl,hm.below⟩
 ·have hne:ks≠[]:=fun h=>h0 (by rw [←HN.out (),h];rfl)
  have hip:isP (bs s)=true:=by
   cases hi:isP (bs s) with
   | true=>rfl
   | false =>
    have:=HKS.out ()
    rw [dm hi] at this
    exact absurd (List.map_eq_nil_iff.1 this.symm) hne
  obtain ⟨m,hm1⟩:∃m,n=m+1:=⟨n - 1,by omega⟩
  have HP1:Hid (∀_:Unit,parOk (bs s)=true∧parOf (bs s)=jn 47 ((ks.take m).map bs)):=fun _=>by
   have:=cm hip (by rw [HKS.out ()];simpa using hne)
   rw [HKS.out (),←List.map_dropLast,List.dropLast_eq_take,HN.out (),hm1,Nat.add_sub_cancel] at this
   exact this
  have HPL:Hid (∀_:Unit,plOf (ks.take m)=ks.take m):=fun _=>by rw [plOf,(ch (HK.out ()) m).to];rfl
  have HTK:Hid (∀x∈ks.take m,x.size≤maxLen):=fun x hx=>by have:=((HK.out ()).size (List.mem_of_mem_take hx)).2;unfold maxLen;omega
  have HTL:Hid (∀_:Unit,(ks.take m).length=m):=fun _=>by rw [List.length_take,HN.out ()];omega
  have h0i:((n:Int)==0)=false:=by rw [beq_eq_false_iff_ne];omega
  have hwr:IntKind.i64.wrap ((n:Int) - 1)=(m:Int):=(bO _ (by omega) (by omega)).trans (by omega)
  have hmn:m≤n:=by omega
  clear hne hip hm1
  go_enter Tryz.func39,Tryz.ntmps39
  go_wp2_with (first
   | (go_at_call 55;refine (HSP.out _).mono ?_;rintro e w9 ⟨v,he,ho,hb⟩;subst he;obtain ⟨p,cap,hv,hcap⟩:=SlV.len ho;subst hv;have HO:Hid (SlS w9 (.slice p n cap) ks):=by {have h9:=ho;rw [HN.out ()] at h9;exact h9};rw [HN.out ()];rw [HN.out ()] at hcap;clear ho;replace hm:=hm.call hb;clear hb)
   | ((with_reducible refine ab (some 14) (.slice 37 (.tmp 10) none (some (.tmp 13)) none) ?_);obtain ⟨b,off,hp9⟩:=SlS.at HO.out (HN.out ()) (by omega);subst hp9;go_must (refine aa (.slice (some ⟨b,off,none⟩) m cap) rfl (exec_hiB m (by omega) rfl rfl rfl) ?_))
   | (go_at_call 61;refine (joinR_go (ks.take m) m cap _ _ (HTL.out ()) (sls_take (HN.out ()) HO.out m hmn) (by omega) HTK.out).mono ?_;rintro e w' ⟨he,hb⟩;rw [HPL.out ()] at he;subst he;replace hm:=hm.call hb;clear hb))
  go_ret2
  exact ⟨by rw [(HP1.out ()).1,(HP1.out ()).2,List.map_take];rfl,hm.below⟩
open Go Go.RowKit
theorem codeR_any (s:ByteArray) (w:World) (hs:s.size≤1000) :
  Calls Tryz.prog 42 #[.string s] w fun e w'=>e=.returned (.string (mkS (codeOf (segsOf (bs s)))))∧Below w.heap.size w w':=by
 have hm:=Mem.start w
 obtain ⟨ks,hks⟩:∃ks,ks=segsB s:=⟨_,rfl⟩
 have HK:Hid (∀_:Unit,PlOk ks):=fun _=>by rw [hks];exact aR s
 have HR:Hid (∀_:Unit,codeOf (segsOf (bs s))=codeOf (ks.map bs)):=fun _=>by rw [hks,bm]
 obtain ⟨n,hn⟩:∃n,n=ks.length:=⟨_,rfl⟩
 have HN:Hid (∀_:Unit,ks.length=n):=fun _=>hn.symm
 have HNn:Hid (∀_:Unit,ks.length=n):=fun _=>hn.symm
 have hn3:n≤3:=by rw [hn];exact (HK.out ()).len
 have HSP:Hid (∀W,Calls Tryz.prog 55 #[.string s] W fun e w'=>∃v,e=.returned v∧SlS w' v ks∧Below W.heap.size W w'):=fun W=>by rw [hks];exact cA s W hs
 have tkHSP:Nat:=0
 clear hks hn hs
 go_enter Tryz.func42,Tryz.ntmps42
 go_wp2_with (first
  | (go_at_call 55;clear tkHSP;refine (HSP.out _).mono ?_;rintro e w9 ⟨v,he,ho,hb⟩;subst he;obtain ⟨p,cap,hv,hcap⟩:=SlV.len ho;subst hv;have HO:Hid (SlS w9 (.slice p n cap) ks):=by {have h9:=ho;rw [HNn.out ()] at h9;exact h9};rw [HNn.out ()];clear ho hcap;replace hm:=hm.call hb;clear hb))
 go_loopw [5,4] (fun vi vc wr=>∃k:Nat,k≤n∧vi=.int .i64 (k:Int)∧vc=.string (mkS (cdk ks k))∧Hid (Below w9.heap.size w9 wr)) (fun vi _ _=>n - (intOf vi).toNat)
 case atStart=>exact ⟨0,by omega,rfl,rfl,Below.refl _ _⟩
 case round =>
  obtain ⟨k,hk,rfl,rfl,HB⟩:=hrel
  by_cases hlt:k<n
  ·have hki:(k:Int)<(n:Int):=by omega
   obtain ⟨b,off,hp⟩:=SlS.at HO.out (HN.out ()) (by omega)
   subst hp
   obtain ⟨x,hx⟩:∃x,x=ks.getD k noStr:=⟨_,rfl⟩
   have HC:Hid (wr.cell? ⟨b,off+k,none⟩=some (.string x)):=by
    rw [hx]
    exact SlS.cells (HN.out ()) (SlV.below HO.out HB.out) k hlt
   have hmem:x∈ks:=by
    rw [hx,List.getD_eq_getElem?_getD,List.getElem?_eq_getElem (by rw [HN.out ()];exact hlt)]
    exact List.getElem_mem _
   have hxz:=((HK.out ()).size hmem).2
   obtain ⟨c1,hc1⟩:∃c,c=mkS (cdk ks k):=⟨_,rfl⟩
   obtain ⟨c2,hc2⟩:∃c,c=c1++x:=⟨_,rfl⟩
   obtain ⟨c3,hc3⟩:∃c,c=c2++mkS [0]:=⟨_,rfl⟩
   have hz1:c1.size≤40:=by rw [hc1,bx];exact fi (HK.out ()) k
   have HZ1:Hid (∀_:Unit,c1.size+x.size≤1000000000):=fun _=>by omega
   have HZ2:Hid (∀_:Unit,c2.size+(mkS [0]).size≤1000000000):=fun _=>by rw [hc2,ByteArray.size_append,bx];simp;omega
   have HC2:Hid (∀_:Unit,c2=c1++x):=fun _=>hc2
   have HC3:Hid (∀_:Unit,c3=c2++mkS [0]):=fun _=>hc3
   have HE:Hid (∀_:Unit,c3=mkS (cdk ks (k+1))):=fun _=>by
    have e1:mkS (bs x)=x:=cp x
    rw [hc3,hc2,hc1,code_next (by rw [HN.out ()];exact hlt),←hx,←List.append_assoc,←bF,←bF,e1]
   rw [←hc1]
   clear hc1 hc2 hc3 hx hmem hxz hz1
   go_wp2_with (first
    | ((with_reducible refine ab (some 18) (.load 9 (.tmp 17)) ?_);go_must (refine aa (.string x) rfl (ar (.string x) (HC.out) rfl aj) ?_))
    | ((with_reducible refine ab (some 19) (.binOp .add 9 (.tmp 14) (.tmp 18) 9) ?_);go_must (refine aa (.string c2) rfl (bP c1 x c2 (HC2.out ()) rfl rfl (HZ1.out ())) ?_))
    | ((with_reducible refine ab (some 20) (.binOp .add 9 (.tmp 19) (.const (.string {data:=#[0]})) 9) ?_);go_must (refine aa (.string c3) rfl (bP c2 (mkS [0]) c3 (HC3.out ()) rfl rfl (HZ2.out ())) ?_)))
   go_roundw
   case rel=>exact ⟨k+1,by omega,by go_num,by rw [HE.out ()],HB.out⟩
   case measure=>simp [intOf];omega
  ·have hki:¬(k:Int)<(n:Int):=by omega
   have HE:Hid (∀_:Unit,cdk ks k=codeOf (ks.map bs)):=fun _=>by rw [cdk,List.take_of_length_le (by rw [HN.out ()];omega)]
   go_wp2_with fail
   go_ret
   refine ⟨?_,(hm.call HB.out).below⟩
   rw [HR.out (),HE.out ()]
   rfl
theorem take_next_eq {α:Type} {l m:List α} {k:Nat} (d:α) (h:l.take k=m.take k) (hl:k<l.length) (hm:k<m.length) (he:l.getD k d=m.getD k d):l.take (k+1)=m.take (k+1):=by
 have e1:l[k]?=some (l.getD k d):=by simp [hl]
 have e2:m[k]?=some (m.getD k d):=by simp [hm]
 rw [List.take_add_one,List.take_add_one,h,e1,e2,he]
theorem pre_next {ka kb:List ByteArray} {k:Nat} (h:kb.take k=ka.take k) (ha:k<ka.length) (hb:k<kb.length) (he:ka.getD k noStr=kb.getD k noStr):kb.take (k+1)=ka.take (k+1):=take_next_eq noStr h hb ha he.symm
theorem pre_no1 {ka kb:List ByteArray} (h:ka.length<kb.length):(kb.map bs).isPrefixOf (ka.map bs)=false:=by
 cases hp:(kb.map bs).isPrefixOf (ka.map bs) with
 | false=>rfl
 | true =>
  have:=(List.isPrefixOf_iff_prefix.1 hp).length_le
  simp at this
  omega
theorem pre_no2 {ka kb:List ByteArray} {k:Nat} (ha:k<ka.length) (hb:k<kb.length) (he:ka.getD k noStr≠kb.getD k noStr):(kb.map bs).isPrefixOf (ka.map bs)=false:=by
 cases hp:(kb.map bs).isPrefixOf (ka.map bs) with
 | false=>rfl
 | true =>
  obtain ⟨t,ht⟩:=List.isPrefixOf_iff_prefix.1 hp
  have h1:(ka.map bs)[k]?=(kb.map bs)[k]?:=by rw [←ht,List.getElem?_append_left (by simpa using hb)]
  simp only [List.getElem?_map,List.getElem?_eq_getElem ha,List.getElem?_eq_getElem hb,Option.map_some,Option.some.injEq] at h1
  exact absurd (by simp only [List.getD_eq_getElem?_getD,List.getElem?_eq_getElem ha,List.getElem?_eq_getElem hb,Option.getD_some];exact bs_inj h1) he
theorem pre_yes {ka kb:List ByteArray} {n:Nat} (hn:kb.length=n) (h:kb.take n=ka.take n):(kb.map bs).isPrefixOf (ka.map bs)=true:=by
 rw [List.isPrefixOf_iff_prefix]
 rw [List.take_of_length_le (by omega)] at h
 rw [h,List.map_take]
 exact List.take_prefix _ _
theorem cx (a b:ByteArray) (w:World) (ha:a.size≤1000) (hb:b.size≤1000) :
  Calls Tryz.prog 32 #[.string a,.string b] w fun e w'=>e=.returned (.bool (undOf (bs a) (bs b)))∧Below w.heap.size w w':=by
 have hm:=Mem.start w
 obtain ⟨ka,hka⟩:∃ks,ks=segsB a:=⟨_,rfl⟩
 obtain ⟨kb,hkb⟩:∃ks,ks=segsB b:=⟨_,rfl⟩
 obtain ⟨ra,hra⟩:∃r,r=isP (bs a):=⟨_,rfl⟩
 obtain ⟨rb,hrb⟩:∃r,r=isP (bs b):=⟨_,rfl⟩
 obtain ⟨na,hna⟩:∃n,n=ka.length:=⟨_,rfl⟩
 obtain ⟨nb,hnb⟩:∃n,n=kb.length:=⟨_,rfl⟩
 have HNna:Hid (∀_:Unit,ka.length=na):=fun _=>hna.symm
 have HNnb:Hid (∀_:Unit,kb.length=nb):=fun _=>hnb.symm
 have hn3:nb≤3:=by rw [hnb,hkb];exact (aR b).len
 have HU:Hid (∀_:Unit,undOf (bs a) (bs b)=(ra&&(rb&&(kb.map bs).isPrefixOf (ka.map bs)))):=fun _=>by rw [undOf,hra,hrb,hka,hkb,bm,bm]
 have HIA:Hid (∀W,Calls Tryz.prog 54 #[.string a] W fun e w'=>e=.returned (.bool ra)∧Below W.heap.size W w'):=fun W=>by rw [hra];exact eG a W ha
 have HIB:Hid (∀W,Calls Tryz.prog 54 #[.string b] W fun e w'=>e=.returned (.bool rb)∧Below W.heap.size W w'):=fun W=>by rw [hrb];exact eG b W hb
 have HSA:Hid (∀W,Calls Tryz.prog 55 #[.string a] W fun e w'=>∃v,e=.returned v∧SlS w' v ka∧Below W.heap.size W w'):=fun W=>by rw [hka];exact cA a W ha
 have HSB:Hid (∀W,Calls Tryz.prog 55 #[.string b] W fun e w'=>∃v,e=.returned v∧SlS w' v kb∧Below W.heap.size W w'):=fun W=>by rw [hkb];exact cA b W hb
 clear hka hkb hra hrb hna hnb ha hb
 have tkI1:Nat:=0
 have tkHSA:Nat:=0
 have tkHSB:Nat:=0
 cases ra with
 | false =>
  go_enter Tryz.func32,Tryz.ntmps32
  go_wp2_with (first
   | (go_at_call 54;clear tkI1;refine (HIA.out _).mono ?_;rintro e w' ⟨he,hb⟩;subst he;replace hm:=hm.call hb;clear hb)
   | (go_at_call 54;refine (HIB.out _).mono ?_;rintro e w' ⟨he,hb⟩;subst he;replace hm:=hm.call hb;clear hb))
  go_ret
  exact ⟨by rw [HU.out ()];rfl,hm.below⟩
 | true =>
  cases rb with
  | false =>
   go_enter Tryz.func32,Tryz.ntmps32
   go_wp2_with (first
    | (go_at_call 54;clear tkI1;refine (HIA.out _).mono ?_;rintro e w' ⟨he,hb⟩;subst he;replace hm:=hm.call hb;clear hb)
    | (go_at_call 54;refine (HIB.out _).mono ?_;rintro e w' ⟨he,hb⟩;subst he;replace hm:=hm.call hb;clear hb))
   go_ret
   exact ⟨by rw [HU.out ()];rfl,hm.below⟩
  | true =>
   go_enter Tryz.func32,Tryz.ntmps32
   go_wp2_with (first
    | (go_at_call 54;clear tkI1;refine (HIA.out _).mono ?_;rintro e w' ⟨he,hb⟩;subst he;replace hm:=hm.call hb;clear hb)
    | (go_at_call 54;refine (HIB.out _).mono ?_;rintro e w' ⟨he,hb⟩;subst he;replace hm:=hm.call hb;clear hb)
    | (go_at_call 55;clear tkHSA;refine (HSA.out _).mono ?_;rintro e w8 ⟨v,he,ho,hb⟩;subst he;obtain ⟨pa,ca,hv,hcap⟩:=SlV.len ho;subst hv;have HOA:Hid (SlS w8 (.slice pa na ca) ka):=by {have h9:=ho;rw [HNna.out ()] at h9;exact h9};rw [HNna.out ()];clear ho hcap;replace hm:=hm.call hb;clear hb)
    | (go_at_call 55;clear tkHSB;refine (HSB.out _).mono ?_;rintro e w9 ⟨v,he,ho,hb⟩;subst he;obtain ⟨pb,cb,hv,hcap⟩:=SlV.len ho;subst hv;have HOB:Hid (SlS w9 (.slice pb nb cb) kb):=by {have h9:=ho;rw [HNnb.out ()] at h9;exact h9};rw [HNnb.out ()];clear ho hcap;have HOA9:Hid (SlS w9 (.slice pa na ca) ka):=SlV.below HOA.out hb;replace hm:=hm.call hb;clear hb))
   go_loopw [7] (fun vi wr=>∃k:Nat,k≤nb∧k≤na∧vi=.int .i64 (k:Int)∧Hid (kb.take k=ka.take k)∧Hid (Below w9.heap.size w9 wr)) (fun vi _=>nb - (intOf vi).toNat)
   case atStart=>exact ⟨0,by omega,by omega,rfl,rfl,Below.refl _ _⟩
   case round =>
    obtain ⟨k,hk,hka,rfl,HT,HB⟩:=hrel
    by_cases hlt:k<nb
    ·have hki:(k:Int)<(nb:Int):=by omega
     have hmr:=Mem.start wr
     by_cases hla:k<na
     ·have hlai:¬(na:Int)≤(k:Int):=by omega
      have hlaj:(k:Int)<(na:Int):=by omega
      obtain ⟨b1,off,hp⟩:=SlS.at HOA9.out (HNna.out ()) (by omega)
      subst hp
      obtain ⟨b2,off2,hq⟩:=SlS.at HOB.out (HNnb.out ()) (by omega)
      subst hq
      obtain ⟨x,hx⟩:∃x,x=ka.getD k noStr:=⟨_,rfl⟩
      obtain ⟨y,hy⟩:∃x,x=kb.getD k noStr:=⟨_,rfl⟩
      have HC1:Hid (∀W,Below wr.heap.size wr W→W.cell? ⟨b1,off+k,none⟩=some (.string x)):=by
       intro W hW
       rw [hx]
       exact SlS.cells (HNna.out ()) (SlV.below HOA9.out (aD HB.out HB.out.size hW)) k hla
      have HC2:Hid (∀W,Below wr.heap.size wr W→W.cell? ⟨b2,off2+k,none⟩=some (.string y)):=by
       intro W hW
       rw [hy]
       exact SlS.cells (HNnb.out ()) (SlV.below HOB.out (aD HB.out HB.out.size hW)) k hlt
      by_cases he:x=y
      ·have HT2:Hid (kb.take (k+1)=ka.take (k+1)):=pre_next HT.out (by rw [HNna.out ()];exact hla) (by rw [HNnb.out ()];exact hlt) (by rw [←hx,←hy];exact he)
       have HEQ:Hid (∀_:Unit,(x==y)=true):=fun _=>by rw [he];exact ci _
       clear hx hy he
       go_wp2_with fail
       refine am ?_
       refine ag (T:=fun W=>Mem wr [] W []) (by kernel_rfl) hmr ?_
       intro wc hbw hmw
       have hm2:Mem wr [] wc []:=hmw
       clear hbw hmw
       refine aT 0 (v:=.int .i64 (k:Int)) rfl (by kernel_rfl) rfl (fun W _=>by go_simp) hm2 ?_
       go_simp
       refine aT 1 (v:=.slice (some ⟨b1,off,none⟩) na ca) rfl (by kernel_rfl) rfl (fun W _=>by go_simp) hm2 ?_
       go_simp
       refine aT 2 (v:=.int .i64 (na:Int)) rfl (by kernel_rfl) rfl (fun W _=>by go_simp) hm2 ?_
       go_simp
       refine aT 3 (v:=.bool false) rfl (by kernel_rfl) rfl (fun W _=>by go_simp) hm2 ?_
       go_simp
       refine aT 4 (v:=.bool false) rfl (by kernel_rfl) rfl (fun W _=>by go_simp) hm2 ?_
       go_simp
       refine aG 5 (v:=.slice (some ⟨b1,off,none⟩) na ca) rfl (by kernel_rfl) rfl (fun W _=>by go_simp) hm2 ?_
       go_simp
       refine aG 6 (v:=.int .i64 (k:Int)) rfl (by kernel_rfl) rfl (fun W _=>by go_simp) hm2 ?_
       go_simp
       refine aG 7 (v:=.pointer (some ⟨b1,off+k,none⟩)) rfl (by kernel_rfl) rfl (fun W _=>by go_simp) hm2 ?_
       go_simp
       refine aG 8 (v:=.string x) rfl (by kernel_rfl) rfl (fun W hW=>ar (.string x) (HC1.out W hW.below) rfl aj) hm2 ?_
       go_simp
       refine aG 9 (v:=.slice (some ⟨b2,off2,none⟩) nb cb) rfl (by kernel_rfl) rfl (fun W _=>by go_simp) hm2 ?_
       go_simp
       refine aG 10 (v:=.int .i64 (k:Int)) rfl (by kernel_rfl) rfl (fun W _=>by go_simp) hm2 ?_
       go_simp
       refine aG 11 (v:=.pointer (some ⟨b2,off2+k,none⟩)) rfl (by kernel_rfl) rfl (fun W _=>by go_simp) hm2 ?_
       go_simp
       refine aG 12 (v:=.string y) rfl (by kernel_rfl) rfl (fun W hW=>ar (.string y) (HC2.out W hW.below) rfl aj) hm2 ?_
       go_simp
       refine aG 13 (v:=.bool false) rfl (by kernel_rfl) rfl (fun W _=>exec_neB x y true (HEQ.out ()) rfl rfl) hm2 ?_
       go_simp
       refine aT 14 (v:=.bool false) rfl (by kernel_rfl) rfl (fun W _=>by go_simp) hm2 ?_
       go_simp
       refine wpAnyH_done (by kernel_rfl) ?_ _
       simp only [endsIn]
       have HB2:Hid (Below w9.heap.size w9 wc):=aD HB.out HB.out.size hm2.below
       go_wp2_with fail
       go_roundw
       case rel=>exact ⟨k+1,by omega,by omega,by go_num,HT2.out,HB2.out⟩
       case measure=>simp [intOf];omega
      ·have HNO:Hid (∀_:Unit,(kb.map bs).isPrefixOf (ka.map bs)=false):=fun _=>pre_no2 (k:=k) (by rw [HNna.out ()];exact hla) (by rw [HNnb.out ()];exact hlt) (by rw [←hx,←hy];exact he)
       have HEQ:Hid (∀_:Unit,(x==y)=false):=fun _=>cv he
       clear hx hy he
       go_wp2_with fail
       refine am ?_
       refine ag (T:=fun W=>Mem wr [] W []) (by kernel_rfl) hmr ?_
       intro wc hbw hmw
       have hm2:Mem wr [] wc []:=hmw
       clear hbw hmw
       refine aT 0 (v:=.int .i64 (k:Int)) rfl (by kernel_rfl) rfl (fun W _=>by go_simp) hm2 ?_
       go_simp
       refine aT 1 (v:=.slice (some ⟨b1,off,none⟩) na ca) rfl (by kernel_rfl) rfl (fun W _=>by go_simp) hm2 ?_
       go_simp
       refine aT 2 (v:=.int .i64 (na:Int)) rfl (by kernel_rfl) rfl (fun W _=>by go_simp) hm2 ?_
       go_simp
       refine aT 3 (v:=.bool false) rfl (by kernel_rfl) rfl (fun W _=>by go_simp) hm2 ?_
       go_simp
       refine aT 4 (v:=.bool false) rfl (by kernel_rfl) rfl (fun W _=>by go_simp) hm2 ?_
       go_simp
       refine aG 5 (v:=.slice (some ⟨b1,off,none⟩) na ca) rfl (by kernel_rfl) rfl (fun W _=>by go_simp) hm2 ?_
       go_simp
       refine aG 6 (v:=.int .i64 (k:Int)) rfl (by kernel_rfl) rfl (fun W _=>by go_simp) hm2 ?_
       go_simp
       refine aG 7 (v:=.pointer (some ⟨b1,off+k,none⟩)) rfl (by kernel_rfl) rfl (fun W _=>by go_simp) hm2 ?_
       go_simp
       refine aG 8 (v:=.string x) rfl (by kernel_rfl) rfl (fun W hW=>ar (.string x) (HC1.out W hW.below) rfl aj) hm2 ?_
       go_simp
       refine aG 9 (v:=.slice (some ⟨b2,off2,none⟩) nb cb) rfl (by kernel_rfl) rfl (fun W _=>by go_simp) hm2 ?_
       go_simp
       refine aG 10 (v:=.int .i64 (k:Int)) rfl (by kernel_rfl) rfl (fun W _=>by go_simp) hm2 ?_
       go_simp
       refine aG 11 (v:=.pointer (some ⟨b2,off2+k,none⟩)) rfl (by kernel_rfl) rfl (fun W _=>by go_simp) hm2 ?_
       go_simp
       refine aG 12 (v:=.string y) rfl (by kernel_rfl) rfl (fun W hW=>ar (.string y) (HC2.out W hW.below) rfl aj) hm2 ?_
       go_simp
       refine aG 13 (v:=.bool true) rfl (by kernel_rfl) rfl (fun W _=>exec_neB x y false (HEQ.out ()) rfl rfl) hm2 ?_
       go_simp
       refine aT 14 (v:=.bool true) rfl (by kernel_rfl) rfl (fun W _=>by go_simp) hm2 ?_
       go_simp
       refine wpAnyH_done (by kernel_rfl) ?_ _
       simp only [endsIn]
       have HB2:Hid (Below w9.heap.size w9 wc):=aD HB.out HB.out.size hm2.below
       go_wp2_with fail
       go_ret
       exact ⟨by rw [HU.out (),HNO.out ()];rfl,(hm.call HB2.out).below⟩
     ·have hlai:(na:Int)≤(k:Int):=by omega
      have HNO:Hid (∀_:Unit,(kb.map bs).isPrefixOf (ka.map bs)=false):=fun _=>pre_no1 (by rw [HNna.out (),HNnb.out ()];omega)
      go_wp2_with fail
      refine am ?_
      refine ag (T:=fun W=>Mem wr [] W []) (by kernel_rfl) hmr ?_
      intro wc hbw hmw
      have hm2:Mem wr [] wc []:=hmw
      clear hbw hmw
      refine aT 0 (v:=.int .i64 (k:Int)) rfl (by kernel_rfl) rfl (fun W _=>by go_simp) hm2 ?_
      go_simp
      refine aT 1 (v:=.slice pa na ca) rfl (by kernel_rfl) rfl (fun W _=>by go_simp) hm2 ?_
      go_simp
      refine aT 2 (v:=.int .i64 (na:Int)) rfl (by kernel_rfl) rfl (fun W _=>by go_simp) hm2 ?_
      go_simp
      refine aT 3 (v:=.bool true) rfl (by kernel_rfl) rfl (fun W _=>by go_simp) hm2 ?_
      go_simp
      refine aT 4 (v:=.bool true) rfl (by kernel_rfl) rfl (fun W _=>by go_simp) hm2 ?_
      go_simp
      refine aJ 5 rfl (by kernel_rfl) (by kernel_rfl) (by kernel_rfl) rfl hm2 ?_
      go_simp
      refine aJ 6 rfl (by kernel_rfl) (by kernel_rfl) (by kernel_rfl) rfl hm2 ?_
      go_simp
      refine aJ 7 rfl (by kernel_rfl) (by kernel_rfl) (by kernel_rfl) rfl hm2 ?_
      go_simp
      refine aJ 8 rfl (by kernel_rfl) (by kernel_rfl) (by kernel_rfl) rfl hm2 ?_
      go_simp
      refine aJ 9 rfl (by kernel_rfl) (by kernel_rfl) (by kernel_rfl) rfl hm2 ?_
      go_simp
      refine aJ 10 rfl (by kernel_rfl) (by kernel_rfl) (by kernel_rfl) rfl hm2 ?_
      go_simp
      refine aJ 11 rfl (by kernel_rfl) (by kernel_rfl) (by kernel_rfl) rfl hm2 ?_
      go_simp
      refine aJ 12 rfl (by kernel_rfl) (by kernel_rfl) (by kernel_rfl) rfl hm2 ?_
      go_simp
      refine aJ 13 rfl (by kernel_rfl) (by kernel_rfl) (by kernel_rfl) rfl hm2 ?_
      go_simp
      refine aT 14 (v:=.bool true) rfl (by kernel_rfl) rfl (fun W _=>by go_simp) hm2 ?_
      go_simp
      refine wpAnyH_done (by kernel_rfl) ?_ _
      simp only [endsIn]
      have HB2:Hid (Below w9.heap.size w9 wc):=aD HB.out HB.out.size hm2.below
      go_wp2_with fail
      go_ret
      exact ⟨by rw [HU.out (),HNO.out ()];rfl,(hm.call HB2.out).below⟩
    ·have hkn:nb=k:=by omega
     subst hkn
     have hki:¬(nb:Int)<(nb:Int):=by omega
     have HYE:Hid (∀_:Unit,(kb.map bs).isPrefixOf (ka.map bs)=true):=fun _=>pre_yes (HNnb.out ()) HT.out
     go_wp2_with fail
     go_ret
     exact ⟨by rw [HU.out (),HYE.out ()];rfl,(hm.call HB.out).below⟩
open Go Go.RowKit
def tx (ks:List ByteArray):ByteArray:=mkS (jn 47 (ks.map bs))
def cd (ks:List ByteArray):List UInt8:=codeOf (ks.map bs)
def undB (a b:List ByteArray):Bool:=(b.map bs).isPrefixOf (a.map bs)
theorem bs_tx (ks:List ByteArray):bs (tx ks)=jn 47 (ks.map bs):=dJ _
theorem dH {ks:List ByteArray} (h:PlOk ks):isP (bs (tx ks))=true:=by rw [bs_tx];exact (em h.to).1
theorem cF {ks:List ByteArray} (h:PlOk ks):segsB (tx ks)=ks:=by
 unfold segsB
 rw [bs_tx,(em h.to).2,bo]
theorem tx_inj {a b:List ByteArray} (h:PlOk a) (h2:PlOk b) (e:tx a=tx b):a=b:=by rw [←cF h,e,cF h2]
theorem aX {ks:List ByteArray} (h:PlOk ks):(tx ks).size≤33:=by
 unfold tx
 rw [bx]
 have h1:=jn_len 47 (ks:=ks.map bs) (fun k hk=>by
  obtain ⟨x,hx,rfl⟩:=List.mem_map.1 hk
  rw [aV];exact (h.size hx).2)
 have:=h.len
 rw [List.length_map] at h1
 omega
theorem bE {s:ByteArray} (h:isP (bs s)=true):tx (segsB s)=s:=by
 unfold tx
 rw [bm,jn_segsOf h,cp]
theorem eK {ks:List ByteArray} (h:PlOk ks):codeOf (segsOf (bs (tx ks)))=cd ks:=by rw [bs_tx,(em h.to).2];rfl
theorem dg {a b:List ByteArray} (h:PlOk a) (h2:PlOk b):undOf (bs (tx a)) (bs (tx b))=undB a b:=by
 unfold undOf undB
 rw [dH h,dH h2,bs_tx,bs_tx,(em h.to).2,(em h2.to).2,Bool.true_and,Bool.true_and]
theorem map_bs_inj {a b:List ByteArray} (h:a.map bs=b.map bs):a=b:=by
 rw [←bo a,h,bo]
theorem no0 {ks:List ByteArray} (h:PlOk ks):∀k∈ks.map bs,0 ∉ k:=fun k hk=>seg_ne0 ((cR h.to).2 k hk)
theorem cd_inj {a b:List ByteArray} (h:PlOk a) (h2:PlOk b) (e:cd a=cd b):a=b:=map_bs_inj (codeOf_inj (no0 h) (no0 h2) e)
theorem aY {a b:List ByteArray}:undB a b=true↔b <+: a:=by
 unfold undB
 rw [List.isPrefixOf_iff_prefix]
 constructor
 ·rintro ⟨t,ht⟩
  refine ⟨t.map mkS,?_⟩
  have:=congrArg (List.map mkS) ht
  rw [List.map_append,bo,bo] at this
  exact this
 ·rintro ⟨t,rfl⟩
  exact ⟨t.map bs,by rw [List.map_append]⟩
def lastS (ks:List ByteArray):ByteArray:=ks.getLast?.getD noStr
def pvv (ks:List ByteArray):List Value:=[.string (tx ks.dropLast),.string (lastS ks)]
theorem lastS_nil:lastS []=noStr:=rfl
theorem lastS_ne {ks:List ByteArray} (h:PlOk ks) (h0:ks≠[]):lastS ks≠noStr:=by
 intro e
 unfold lastS at e
 rw [List.getLast?_eq_some_getLast h0] at e
 have h1:=(h.size (List.getLast_mem h0)).1
 rw [show ks.getLast h0=noStr from e] at h1
 exact absurd h1 (by decide)
theorem dS {ks:List ByteArray} (h0:ks≠[]):ks.dropLast++[lastS ks]=ks:=by
 unfold lastS
 rw [List.getLast?_eq_some_getLast h0]
 exact List.dropLast_concat_getLast h0
theorem pvv_inj {a b:List ByteArray} (h:PlOk a) (h2:PlOk b) (e:pvv a=pvv b):a=b:=by
 simp only [pvv,List.cons.injEq,Value.string.injEq,and_true] at e
 have e1:=tx_inj h.drop h2.drop e.1
 by_cases ha:a=[]
 ·by_cases hb:b=[]
  ·rw [ha,hb]
  ·exact absurd (by rw [←e.2,ha,lastS_nil]) (lastS_ne h2 hb)
 ·by_cases hb:b=[]
  ·exact absurd (by rw [e.2,hb,lastS_nil]) (lastS_ne h ha)
  ·rw [←dS ha,←dS hb,e1,e.2]
theorem pvv2 (ks:List ByteArray):(pvv ks).length=2:=rfl
theorem aI (ks:List ByteArray):∀v∈pvv ks,v.oneCell'=true:=by intro v hv;simp [pvv] at hv;rcases hv with rfl|rfl<;>rfl
theorem cB {ks qs:List ByteArray} (h:PlOk ks) (h2:PlOk qs) (he:Value.agg (pvv ks).toArray=.agg (pvv qs).toArray):ks=qs :=
 pvv_inj h h2 (by simpa using he)
theorem plOf_self {ks:List ByteArray} (h:PlOk ks):plOf ks=ks:=by unfold plOf;rw [if_pos h.to]
theorem plOf_empty:plOf [noStr]=[]:=by decide +kernel
theorem lt_le {a b c:List UInt8} (h:a<b) (h2:b≤c):a<c:=by
 by_cases h3:a<c
 ·exact h3
 ·exact absurd h (List.not_lt.2 (List.le_trans h2 (List.not_lt.1 h3)))
theorem le_ne {a b:List UInt8} (h:a≤b) (hn:a≠b):a<b:=by
 by_cases h3:a<b
 ·exact h3
 ·exact absurd (List.le_antisymm h (List.not_lt.1 h3)) hn
abbrev Sp:=List ByteArray×Int×Int×Int×Int×Int×Int
abbrev Nms:=List Sp
def spc (ks:List ByteArray) (b e:Int):List Value:=[.string (tx ks),.int .i64 b,.int .i64 e,.int .i64 0,.int .i64 0]
def spv (x:Sp):List Value:=[.string (tx x.1),.int .i64 x.2.1,.int .i64 x.2.2.1,.int .i64 x.2.2.2.1,.int .i64 x.2.2.2.2.1]
def spw (x:Sp):List Value:=spv x++[.int .i64 x.2.2.2.2.2.1,.int .i64 x.2.2.2.2.2.2]
theorem bl (ks:List ByteArray) (b e:Int):∀v∈spc ks b e,v.oneCell'=true:=by intro v hv;simp [spc] at hv;rcases hv with rfl|rfl|rfl|rfl<;>rfl
def NmK (p:Nms):Value→Value→Prop:=fun k v=>∃x,x∈p∧k=.agg (pvv x.1).toArray∧v=.agg (spw x).toArray
structure NmOk (p:Nms):Prop where
 ok:∀x∈p,PlOk x.1
 srt:p.Pairwise fun x y=>cd x.1<cd y.1
def hasN (p:Nms) (ks:List ByteArray):Bool:=p.any fun x=>decide (x.1=ks)
def getN (p:Nms) (ks:List ByteArray):Option Sp:=p.find? fun x=>decide (x.1=ks)
def kidsN (p:Nms) (s:ByteArray):List ByteArray:=(p.filter fun x=>decide (tx x.1.dropLast=s) && !decide (x.1=[])).map fun x=>lastS x.1
def undN (p:Nms) (ks:List ByteArray):Nms:=p.filter fun x=>undB x.1 ks
def addN (p:Nms) (x:Sp):Nms:=(p.filter fun y=>decide (cd y.1<cd x.1))++x::p.filter fun y => !decide (cd y.1<cd x.1)
def delN (p:Nms) (ks:List ByteArray):Nms:=p.filter fun x => !undB x.1 ks
def limOk (b e:Int):Bool:=decide (0≤b∧b≤1000000)&&decide (0≤e∧e≤1000000)
def addE (p:Nms) (s:ByteArray) (b e:Int):Int :=
 if isP (bs s)=false then 110 else if segsB s=[] then 110 else if limOk b e=false then 12 else if hasN p (segsB s)=true then 101 else
 if hasN p (segsB s).dropLast=false then 100 else if 2≤(kidsN p (tx (segsB s).dropLast)).length then 102 else 0
def remE (p:Nms) (s:ByteArray):Int :=
 if isP (bs s)=false then 110 else if segsB s=[] then 110 else if hasN p (segsB s)=false then 100 else 0
def heldI (x:Int):Int:=max 0 (min x 1000000)
def newN (b e:Int):Nms:=[([],heldI b,heldI e,0,0,0,0)]
theorem NmOk.new (b e:Int):NmOk (newN b e):=⟨fun x hx=>by rw [List.mem_singleton.1 hx];exact PlOk.nil,List.pairwise_singleton _ _⟩
theorem NmOk.sub {p q:Nms} (h:NmOk p) (hs:q.Sublist p):NmOk q:=⟨fun x hx=>h.ok x (hs.mem hx),h.srt.sublist hs⟩
theorem aE {p:Nms} {ks:List ByteArray}:hasN p ks=true↔∃x∈p,x.1=ks:=by
 unfold hasN
 rw [List.any_eq_true]
 exact ⟨fun ⟨x,hx,h⟩=>⟨x,hx,of_decide_eq_true h⟩,fun ⟨x,hx,h⟩=>⟨x,hx,decide_eq_true h⟩⟩
theorem NmOk.uniq {p:Nms} (h:NmOk p) {x y:Sp} (hx:x∈p) (hy:y∈p) (e:x.1=y.1):x=y:=by
 have hp:=h.srt
 clear h
 induction p with
 | nil=>cases hx
 | cons z p ih =>
  rw [List.pairwise_cons] at hp
  rcases List.mem_cons.1 hx with h1|h1
  ·rcases List.mem_cons.1 hy with h2|h2
   ·rw [h1,h2]
   ·have:=hp.1 y h2
    rw [←h1,e] at this
    exact absurd this (List.lt_irrefl _)
  ·rcases List.mem_cons.1 hy with h2|h2
   ·have:=hp.1 x h1
    rw [←h2,e] at this
    exact absurd this (List.lt_irrefl _)
   ·exact ih h1 h2 hp.2
theorem bp {p:Nms} {ks:List ByteArray} {x:Sp} (h:getN p ks=some x):x∈p∧x.1=ks :=
 ⟨List.mem_of_find?_eq_some h,of_decide_eq_true (List.find?_some (p:=fun x:Sp=>decide (x.1=ks)) h)⟩
theorem getN_none {p:Nms} {ks:List ByteArray} (h:getN p ks=none):hasN p ks=false:=by
 unfold hasN
 rw [List.any_eq_false]
 intro x hx
 exact (List.find?_eq_none.1 h) x hx
theorem getN_has {p:Nms} {ks:List ByteArray}:hasN p ks=(getN p ks).isSome:=by
 cases h:getN p ks with
 | none=>exact getN_none h
 | some x=>exact aE.2 ⟨x,(bp h).1,(bp h).2⟩
theorem NmOk.add {p:Nms} (h:NmOk p) {x:Sp} (hx:PlOk x.1) (hn:hasN p x.1=false):NmOk (addN p x):=by
 have hne:∀y∈p,cd y.1≠cd x.1:=fun y hy e=>by
  have:=aE.2 ⟨y,hy,cd_inj (h.ok y hy) hx e⟩
  rw [hn] at this;cases this
 unfold addN
 refine ⟨fun y hy=>?_,?_⟩
 ·rcases List.mem_append.1 hy with h1|h1
  ·exact h.ok y ((List.mem_filter.1 h1).1)
  ·rcases List.mem_cons.1 h1 with rfl|h1
   ·exact hx
   ·exact h.ok y ((List.mem_filter.1 h1).1)
 ·rw [List.pairwise_append,List.pairwise_cons]
  refine ⟨h.srt.sublist List.filter_sublist,⟨fun y hy=>?_,h.srt.sublist List.filter_sublist⟩,fun y hy z hz=>?_⟩
  ·obtain ⟨hy1,hy2⟩:=List.mem_filter.1 hy
   have h3:¬cd y.1<cd x.1:=by simpa using hy2
   exact le_ne (List.not_lt.1 h3) (fun e=>hne y hy1 e.symm)
  ·obtain ⟨hy1,hy2⟩:=List.mem_filter.1 hy
   have h3:cd y.1<cd x.1:=by simpa using hy2
   rcases List.mem_cons.1 hz with rfl|hz
   ·exact h3
   ·obtain ⟨hz1,hz2⟩:=List.mem_filter.1 hz
    have h4:¬cd z.1<cd x.1:=by simpa using hz2
    exact lt_le h3 (List.not_lt.1 h4)
theorem cD {p:Nms} {x y:Sp}:y∈addN p x↔y=x∨y∈p:=by
 unfold addN
 rw [List.mem_append,List.mem_cons,List.mem_filter,List.mem_filter]
 by_cases h:cd y.1<cd x.1
 ·simp [h]
  exact ⟨fun h=>h.elim Or.inr Or.inl,fun h=>h.elim Or.inr Or.inl⟩
 ·simp [h]
theorem NmOk.del {p:Nms} (h:NmOk p) (ks:List ByteArray):NmOk (delN p ks):=h.sub List.filter_sublist
theorem NmOk.und {p:Nms} (h:NmOk p) (ks:List ByteArray):NmOk (undN p ks):=h.sub List.filter_sublist
open Go Go.RowKit Go.Maps
theorem aH:Tryz.prog.underlying 63=some (.struct (Tryz.prog.fieldsOf 63)):=by kernel_rfl
theorem info_np:(Tryz.prog.info? 63).map (fun i=>(i.zero,i.size))=some (some (.agg (pvv []).toArray),2):=by kernel_rfl
theorem aL:∀w,(zeroValue 63).run Tryz.prog w=.ok (.agg (pvv []).toArray) w:=(zero_of_info info_np).1
theorem au:(Tryz.prog.info? 63).map (·.size)=some 2:=(zero_of_info info_np).2
theorem made_np:(Tryz.prog.info? 63).map (fun i=>(i.zero,i.size,i.bytes))=some (some (.agg (pvv []).toArray),2,32):=by kernel_rfl
theorem un_nps:Tryz.prog.underlying 87=some (.slice 63):=Tryz.underlying87
def spZ:List Value:=[.string noStr,.int .i64 0,.int .i64 0,.int .i64 0,.int .i64 0]
theorem bf:Tryz.prog.underlying 50=some (.struct (Tryz.prog.fieldsOf 50)):=by kernel_rfl
theorem info_sp:(Tryz.prog.info? 50).map (fun i=>(i.zero,i.size))=some (some (.agg spZ.toArray),5):=by kernel_rfl
theorem aS:∀w,(zeroValue 50).run Tryz.prog w=.ok (.agg spZ.toArray) w:=(zero_of_info info_sp).1
theorem ao:(Tryz.prog.info? 50).map (·.size)=some 5:=(zero_of_info info_sp).2
theorem dn:(Tryz.prog.info? 50).map (fun i=>(i.zero,i.size,i.bytes))=some (some (.agg spZ.toArray),5,48):=by kernel_rfl
def swZ:List Value:=spZ++[.int .i64 0,.int .i64 0]
theorem un_sw:Tryz.prog.underlying 66=some (.struct (Tryz.prog.fieldsOf 66)):=by kernel_rfl
theorem info_sw:(Tryz.prog.info? 66).map (fun i=>(i.zero,i.size))=some (some (.agg swZ.toArray),7):=by kernel_rfl
theorem bu:∀w,(zeroValue 66).run Tryz.prog w=.ok (.agg swZ.toArray) w:=(zero_of_info info_sw).1
theorem cy:(Tryz.prog.info? 66).map (·.size)=some 7:=(zero_of_info info_sw).2
theorem ay:Tryz.prog.underlying 46=some (.slice 50):=Tryz.underlying46
theorem cE:∀w,(isAgg 67).run Tryz.prog w=.ok false w:=by intro w;simp [go_sem]
theorem bW:Tryz.prog.underlying 67=some (.map 63 66):=Tryz.underlying67
theorem np_laid:laidOutB Tryz.prog=true:=by kernel_rfl
theorem np_row:(63:TypeId)<Tryz.prog.types.size:=of_decide_eq_true (by kernel_rfl)
theorem np_wide:(match Tryz.prog.underlying 63 with|some (.array _ _)|some (.struct _)=>true|_=>false)=true:=by kernel_rfl
theorem aQ:Keyed Tryz.prog 63:=Keyed.of_law (deep_law_laid np_laid (m:=2) (by omega) np_row (by kernel_rfl) np_wide)
theorem np_type:Tryz.prog.keyType 63=true:=by kernel_rfl
theorem np_cells:Tryz.prog.cellsOf 63=2:=by kernel_rfl
theorem np_strc:Tryz.prog.cellsOf 9=1:=by kernel_rfl
theorem np_some:∃n,Tryz.prog.types.size=n+1:=⟨Tryz.prog.types.size - 1,by have h:(63:Nat)<Tryz.prog.types.size:=np_row;omega⟩
theorem np_lit (n:Nat) (s:ByteArray) (h:s.size≤1000):∃ls,Tryz.prog.keyLits (n+1) 9 [.string s]=some ls:=by
 unfold Program.keyLits
 simp only [aF]
 exact ⟨_,if_pos (by simp [maxLen];omega)⟩
theorem lastS_size {ks:List ByteArray} (h:PlOk ks):(lastS ks).size≤10:=by
 unfold lastS
 by_cases h0:ks=[]
 ·subst h0;decide
 ·rw [List.getLast?_eq_some_getLast h0]
  exact (h.size (List.getLast_mem h0)).2
theorem dF {ks:List ByteArray} (h:PlOk ks):∃kl,keyOf Tryz.prog 63 (.agg (pvv ks).toArray)=some kl:=by
 obtain ⟨d,hd⟩:=np_some
 have hf:(Value.agg (pvv ks).toArray).formed Tryz.prog 63=true:=by
  simp [Value.formed,np_cells,pvv]
 obtain ⟨l0,h0⟩:=np_lit d (tx ks.dropLast) (by have:=aX h.drop;omega)
 obtain ⟨l1,h1⟩:=np_lit d (lastS ks) (by have:=lastS_size h;omega)
 have hk:∃ls,Tryz.prog.keyLits (Tryz.prog.types.size+1) 63 (pvv ks)=some ls:=by
  unfold Program.keyLits
  simp only [Tryz.underlying63]
  rw [if_pos ⟨by rw [np_cells];rfl,by kernel_rfl⟩]
  simp only [np_strc,hd,List.mapM_cons,List.mapM_nil,pvv,List.drop,List.take]
  rw [h0,h1]
  exact ⟨_,rfl⟩
 obtain ⟨ls,hls⟩:=hk
 unfold keyOf
 rw [Tryz.underlying63]
 simp only
 rw [if_pos (by rw [np_type,hf];rfl)]
 exact ⟨_,by rw [show (Value.agg (pvv ks).toArray).cells.toList=pvv ks from rfl,hls];rfl⟩
theorem eg_np:Tryz.prog.eqGuardType Tryz.prog.depth 63=false:=by kernel_rfl
theorem eg_sp:Tryz.prog.eqGuardType Tryz.prog.depth 50=false:=by kernel_rfl
theorem equal_two (k v k' v':ByteArray) (w:World):(Op.equalIn 10000 63 (.agg #[.string k,.string v]) (.agg #[.string k',.string v'])).run Tryz.prog w=.ok (k.toList==k'.toList&&v.toList==v'.toList) w:=by
 have u3:=Tryz.underlying9
 have a3:=Tryz.isAgg9
 have z3:=Tryz.sizeOf9
 have hS:Tryz.prog.underlying 63=some (.struct (Tryz.prog.fieldsOf 63)):=by kernel_rfl
 have hp:Tryz.prog.stoodInHeld 63=false:=by kernel_rfl
 rw [show (10000:Nat)=9999+1 from rfl,run_equalIn_agg w 9999 63 _ _ hS hp]
 simp only [Program.fieldsOf,Tryz.underlying63]
 go_simp
 by_cases h1:k.toList=k'.toList<;>by_cases h2:v.toList=v'.toList<;>simp [h1,h2]
theorem eq_np (w:World) {ks qs:List ByteArray} (h:PlOk ks) (h2:PlOk qs) (b:Bool) (hb:b=decide (ks=qs)):(Op.equalIn 10000 63 (.agg (pvv ks).toArray) (.agg (pvv qs).toArray)).run Tryz.prog w=.ok b w:=by
 have h3:=equal_two (tx ks.dropLast) (lastS ks) (tx qs.dropLast) (lastS qs) w
 refine h3.trans ?_
 congr 1
 rw [←beq_toListBytes,←beq_toListBytes,de,de,hb,Bool.eq_iff_iff,Bool.and_eq_true,decide_eq_true_iff,decide_eq_true_iff,decide_eq_true_iff]
 constructor
 ·rintro ⟨e1,e2⟩;exact pvv_inj h h2 (by unfold pvv;rw [e1,e2])
 ·rintro rfl;exact ⟨rfl,rfl⟩
theorem fm (s s':ByteArray) (a b c d a' b' c' d':Int) (w:World):(Op.equalIn 10000 50 (.agg #[.string s,.int .i64 a,.int .i64 b,.int .i64 c,.int .i64 d]) (.agg #[.string s',.int .i64 a',.int .i64 b',.int .i64 c',.int .i64 d'])).run Tryz.prog w=.ok (s.toList==s'.toList&&(a==a'&&(b==b'&&(c==c'&&d==d')))) w:=by
 have u3:=Tryz.underlying9
 have a3:=Tryz.isAgg9
 have z3:=Tryz.sizeOf9
 have u4:=Tryz.underlying3
 have a4:=Tryz.isAgg3
 have z4:=Tryz.sizeOf3
 have hS:Tryz.prog.underlying 50=some (.struct (Tryz.prog.fieldsOf 50)):=by kernel_rfl
 have hp:Tryz.prog.stoodInHeld 50=false:=by kernel_rfl
 rw [show (10000:Nat)=9999+1 from rfl,run_equalIn_agg w 9999 50 _ _ hS hp]
 simp only [Program.fieldsOf,Tryz.underlying50]
 go_simp
 by_cases h1:s.toList=s'.toList<;>by_cases h2:a=a'<;>by_cases h3:b=b'<;>by_cases h4:c=c'<;>by_cases h5:d=d'<;>simp [h1,h2,h3,h4,h5]
theorem eq_sp (w:World) (ks qs:List ByteArray) (x y x' y':Int) (r:Bool) (hr:r=(decide (tx ks=tx qs)&&(decide (x=x')&&decide (y=y')))):(Op.equalIn 10000 50 (.agg (spc ks x y).toArray) (.agg (spc qs x' y').toArray)).run Tryz.prog w=.ok r w:=by
 refine (fm (tx ks) (tx qs) x y 0 0 x' y' 0 0 w).trans ?_
 congr 1
 rw [←beq_toListBytes,de,hr,show ((0:Int)==0)=true from rfl,Bool.and_true,Bool.and_true]
 rfl
theorem eq_sp1 (w:World) (z:Sp):(Op.equalIn 10000 50 (.agg (spv z).toArray) (.agg (spv z).toArray)).run Tryz.prog w=.ok true w:=by
 refine (fm (tx z.1) (tx z.1) z.2.1 z.2.2.1 z.2.2.2.1 z.2.2.2.2.1 z.2.1 z.2.2.1 z.2.2.2.1 z.2.2.2.2.1 w).trans ?_
 congr 1
 simp
section
variable {a:Act} {w:World} {dst:Option Tmp} {typ:TypeId} {pos:String} {aft:Array Edge} {gd:Option (Nat×Bool)}
theorem exec_neN {x y:Operand} {rt:TypeId} {ks qs:List ByteArray} (h:PlOk ks) (h2:PlOk qs) (b:Bool) (hb:b=decide (ks=qs)) (hx:a.eval x=.agg (pvv ks).toArray) (hy:a.eval y=.agg (pvv qs).toArray) :
  (execOp a.eval {dst:=dst,op:=.binOp .neq 63 x y rt,type:=typ,pos:=pos,after:=aft,guard:=gd}).run Tryz.prog w=.ok (.value (.bool (!b))) w:=by
 unfold execOp
 simp only [hx,hy,Sem.run_bind,run_eqGuard_agg w .neq 63 x y _ _ eg_np,Sem.run_pure,Result.andThen_ok,run_neq_struct,eq_np w h h2 b hb]
theorem bN {x y:Operand} {rt:TypeId} {ks qs:List ByteArray} (h:PlOk ks) (h2:PlOk qs) (b:Bool) (hb:b=decide (ks=qs)) (hx:a.eval x=.agg (pvv ks).toArray) (hy:a.eval y=.agg (pvv qs).toArray) :
  (execOp a.eval {dst:=dst,op:=.binOp .eql 63 x y rt,type:=typ,pos:=pos,after:=aft,guard:=gd}).run Tryz.prog w=.ok (.value (.bool b)) w:=by
 unfold execOp
 simp only [hx,hy,Sem.run_bind,run_eqGuard_agg w .eql 63 x y _ _ eg_np,Sem.run_pure,Result.andThen_ok,run_eql_struct,eq_np w h h2 b hb]
theorem exec_neS1 {x y:Operand} {rt:TypeId} (z:Sp) (hx:a.eval x=.agg (spv z).toArray) (hy:a.eval y=.agg (spv z).toArray) :
  (execOp a.eval {dst:=dst,op:=.binOp .neq 50 x y rt,type:=typ,pos:=pos,after:=aft,guard:=gd}).run Tryz.prog w=.ok (.value (.bool false)) w:=by
 unfold execOp
 simp only [hx,hy,Sem.run_bind,run_eqGuard_agg w .neq 50 x y _ _ eg_sp,Sem.run_pure,Result.andThen_ok,run_neq_struct,eq_sp1 w z]
 rfl
theorem cN {x y:Operand} {rt:TypeId} (ks qs:List ByteArray) (u v u' v':Int) (r:Bool) (hr:r=(decide (tx ks=tx qs)&&(decide (u=u')&&decide (v=v')))) (hx:a.eval x=.agg (spc ks u v).toArray) (hy:a.eval y=.agg (spc qs u' v').toArray) :
  (execOp a.eval {dst:=dst,op:=.binOp .neq 50 x y rt,type:=typ,pos:=pos,after:=aft,guard:=gd}).run Tryz.prog w=.ok (.value (.bool (!r))) w:=by
 unfold execOp
 simp only [hx,hy,Sem.run_bind,run_eqGuard_agg w .neq 50 x y _ _ eg_sp,Sem.run_pure,Result.andThen_ok,run_neq_struct,eq_sp w ks qs u v u' v' r hr]
end
end Go.Proofs.YtdmohffogfbnbaaGreatDoor
