import Derived.Test.YtabncjcfpkhhnaaGreatDoorQn09
set_option maxRecDepth 100000
set_option maxHeartbeats 4000000
namespace Go.Proofs.YtabncjcfpkhhnaaGreatDoor
open Go Go.RowKit Go.Maps
theorem co {a:Act} {w:World} {dst:Option Tmp} {typ:TypeId} {pos:String} {aft:Array Edge} {gd:Option (Nat×Bool)} {t:TypeId} {x y:Operand} {rt:TypeId} (s s':ByteArray) (v:Bool) (hx:a.eval x=.string s) (hy:a.eval y=.string s') (hv:(s==s')=v) :
  (execOp a.eval {dst:=dst,op:=.binOp .neq t x y rt,type:=typ,pos:=pos,after:=aft,guard:=gd}).run Tryz.prog w=.ok (.value (.bool (!v))) w:=by
 subst hv
 unfold execOp
 simp only [hx,hy]
 simp only [eqGuard,binOp,Op.stringOp,go_sem]
 rw [beq_toListBytes s s']
 rfl
theorem info_s3:(Tryz.prog.info? 56).map (fun i=>(i.zero,i.size))=some (some (.agg [Value.string noStr,.string noStr,.string noStr].toArray),3):=by kernel_rfl
theorem zero_s3:∀w,(zeroValue 56).run Tryz.prog w=.ok (.agg [Value.string noStr,.string noStr,.string noStr].toArray) w:=(zero_of_info info_s3).1
theorem sz_s3:(Tryz.prog.info? 56).map (·.size)=some 3:=(zero_of_info info_s3).2
theorem cW (x y z:ByteArray):Tryz.prog.built 56 [(0,.string x),(1,.string y),(2,.string z)]=some [Value.string x,.string y,.string z].toArray:=by kernel_rfl
theorem three_s (x y z:ByteArray):∀v∈[Value.string x,.string y,.string z],v.oneCell'=true:=by intro v hv;simp at hv;rcases hv with rfl|rfl|rfl<;>rfl
theorem aX:Tryz.prog.underlying 57=some (.slice 5):=Tryz.underlying57
theorem bu:(Tryz.prog.info? 5).map (fun i=>(i.zero,i.size))=some (some (.int .u8 0),1):=by kernel_rfl
def pthF (k:Nat):ByteArray:=if k=0 then ⟨#[]⟩ else if k=1 then ⟨#[97]⟩ else ⟨#[97,47,97]⟩
def atF (k:Nat):ByteArray:=if k=0 then ⟨#[]⟩ else if k=1 then ⟨#[97,47]⟩ else ⟨#[97,47,97,47]⟩
def nmF (k i:Nat):ByteArray:=atF k++⟨#[UInt8.ofNat (98+i)]⟩
def zF (k:Nat):ByteArray:=atF k++⟨#[122]⟩
def chF:Nat→Nms
 | 0=>newN 9 9
 | k+1=>addN (chF k) (segsB (pthF (k+1)),5,5,0,0,0,0)
def pF (k:Nat):Nat→Nms
 | 0=>chF k
 | j+1=>addN (pF k j) (segsB (nmF k j),1,1,0,0,0,0)
theorem fChain:∀k:Fin 2,addE (chF k) (pthF (k+1)) 5 5=0:=by decide +kernel
theorem fAdd:∀k:Fin 3,∀i:Fin 6,addE (pF k (min i 2)) (nmF k i) 1 1=if i.val<2 then 0 else 102:=by decide +kernel
theorem fNone:∀k:Fin 3,kidsN (pF k 0) (pthF k)=[]:=by decide +kernel
def pR (k q:Nat):Nms:=delN (pF k q) (segsB (nmF k 0))
def pZ (k q:Nat):Nms:=addN (pR k q) (segsB (zF k),1,1,0,0,0,0)
theorem fRem:∀k:Fin 3,∀q:Fin 2,remE (pF k (q+1)) (nmF k 0)=0∧remL (pF k (q+1)) (nmF k 0) 0=[nmF k 0]∧(pF k (q+1)).length≤10:=by decide +kernel
theorem fZ:∀k:Fin 3,∀q:Fin 2,addE (pR k (q+1)) (zF k) 1 1=0:=by decide +kernel
theorem fKids:∀k:Fin 3,∀q:Fin 2,(kidsN (pZ k (q+1)) (pthF k)).length=q+1:=by decide +kernel
theorem fSize:∀k:Fin 3,∀i:Fin 6,(nmF k i).size≤100∧(atF k).size≤100∧(zF k).size≤100∧(pthF k).size≤100:=by decide +kernel
theorem strOf1 (i:Nat):strOf [98+(i:Int)]=⟨#[UInt8.ofNat (98+i)]⟩:=by
 unfold strOf
 simp only [List.map_cons,List.map_nil]
 congr 3
theorem wrap8 {x:Int} (h:0≤x∧x<256):IntKind.u8.wrap x=x:=by simp [IntKind.wrap,IntKind.bits,IntKind.signed];omega
structure FuS (w w2 wr:World) (nb m c g:Nat) (p:Nms):Prop where
 bel:Below w.heap.size w w2
 hw:w.heap.size≤m
 mem:Mem w2 [m] wr [(g,[Value.string ⟨#[]⟩,Value.string ⟨#[97]⟩,Value.string ⟨#[97,47,97]⟩],56)]
 names:NmAt wr nb m c p
 maxl:MaxL w2
 m0:0<m
theorem FuS.ml {w w2 wr:World} {nb m c g:Nat} {p:Nms} (h:FuS w w2 wr nb m c g p):MaxL wr:=h.maxl.upd0 h.m0 h.mem.toUpd
theorem FuS.upd {w w2 wr w':World} {nb m c c' g:Nat} {p p':Nms} (h:FuS w w2 wr nb m c g p) (hn:NmAt w' nb m c' p') (hu:Upd m wr w'):FuS w w2 w' nb m c' g p':=by
 obtain ⟨es,cc,hes⟩:=h.names.isMap
 exact ⟨h.bel,h.hw,h.mem.updO hes (Or.inl (by simp)) hu,hn,h.maxl,h.m0⟩
theorem FuS.call {w w2 wr w':World} {nb m c g:Nat} {p:Nms} (h:FuS w w2 wr nb m c g p) (hb:Below wr.heap.size wr w'):FuS w w2 w' nb m c g p :=
 ⟨h.bel,h.hw,h.mem.call hb,h.names.below hb,h.maxl,h.m0⟩
theorem FuS.more {w w2 wr w':World} {nb m c g:Nat} {p:Nms} {rows:List (Nat×List Value×TypeId)} (h:FuS w w2 wr nb m c g p) (hm:Mem wr [] w' rows):FuS w w2 w' nb m c g p:=h.call hm.below
theorem FuS.fin {w w2 wr:World} {nb m c g:Nat} {p:Nms} (h:FuS w w2 wr nb m c g p):Below w.heap.size w wr:=aA h.bel h.mem.toUpd h.hw h.bel.size
open Go Go.RowKit Go.Maps
theorem nfull_0 (x y:Int) (hy:0≤y∧y≤255) (hk:x.tmod 3=0) (w:World) (hM:MaxL w):Calls Tryz.prog 5 #[.int .u8 x,.int .u8 y] w fun e w'=>e=.returned (.bool true)∧Below w.heap.size w w':=by
 obtain ⟨r,hj⟩:∃r:Nat,y.tmod 6=(r:Int):=⟨(y % 6).toNat,by rw [Int.tmod_eq_emod_of_nonneg hy.1];omega⟩
 have hr6:r<6:=by
  have h1:=hj
  rw [Int.tmod_eq_emod_of_nonneg hy.1] at h1
  omega
 have hwr:wrap64 (r:Int)=(r:Int):=by unfold wrap64;omega
 have hwk:wrap64 0=0:=by unfold wrap64;omega
 have hm:=Mem.start w
 have HM:Hid (MaxL w):=hM
 clear hM hy
 go_enter Tryz.func5,Tryz.ntmps5
 go_wp2_with (first
  | (go_at_call 7;refine (aI _ (HM.out.below hm.below)).mono ?_;rintro e w1 ⟨he,hb⟩;subst he;replace hm:=hm.call hb;clear hb)
  | (go_at_call 8;refine (ce (9) (9) _).mono ?_;rintro e w2 ⟨nb,m,he,hwn,hwm,hn,hb⟩;subst he;have HB:Hid (Below w.heap.size w w2):=hm.below.trans (hb.mono hm.size);replace hwm:w.heap.size≤m:=Nat.le_trans hm.size hwm;have hm0:0<m:=Nat.lt_of_lt_of_le HM.out.lt0 hwm;have HN:Hid (NmAt w2 nb m 1 (chF 0)):=hn;have HM2:Hid (MaxL w2):=HM.out.below HB.out;clear hm;have hm:=Mem.start w2;clear hn hb hwn)
  | ((with_reducible refine aa (some 17) (.build 56 #[(0,.const (.string {data:=#[]})),(1,.const (.string {data:=#[97]})),(2,.const (.string {data:=#[97,47,97]}))]) ?_);refine ao [Value.string ⟨#[]⟩,Value.string ⟨#[97]⟩,Value.string ⟨#[97,47,97]⟩] [(0,.string ⟨#[]⟩),(1,.string ⟨#[97]⟩),(2,.string ⟨#[97,47,97]⟩)] rfl (cW _ _ _) ?_)
  | ((with_reducible refine aa (some 6) (.alloc 56) ?_);refine ad _ zero_s3 hm ?_;clear hm;intro w3 g6 hm)
  | ((with_reducible refine aa none (.store 56 (.tmp 6) (.tmp 17)) ?_);refine ae 0 [Value.string ⟨#[]⟩,Value.string ⟨#[97]⟩,Value.string ⟨#[97,47,97]⟩] hm rfl rfl rfl 3 sz_s3 rfl rfl (three_s _ _ _) ?_;clear hm;intro w4 hm))
 have HS:Hid (FuS w w2 w4 nb m (1) g6 (chF 0)):=⟨HB.out,hwm,hm.weak,HN.out.below hm.below,HM2.out,hm0⟩
 clear hm HB HN HM2 hwm hm0 HM
 go_loopw [8] (fun vi wr=>∃i:Nat,1≤i∧i≤1∧vi=.int .i64 (i:Int)∧Hid (FuS w w2 wr nb m (i) g6 (chF (i - 1)))) (fun vi _=>match vi with | .int _ q=>1 - q.toNat|_=>0)
 case atStart=>exact ⟨1,by omega,by omega,rfl,HS⟩
 case round =>
  clear HS
  obtain ⟨i,hi1,hi2,rfl,HS⟩:=hrel
  have hi:i=1:=by omega
  subst hi
  go_wp2_with (first
   | ((with_reducible refine aa (some 34) (.load 9 (.tmp 33)) ?_);refine aE 0 0 (.string ⟨#[]⟩) HS.out.mem rfl rfl aq rfl ?_)
   | ((with_reducible refine aa (some 36) (.binOp .neq 9 (.tmp 35) (.const (.string {data:=#[]})) 9) ?_);go_must (refine ab (.bool false) rfl (co {data:=#[]} {data:=#[]} true rfl rfl (bD _)) ?_)))
  rename_i _ _ _
  go_loopw [10] (fun vi wr=>∃i:Nat,i≤r∧vi=.int .i64 (i:Int)∧Hid (FuS w w2 wr nb m (1+i) g6 (pF 0 (min i 2)))) (fun vi _=>match vi with | .int _ q=>r - q.toNat|_=>0)
  case atStart=>exact ⟨0,by omega,rfl,HS⟩
  case round =>
   clear HS
   obtain ⟨i,hi,rfl,HS⟩:=hrel
   by_cases hlt:i<r
   ·have hki:(i:Int)<(r:Int):=by omega
    have hi6:i<6:=by omega
    have hw:IntKind.i64.wrap ((i:Int)+1)=(i:Int)+1:=wrapi _ (by omega) (by omega)
    have hw1:IntKind.u8.wrap (i:Int)=(i:Int):=wrap8 (by omega)
    have hw2:IntKind.u8.wrap (98+(i:Int))=98+(i:Int):=wrap8 (by omega)
    obtain ⟨s1,hs1⟩:∃s,s=strOf [98+(i:Int)]:=⟨_,rfl⟩
    have HS1:Hid (∀_:Unit,Value.string (strOf [98+(i:Int)])=.string s1):=fun _=>by rw [hs1]
    obtain ⟨s2,hs2⟩:∃s,s=nmF 0 i:=⟨_,rfl⟩
    have HS2:Hid (∀_:Unit,s2=⟨#[]⟩++s1∧(⟨#[]⟩:ByteArray).size+s1.size≤1000000000):=fun _=>by
     rw [hs1,hs2,strOf1]
     exact ⟨rfl,by show _+1≤_;decide⟩
    have HSZ:Hid (∀_:Unit,s2.size≤1000):=fun _=>by rw [hs2];have:=(fSize ⟨0,by omega⟩ ⟨i,hi6⟩).1;exact Nat.le_trans this (by omega)
    have HAD:Hid (∀_:Unit,addE (pF 0 (min i 2)) s2 1 1=if i<2 then 0 else 102):=fun _=>by rw [hs2];exact fAdd ⟨0,by omega⟩ ⟨i,hi6⟩
    have HNX:Hid (∀_:Unit,(if (if i<2 then 0 else 102:Int)=0 then addN (pF 0 (min i 2)) (segsB s2,1,1,0,0,0,0) else pF 0 (min i 2))=pF 0 (min (i+1) 2)):=fun _=>by
     rw [hs2]
     by_cases h2:i<2
     ·rw [if_pos h2,if_pos rfl,show min i 2=i by omega,show min (i+1) 2=i+1 by omega];rfl
     ·rw [if_neg h2,if_neg (by omega),show min i 2=2 by omega,show min (i+1) 2=2 by omega]
    clear hs1 hs2
    have hm:=Mem.start wr
    by_cases h2:i<2
    ·have h2i:(i:Int)<2:=by omega
     have HAE:Hid (∀_:Unit,addE (pF 0 (min i 2)) s2 1 1=0):=fun _=>by rw [HAD.out (),if_pos h2]
     have HNX2:Hid (∀_:Unit,(if (0:Int)=0 then addN (pF 0 (min i 2)) (segsB s2,1,1,0,0,0,0) else pF 0 (min i 2))=pF 0 (min (i+1) 2)):=fun _=>by have:=HNX.out ();rw [if_pos h2] at this;exact this
     clear h2 HAD HNX
     go_wp2_with (first
      | ((with_reducible refine aa (some 51) (.buildSlice 57 1 #[(0,.tmp 50)]) ?_);go_must (refine aV rfl (.int .u8 0) (.int .u8 (98+(i:Int))) aX bu rfl rfl rfl hm ?_);clear hm;intro w6 g8 hb6 hm;clear hb6)
      | ((with_reducible refine aa (some 52) (.convert 57 9 (.tmp 51)) ?_);go_must (refine bl aX un_u8 a6 [98+(i:Int)] 1 (hm.get 0 rfl) rfl rfl ?_);rw [HS1.out ()])
      | ((with_reducible refine aa (some 53) (.binOp .add 9 (.tmp 47) (.tmp 52) 9) ?_);go_must (refine ab (.string s2) rfl (an ⟨#[]⟩ s1 s2 (HS2.out ()).1 rfl rfl (HS2.out ()).2) ?_))
      | (go_at_call 10;refine (aJ (HS.out.more hm).names (by omega) s2 (HSZ.out ()) (HS.out.more hm).ml 1 1 0 (pF 0 (min (i+1) 2)) (HAE.out ()) (HNX2.out ())).mono ?_;rintro e w7 ⟨he,hn,hu⟩;subst he;replace HS:Hid (FuS w w2 w7 nb m (1+i+1) g6 (pF 0 (min (i+1) 2))):=(HS.out.more hm).upd hn hu;clear hn hu))
     go_roundw
     case rel=>exact ⟨i+1,by omega,by go_num,HS⟩
     case measure=>show r - ((i:Int)+1).toNat<r - (i:Int).toNat;omega
    ·have h2i:¬(i:Int)<2:=by omega
     have HAE:Hid (∀_:Unit,addE (pF 0 (min i 2)) s2 1 1=102):=fun _=>by rw [HAD.out (),if_neg h2]
     have HNX2:Hid (∀_:Unit,(if (102:Int)=0 then addN (pF 0 (min i 2)) (segsB s2,1,1,0,0,0,0) else pF 0 (min i 2))=pF 0 (min (i+1) 2)):=fun _=>by have:=HNX.out ();rw [if_neg h2] at this;exact this
     clear h2 HAD HNX
     go_wp2_with (first
      | ((with_reducible refine aa (some 51) (.buildSlice 57 1 #[(0,.tmp 50)]) ?_);go_must (refine aV rfl (.int .u8 0) (.int .u8 (98+(i:Int))) aX bu rfl rfl rfl hm ?_);clear hm;intro w6 g8 hb6 hm;clear hb6)
      | ((with_reducible refine aa (some 52) (.convert 57 9 (.tmp 51)) ?_);go_must (refine bl aX un_u8 a6 [98+(i:Int)] 1 (hm.get 0 rfl) rfl rfl ?_);rw [HS1.out ()])
      | ((with_reducible refine aa (some 53) (.binOp .add 9 (.tmp 47) (.tmp 52) 9) ?_);go_must (refine ab (.string s2) rfl (an ⟨#[]⟩ s1 s2 (HS2.out ()).1 rfl rfl (HS2.out ()).2) ?_))
      | (go_at_call 10;refine (aJ (HS.out.more hm).names (by omega) s2 (HSZ.out ()) (HS.out.more hm).ml 1 1 102 (pF 0 (min (i+1) 2)) (HAE.out ()) (HNX2.out ())).mono ?_;rintro e w7 ⟨he,hn,hu⟩;subst he;replace HS:Hid (FuS w w2 w7 nb m (1+i+1) g6 (pF 0 (min (i+1) 2))):=(HS.out.more hm).upd hn hu;clear hn hu))
     go_roundw
     case rel=>exact ⟨i+1,by omega,by go_num,HS⟩
     case measure=>show r - ((i:Int)+1).toNat<r - (i:Int).toNat;omega
   ·have hir:i=r:=by omega
    subst hir
    clear hlt hi
    have hki:¬(i:Int)<(i:Int):=by omega
    by_cases h0:i=0
    ·subst h0
     go_wp2_with (first
      | ((with_reducible refine aa (some 74) (.load 9 (.tmp 73)) ?_);refine aE 0 0 (.string ⟨#[]⟩) HS.out.mem rfl rfl aq rfl ?_)
      | (go_at_call 19;refine (bt HS.out.names (by omega) ⟨#[]⟩ [] (fNone ⟨0,by omega⟩)).mono ?_;rintro e w7 ⟨v,he,⟨p9,c9,hv,_⟩,hb⟩;subst hv;subst he;have HF:Hid (Below w.heap.size w w7):=(HS.out.call hb).fin;clear hb))
     go_ret
     exact ⟨rfl,HF.out⟩
    ·have h0i:((i:Int)==0)=false:=by rw [beq_eq_false_iff_ne];omega
     by_cases h1:i=1
     ·subst h1
      clear h0
      replace HS:Hid (FuS w w2 wr nb m (1+1) g6 (pF 0 1)):=HS
      have HFR:=fRem ⟨0,by omega⟩ ⟨0,by omega⟩
      have HRM:Hid (remE (pF 0 1) ⟨#[98]⟩=0∧remL (pF 0 1) ⟨#[98]⟩ 0=[⟨#[98]⟩]∧(pF 0 1).length≤10):=HFR
      clear HFR
      go_wp2_with (first
       | ((with_reducible refine aa (some 81) (.binOp .add 9 (.tmp 80) (.const (.string {data:=#[98]})) 9) ?_);go_must (refine ab (.string ⟨#[98]⟩) rfl (an ⟨#[]⟩ ⟨#[98]⟩ ⟨#[98]⟩ (by decide) rfl rfl (by decide)) ?_))
       | (go_at_call 12;refine (rem_k (HS.out.names) (by omega) (by have:=HRM.out.2.2;omega) ⟨#[98]⟩ (by decide) HS.out.ml 0 (pR 0 1) _ HRM.out.1 rfl HRM.out.2.1).mono ?_;rintro e w7 ⟨v,he,⟨p9,c9,hv,_⟩,hn,hu⟩;subst hv;subst he;replace HS:Hid (FuS w w2 w7 nb m (1+1) g6 (pR 0 1)):=HS.out.upd hn hu;clear hn hu)
       | ((with_reducible refine aj (some 95) (.binOp .add 9 (.tmp 94) (.const (.string {data:=#[122]})) 9) (some (7,true)) ?_);go_must (refine ab (.string ⟨#[122]⟩) rfl (an ⟨#[]⟩ ⟨#[122]⟩ ⟨#[122]⟩ (by decide) rfl rfl (by decide)) ?_))
       | (go_at_call 10;refine (aJ HS.out.names (by omega) ⟨#[122]⟩ (by decide) HS.out.ml 1 1 0 (pZ 0 1) (fZ ⟨0,by omega⟩ ⟨0,by omega⟩) rfl).mono ?_;rintro e w8 ⟨he,hn,hu⟩;subst he;replace HS:Hid (FuS w w2 w8 nb m (1+1+1) g6 (pZ 0 1)):=HS.out.upd hn hu;clear hn hu)
       | ((with_reducible refine aj (some 103) (.load 9 (.tmp 102)) (some (14,true)) ?_);go_must (refine ab (.string ⟨#[]⟩) rfl (af 0 (.string ⟨#[]⟩) (HS.out.mem.get 0 rfl) rfl aq rfl) ?_))
       | (go_at_call 19;refine (bt HS.out.names (by omega) ⟨#[]⟩ _ rfl).mono ?_;rintro e w9 ⟨v,he,⟨p8,c8,hv,_⟩,hb⟩;subst hv;subst he;have HLN:(kidsN (pZ 0 1) ⟨#[]⟩).length=1:=fKids ⟨0,by omega⟩ ⟨0,by omega⟩;rw [HLN];clear HLN;have HF:Hid (Below w.heap.size w w9):=(HS.out.call hb).fin;clear hb))
      go_ret
      exact ⟨rfl,HF.out⟩
     ·have hmn:min (i:Int) 2=2:=by omega
      have HMN:Hid (∀_:Unit,min i 2=2):=fun _=>by omega
      replace HS:Hid (FuS w w2 wr nb m (1+i) g6 (pF 0 2)):=by have h9:=HS.out;rw [HMN.out ()] at h9;exact h9
      clear h0 h1 HMN
      have HFR:=fRem ⟨0,by omega⟩ ⟨1,by omega⟩
      have HRM:Hid (remE (pF 0 2) ⟨#[98]⟩=0∧remL (pF 0 2) ⟨#[98]⟩ 0=[⟨#[98]⟩]∧(pF 0 2).length≤10):=HFR
      clear HFR
      go_wp2_with (first
       | ((with_reducible refine aa (some 81) (.binOp .add 9 (.tmp 80) (.const (.string {data:=#[98]})) 9) ?_);go_must (refine ab (.string ⟨#[98]⟩) rfl (an ⟨#[]⟩ ⟨#[98]⟩ ⟨#[98]⟩ (by decide) rfl rfl (by decide)) ?_))
       | (go_at_call 12;refine (rem_k (HS.out.names) (by omega) (by have:=HRM.out.2.2;omega) ⟨#[98]⟩ (by decide) HS.out.ml 0 (pR 0 2) _ HRM.out.1 rfl HRM.out.2.1).mono ?_;rintro e w7 ⟨v,he,⟨p9,c9,hv,_⟩,hn,hu⟩;subst hv;subst he;replace HS:Hid (FuS w w2 w7 nb m (1+i) g6 (pR 0 2)):=HS.out.upd hn hu;clear hn hu)
       | ((with_reducible refine aj (some 95) (.binOp .add 9 (.tmp 94) (.const (.string {data:=#[122]})) 9) (some (7,true)) ?_);go_must (refine ab (.string ⟨#[122]⟩) rfl (an ⟨#[]⟩ ⟨#[122]⟩ ⟨#[122]⟩ (by decide) rfl rfl (by decide)) ?_))
       | (go_at_call 10;refine (aJ HS.out.names (by omega) ⟨#[122]⟩ (by decide) HS.out.ml 1 1 0 (pZ 0 2) (fZ ⟨0,by omega⟩ ⟨1,by omega⟩) rfl).mono ?_;rintro e w8 ⟨he,hn,hu⟩;subst he;replace HS:Hid (FuS w w2 w8 nb m (1+i+1) g6 (pZ 0 2)):=HS.out.upd hn hu;clear hn hu)
       | ((with_reducible refine aj (some 103) (.load 9 (.tmp 102)) (some (14,true)) ?_);go_must (refine ab (.string ⟨#[]⟩) rfl (af 0 (.string ⟨#[]⟩) (HS.out.mem.get 0 rfl) rfl aq rfl) ?_))
       | (go_at_call 19;refine (bt HS.out.names (by omega) ⟨#[]⟩ _ rfl).mono ?_;rintro e w9 ⟨v,he,⟨p8,c8,hv,_⟩,hb⟩;subst hv;subst he;have HLN:(kidsN (pZ 0 2) ⟨#[]⟩).length=2:=fKids ⟨0,by omega⟩ ⟨1,by omega⟩;rw [HLN];clear HLN;have HF:Hid (Below w.heap.size w w9):=(HS.out.call hb).fin;clear hb))
      go_ret
      exact ⟨rfl,HF.out⟩
open Go Go.RowKit Go.Maps
theorem nfull_1 (x y:Int) (hy:0≤y∧y≤255) (hk:x.tmod 3=1) (w:World) (hM:MaxL w):Calls Tryz.prog 5 #[.int .u8 x,.int .u8 y] w fun e w'=>e=.returned (.bool true)∧Below w.heap.size w w':=by
 obtain ⟨r,hj⟩:∃r:Nat,y.tmod 6=(r:Int):=⟨(y % 6).toNat,by rw [Int.tmod_eq_emod_of_nonneg hy.1];omega⟩
 have hr6:r<6:=by
  have h1:=hj
  rw [Int.tmod_eq_emod_of_nonneg hy.1] at h1
  omega
 have hwr:wrap64 (r:Int)=(r:Int):=by unfold wrap64;omega
 have hwk:wrap64 1=1:=by unfold wrap64;omega
 have hm:=Mem.start w
 have HM:Hid (MaxL w):=hM
 clear hM hy
 go_enter Tryz.func5,Tryz.ntmps5
 go_wp2_with (first
  | (go_at_call 7;refine (aI _ (HM.out.below hm.below)).mono ?_;rintro e w1 ⟨he,hb⟩;subst he;replace hm:=hm.call hb;clear hb)
  | (go_at_call 8;refine (ce (9) (9) _).mono ?_;rintro e w2 ⟨nb,m,he,hwn,hwm,hn,hb⟩;subst he;have HB:Hid (Below w.heap.size w w2):=hm.below.trans (hb.mono hm.size);replace hwm:w.heap.size≤m:=Nat.le_trans hm.size hwm;have hm0:0<m:=Nat.lt_of_lt_of_le HM.out.lt0 hwm;have HN:Hid (NmAt w2 nb m 1 (chF 0)):=hn;have HM2:Hid (MaxL w2):=HM.out.below HB.out;clear hm;have hm:=Mem.start w2;clear hn hb hwn)
  | ((with_reducible refine aa (some 17) (.build 56 #[(0,.const (.string {data:=#[]})),(1,.const (.string {data:=#[97]})),(2,.const (.string {data:=#[97,47,97]}))]) ?_);refine ao [Value.string ⟨#[]⟩,Value.string ⟨#[97]⟩,Value.string ⟨#[97,47,97]⟩] [(0,.string ⟨#[]⟩),(1,.string ⟨#[97]⟩),(2,.string ⟨#[97,47,97]⟩)] rfl (cW _ _ _) ?_)
  | ((with_reducible refine aa (some 6) (.alloc 56) ?_);refine ad _ zero_s3 hm ?_;clear hm;intro w3 g6 hm)
  | ((with_reducible refine aa none (.store 56 (.tmp 6) (.tmp 17)) ?_);refine ae 0 [Value.string ⟨#[]⟩,Value.string ⟨#[97]⟩,Value.string ⟨#[97,47,97]⟩] hm rfl rfl rfl 3 sz_s3 rfl rfl (three_s _ _ _) ?_;clear hm;intro w4 hm))
 have HS:Hid (FuS w w2 w4 nb m (1) g6 (chF 0)):=⟨HB.out,hwm,hm.weak,HN.out.below hm.below,HM2.out,hm0⟩
 clear hm HB HN HM2 hwm hm0 HM
 go_loopw [8] (fun vi wr=>∃i:Nat,1≤i∧i≤2∧vi=.int .i64 (i:Int)∧Hid (FuS w w2 wr nb m (i) g6 (chF (i - 1)))) (fun vi _=>match vi with | .int _ q=>2 - q.toNat|_=>0)
 case atStart=>exact ⟨1,by omega,by omega,rfl,HS⟩
 case round =>
  clear HS
  obtain ⟨i,hi1,hi2,rfl,HS⟩:=hrel
  have hi:i=1∨i=2:=by omega
  rcases hi with rfl|rfl
  ·go_wp2_with (first
    | ((with_reducible refine aa (some 29) (.load 9 (.tmp 28)) ?_);refine aE 0 1 (.string ⟨#[97]⟩) HS.out.mem rfl rfl aq rfl ?_)
    | (go_at_call 10;refine (aJ HS.out.names (by omega) ⟨#[97]⟩ (by decide) HS.out.ml 5 5 0 (chF 1) (fChain ⟨0,by omega⟩) rfl).mono ?_;rintro e w7 ⟨he,hn,hu⟩;subst he;replace HS:Hid (FuS w w2 w7 nb m (2) g6 (chF 1)):=HS.out.upd hn hu;clear hn hu))
   go_roundw
   case rel=>exact ⟨2,by omega,by omega,by first|rfl|go_num,HS⟩
   case measure=>first|decide|(show _<_;simp)
  ·go_wp2_with (first
    | ((with_reducible refine aa (some 34) (.load 9 (.tmp 33)) ?_);refine aE 0 1 (.string ⟨#[97]⟩) HS.out.mem rfl rfl aq rfl ?_)
    | ((with_reducible refine aa (some 36) (.binOp .neq 9 (.tmp 35) (.const (.string {data:=#[]})) 9) ?_);go_must (refine ab (.bool true) rfl (co ⟨#[97]⟩ ⟨#[]⟩ false rfl rfl (cw (by decide))) ?_))
    | ((with_reducible refine aa (some 38) (.binOp .add 9 (.tmp 37) (.const (.string {data:=#[47]})) 9) ?_);go_must (refine ab (.string ⟨#[97,47]⟩) rfl (an ⟨#[97]⟩ ⟨#[47]⟩ ⟨#[97,47]⟩ (by decide) rfl rfl (by decide)) ?_)))
   rename_i _ _ _
   go_loopw [10] (fun vi wr=>∃i:Nat,i≤r∧vi=.int .i64 (i:Int)∧Hid (FuS w w2 wr nb m (2+i) g6 (pF 1 (min i 2)))) (fun vi _=>match vi with | .int _ q=>r - q.toNat|_=>0)
   case atStart=>exact ⟨0,by omega,rfl,HS⟩
   case round =>
    clear HS
    obtain ⟨i,hi,rfl,HS⟩:=hrel
    by_cases hlt:i<r
    ·have hki:(i:Int)<(r:Int):=by omega
     have hi6:i<6:=by omega
     have hw:IntKind.i64.wrap ((i:Int)+1)=(i:Int)+1:=wrapi _ (by omega) (by omega)
     have hw1:IntKind.u8.wrap (i:Int)=(i:Int):=wrap8 (by omega)
     have hw2:IntKind.u8.wrap (98+(i:Int))=98+(i:Int):=wrap8 (by omega)
     obtain ⟨s1,hs1⟩:∃s,s=strOf [98+(i:Int)]:=⟨_,rfl⟩
     have HS1:Hid (∀_:Unit,Value.string (strOf [98+(i:Int)])=.string s1):=fun _=>by rw [hs1]
     obtain ⟨s2,hs2⟩:∃s,s=nmF 1 i:=⟨_,rfl⟩
     have HS2:Hid (∀_:Unit,s2=⟨#[97,47]⟩++s1∧(⟨#[97,47]⟩:ByteArray).size+s1.size≤1000000000):=fun _=>by
      rw [hs1,hs2,strOf1]
      exact ⟨rfl,by show _+1≤_;decide⟩
     have HSZ:Hid (∀_:Unit,s2.size≤1000):=fun _=>by rw [hs2];have:=(fSize ⟨1,by omega⟩ ⟨i,hi6⟩).1;exact Nat.le_trans this (by omega)
     have HAD:Hid (∀_:Unit,addE (pF 1 (min i 2)) s2 1 1=if i<2 then 0 else 102):=fun _=>by rw [hs2];exact fAdd ⟨1,by omega⟩ ⟨i,hi6⟩
     have HNX:Hid (∀_:Unit,(if (if i<2 then 0 else 102:Int)=0 then addN (pF 1 (min i 2)) (segsB s2,1,1,0,0,0,0) else pF 1 (min i 2))=pF 1 (min (i+1) 2)):=fun _=>by
      rw [hs2]
      by_cases h2:i<2
      ·rw [if_pos h2,if_pos rfl,show min i 2=i by omega,show min (i+1) 2=i+1 by omega];rfl
      ·rw [if_neg h2,if_neg (by omega),show min i 2=2 by omega,show min (i+1) 2=2 by omega]
     clear hs1 hs2
     have hm:=Mem.start wr
     by_cases h2:i<2
     ·have h2i:(i:Int)<2:=by omega
      have HAE:Hid (∀_:Unit,addE (pF 1 (min i 2)) s2 1 1=0):=fun _=>by rw [HAD.out (),if_pos h2]
      have HNX2:Hid (∀_:Unit,(if (0:Int)=0 then addN (pF 1 (min i 2)) (segsB s2,1,1,0,0,0,0) else pF 1 (min i 2))=pF 1 (min (i+1) 2)):=fun _=>by have:=HNX.out ();rw [if_pos h2] at this;exact this
      clear h2 HAD HNX
      go_wp2_with (first
       | ((with_reducible refine aa (some 51) (.buildSlice 57 1 #[(0,.tmp 50)]) ?_);go_must (refine aV rfl (.int .u8 0) (.int .u8 (98+(i:Int))) aX bu rfl rfl rfl hm ?_);clear hm;intro w6 g8 hb6 hm;clear hb6)
       | ((with_reducible refine aa (some 52) (.convert 57 9 (.tmp 51)) ?_);go_must (refine bl aX un_u8 a6 [98+(i:Int)] 1 (hm.get 0 rfl) rfl rfl ?_);rw [HS1.out ()])
       | ((with_reducible refine aa (some 53) (.binOp .add 9 (.tmp 47) (.tmp 52) 9) ?_);go_must (refine ab (.string s2) rfl (an ⟨#[97,47]⟩ s1 s2 (HS2.out ()).1 rfl rfl (HS2.out ()).2) ?_))
       | (go_at_call 10;refine (aJ (HS.out.more hm).names (by omega) s2 (HSZ.out ()) (HS.out.more hm).ml 1 1 0 (pF 1 (min (i+1) 2)) (HAE.out ()) (HNX2.out ())).mono ?_;rintro e w7 ⟨he,hn,hu⟩;subst he;replace HS:Hid (FuS w w2 w7 nb m (2+i+1) g6 (pF 1 (min (i+1) 2))):=(HS.out.more hm).upd hn hu;clear hn hu))
      go_roundw
      case rel=>exact ⟨i+1,by omega,by go_num,HS⟩
      case measure=>show r - ((i:Int)+1).toNat<r - (i:Int).toNat;omega
     ·have h2i:¬(i:Int)<2:=by omega
      have HAE:Hid (∀_:Unit,addE (pF 1 (min i 2)) s2 1 1=102):=fun _=>by rw [HAD.out (),if_neg h2]
      have HNX2:Hid (∀_:Unit,(if (102:Int)=0 then addN (pF 1 (min i 2)) (segsB s2,1,1,0,0,0,0) else pF 1 (min i 2))=pF 1 (min (i+1) 2)):=fun _=>by have:=HNX.out ();rw [if_neg h2] at this;exact this
      clear h2 HAD HNX
      go_wp2_with (first
       | ((with_reducible refine aa (some 51) (.buildSlice 57 1 #[(0,.tmp 50)]) ?_);go_must (refine aV rfl (.int .u8 0) (.int .u8 (98+(i:Int))) aX bu rfl rfl rfl hm ?_);clear hm;intro w6 g8 hb6 hm;clear hb6)
       | ((with_reducible refine aa (some 52) (.convert 57 9 (.tmp 51)) ?_);go_must (refine bl aX un_u8 a6 [98+(i:Int)] 1 (hm.get 0 rfl) rfl rfl ?_);rw [HS1.out ()])
       | ((with_reducible refine aa (some 53) (.binOp .add 9 (.tmp 47) (.tmp 52) 9) ?_);go_must (refine ab (.string s2) rfl (an ⟨#[97,47]⟩ s1 s2 (HS2.out ()).1 rfl rfl (HS2.out ()).2) ?_))
       | (go_at_call 10;refine (aJ (HS.out.more hm).names (by omega) s2 (HSZ.out ()) (HS.out.more hm).ml 1 1 102 (pF 1 (min (i+1) 2)) (HAE.out ()) (HNX2.out ())).mono ?_;rintro e w7 ⟨he,hn,hu⟩;subst he;replace HS:Hid (FuS w w2 w7 nb m (2+i+1) g6 (pF 1 (min (i+1) 2))):=(HS.out.more hm).upd hn hu;clear hn hu))
      go_roundw
      case rel=>exact ⟨i+1,by omega,by go_num,HS⟩
      case measure=>show r - ((i:Int)+1).toNat<r - (i:Int).toNat;omega
    ·have hir:i=r:=by omega
     subst hir
     clear hlt hi
     have hki:¬(i:Int)<(i:Int):=by omega
     by_cases h0:i=0
     ·subst h0
      go_wp2_with (first
       | ((with_reducible refine aa (some 74) (.load 9 (.tmp 73)) ?_);refine aE 0 1 (.string ⟨#[97]⟩) HS.out.mem rfl rfl aq rfl ?_)
       | (go_at_call 19;refine (bt HS.out.names (by omega) ⟨#[97]⟩ [] (fNone ⟨1,by omega⟩)).mono ?_;rintro e w7 ⟨v,he,⟨p9,c9,hv,_⟩,hb⟩;subst hv;subst he;have HF:Hid (Below w.heap.size w w7):=(HS.out.call hb).fin;clear hb))
      go_ret
      exact ⟨rfl,HF.out⟩
     ·have h0i:((i:Int)==0)=false:=by rw [beq_eq_false_iff_ne];omega
      by_cases h1:i=1
      ·subst h1
       clear h0
       replace HS:Hid (FuS w w2 wr nb m (2+1) g6 (pF 1 1)):=HS
       have HFR:=fRem ⟨1,by omega⟩ ⟨0,by omega⟩
       have HRM:Hid (remE (pF 1 1) ⟨#[97,47,98]⟩=0∧remL (pF 1 1) ⟨#[97,47,98]⟩ 0=[⟨#[97,47,98]⟩]∧(pF 1 1).length≤10):=HFR
       clear HFR
       go_wp2_with (first
        | ((with_reducible refine aa (some 81) (.binOp .add 9 (.tmp 80) (.const (.string {data:=#[98]})) 9) ?_);go_must (refine ab (.string ⟨#[97,47,98]⟩) rfl (an ⟨#[97,47]⟩ ⟨#[98]⟩ ⟨#[97,47,98]⟩ (by decide) rfl rfl (by decide)) ?_))
        | (go_at_call 12;refine (rem_k (HS.out.names) (by omega) (by have:=HRM.out.2.2;omega) ⟨#[97,47,98]⟩ (by decide) HS.out.ml 0 (pR 1 1) _ HRM.out.1 rfl HRM.out.2.1).mono ?_;rintro e w7 ⟨v,he,⟨p9,c9,hv,_⟩,hn,hu⟩;subst hv;subst he;replace HS:Hid (FuS w w2 w7 nb m (2+1) g6 (pR 1 1)):=HS.out.upd hn hu;clear hn hu)
        | ((with_reducible refine aj (some 95) (.binOp .add 9 (.tmp 94) (.const (.string {data:=#[122]})) 9) (some (7,true)) ?_);go_must (refine ab (.string ⟨#[97,47,122]⟩) rfl (an ⟨#[97,47]⟩ ⟨#[122]⟩ ⟨#[97,47,122]⟩ (by decide) rfl rfl (by decide)) ?_))
        | (go_at_call 10;refine (aJ HS.out.names (by omega) ⟨#[97,47,122]⟩ (by decide) HS.out.ml 1 1 0 (pZ 1 1) (fZ ⟨1,by omega⟩ ⟨0,by omega⟩) rfl).mono ?_;rintro e w8 ⟨he,hn,hu⟩;subst he;replace HS:Hid (FuS w w2 w8 nb m (2+1+1) g6 (pZ 1 1)):=HS.out.upd hn hu;clear hn hu)
        | ((with_reducible refine aj (some 103) (.load 9 (.tmp 102)) (some (14,true)) ?_);go_must (refine ab (.string ⟨#[97]⟩) rfl (af 1 (.string ⟨#[97]⟩) (HS.out.mem.get 0 rfl) rfl aq rfl) ?_))
        | (go_at_call 19;refine (bt HS.out.names (by omega) ⟨#[97]⟩ _ rfl).mono ?_;rintro e w9 ⟨v,he,⟨p8,c8,hv,_⟩,hb⟩;subst hv;subst he;have HLN:(kidsN (pZ 1 1) ⟨#[97]⟩).length=1:=fKids ⟨1,by omega⟩ ⟨0,by omega⟩;rw [HLN];clear HLN;have HF:Hid (Below w.heap.size w w9):=(HS.out.call hb).fin;clear hb))
       go_ret
       exact ⟨rfl,HF.out⟩
      ·have hmn:min (i:Int) 2=2:=by omega
       have HMN:Hid (∀_:Unit,min i 2=2):=fun _=>by omega
       replace HS:Hid (FuS w w2 wr nb m (2+i) g6 (pF 1 2)):=by have h9:=HS.out;rw [HMN.out ()] at h9;exact h9
       clear h0 h1 HMN
       have HFR:=fRem ⟨1,by omega⟩ ⟨1,by omega⟩
       have HRM:Hid (remE (pF 1 2) ⟨#[97,47,98]⟩=0∧remL (pF 1 2) ⟨#[97,47,98]⟩ 0=[⟨#[97,47,98]⟩]∧(pF 1 2).length≤10):=HFR
       clear HFR
       go_wp2_with (first
        | ((with_reducible refine aa (some 81) (.binOp .add 9 (.tmp 80) (.const (.string {data:=#[98]})) 9) ?_);go_must (refine ab (.string ⟨#[97,47,98]⟩) rfl (an ⟨#[97,47]⟩ ⟨#[98]⟩ ⟨#[97,47,98]⟩ (by decide) rfl rfl (by decide)) ?_))
        | (go_at_call 12;refine (rem_k (HS.out.names) (by omega) (by have:=HRM.out.2.2;omega) ⟨#[97,47,98]⟩ (by decide) HS.out.ml 0 (pR 1 2) _ HRM.out.1 rfl HRM.out.2.1).mono ?_;rintro e w7 ⟨v,he,⟨p9,c9,hv,_⟩,hn,hu⟩;subst hv;subst he;replace HS:Hid (FuS w w2 w7 nb m (2+i) g6 (pR 1 2)):=HS.out.upd hn hu;clear hn hu)
        | ((with_reducible refine aj (some 95) (.binOp .add 9 (.tmp 94) (.const (.string {data:=#[122]})) 9) (some (7,true)) ?_);go_must (refine ab (.string ⟨#[97,47,122]⟩) rfl (an ⟨#[97,47]⟩ ⟨#[122]⟩ ⟨#[97,47,122]⟩ (by decide) rfl rfl (by decide)) ?_))
        | (go_at_call 10;refine (aJ HS.out.names (by omega) ⟨#[97,47,122]⟩ (by decide) HS.out.ml 1 1 0 (pZ 1 2) (fZ ⟨1,by omega⟩ ⟨1,by omega⟩) rfl).mono ?_;rintro e w8 ⟨he,hn,hu⟩;subst he;replace HS:Hid (FuS w w2 w8 nb m (2+i+1) g6 (pZ 1 2)):=HS.out.upd hn hu;clear hn hu)
        | ((with_reducible refine aj (some 103) (.load 9 (.tmp 102)) (some (14,true)) ?_);go_must (refine ab (.string ⟨#[97]⟩) rfl (af 1 (.string ⟨#[97]⟩) (HS.out.mem.get 0 rfl) rfl aq rfl) ?_))
        | (go_at_call 19;refine (bt HS.out.names (by omega) ⟨#[97]⟩ _ rfl).mono ?_;rintro e w9 ⟨v,he,⟨p8,c8,hv,_⟩,hb⟩;subst hv;subst he;have HLN:(kidsN (pZ 1 2) ⟨#[97]⟩).length=2:=fKids ⟨1,by omega⟩ ⟨1,by omega⟩;rw [HLN];clear HLN;have HF:Hid (Below w.heap.size w w9):=(HS.out.call hb).fin;clear hb))
       go_ret
       exact ⟨rfl,HF.out⟩
open Go Go.RowKit Go.Maps
theorem nfull_2 (x y:Int) (hy:0≤y∧y≤255) (hk:x.tmod 3=2) (w:World) (hM:MaxL w):Calls Tryz.prog 5 #[.int .u8 x,.int .u8 y] w fun e w'=>e=.returned (.bool true)∧Below w.heap.size w w':=by
 obtain ⟨r,hj⟩:∃r:Nat,y.tmod 6=(r:Int):=⟨(y % 6).toNat,by rw [Int.tmod_eq_emod_of_nonneg hy.1];omega⟩
 have hr6:r<6:=by
  have h1:=hj
  rw [Int.tmod_eq_emod_of_nonneg hy.1] at h1
  omega
 have hwr:wrap64 (r:Int)=(r:Int):=by unfold wrap64;omega
 have hwk:wrap64 2=2:=by unfold wrap64;omega
 have hm:=Mem.start w
 have HM:Hid (MaxL w):=hM
 clear hM hy
 go_enter Tryz.func5,Tryz.ntmps5
 go_wp2_with (first
  | (go_at_call 7;refine (aI _ (HM.out.below hm.below)).mono ?_;rintro e w1 ⟨he,hb⟩;subst he;replace hm:=hm.call hb;clear hb)
  | (go_at_call 8;refine (ce (9) (9) _).mono ?_;rintro e w2 ⟨nb,m,he,hwn,hwm,hn,hb⟩;subst he;have HB:Hid (Below w.heap.size w w2):=hm.below.trans (hb.mono hm.size);replace hwm:w.heap.size≤m:=Nat.le_trans hm.size hwm;have hm0:0<m:=Nat.lt_of_lt_of_le HM.out.lt0 hwm;have HN:Hid (NmAt w2 nb m 1 (chF 0)):=hn;have HM2:Hid (MaxL w2):=HM.out.below HB.out;clear hm;have hm:=Mem.start w2;clear hn hb hwn)
  | ((with_reducible refine aa (some 17) (.build 56 #[(0,.const (.string {data:=#[]})),(1,.const (.string {data:=#[97]})),(2,.const (.string {data:=#[97,47,97]}))]) ?_);refine ao [Value.string ⟨#[]⟩,Value.string ⟨#[97]⟩,Value.string ⟨#[97,47,97]⟩] [(0,.string ⟨#[]⟩),(1,.string ⟨#[97]⟩),(2,.string ⟨#[97,47,97]⟩)] rfl (cW _ _ _) ?_)
  | ((with_reducible refine aa (some 6) (.alloc 56) ?_);refine ad _ zero_s3 hm ?_;clear hm;intro w3 g6 hm)
  | ((with_reducible refine aa none (.store 56 (.tmp 6) (.tmp 17)) ?_);refine ae 0 [Value.string ⟨#[]⟩,Value.string ⟨#[97]⟩,Value.string ⟨#[97,47,97]⟩] hm rfl rfl rfl 3 sz_s3 rfl rfl (three_s _ _ _) ?_;clear hm;intro w4 hm))
 have HS:Hid (FuS w w2 w4 nb m (1) g6 (chF 0)):=⟨HB.out,hwm,hm.weak,HN.out.below hm.below,HM2.out,hm0⟩
 clear hm HB HN HM2 hwm hm0 HM
 go_loopw [8] (fun vi wr=>∃i:Nat,1≤i∧i≤3∧vi=.int .i64 (i:Int)∧Hid (FuS w w2 wr nb m (i) g6 (chF (i - 1)))) (fun vi _=>match vi with | .int _ q=>3 - q.toNat|_=>0)
 case atStart=>exact ⟨1,by omega,by omega,rfl,HS⟩
 case round =>
  clear HS
  obtain ⟨i,hi1,hi2,rfl,HS⟩:=hrel
  have hi:i=1∨i=2∨i=3:=by omega
  rcases hi with rfl|rfl|rfl
  ·go_wp2_with (first
    | ((with_reducible refine aa (some 29) (.load 9 (.tmp 28)) ?_);refine aE 0 1 (.string ⟨#[97]⟩) HS.out.mem rfl rfl aq rfl ?_)
    | (go_at_call 10;refine (aJ HS.out.names (by omega) ⟨#[97]⟩ (by decide) HS.out.ml 5 5 0 (chF 1) (fChain ⟨0,by omega⟩) rfl).mono ?_;rintro e w7 ⟨he,hn,hu⟩;subst he;replace HS:Hid (FuS w w2 w7 nb m (2) g6 (chF 1)):=HS.out.upd hn hu;clear hn hu))
   go_roundw
   case rel=>exact ⟨2,by omega,by omega,by first|rfl|go_num,HS⟩
   case measure=>first|decide|(show _<_;simp)
  ·go_wp2_with (first
    | ((with_reducible refine aa (some 29) (.load 9 (.tmp 28)) ?_);refine aE 0 2 (.string ⟨#[97,47,97]⟩) HS.out.mem rfl rfl aq rfl ?_)
    | (go_at_call 10;refine (aJ HS.out.names (by omega) ⟨#[97,47,97]⟩ (by decide) HS.out.ml 5 5 0 (chF 2) (fChain ⟨1,by omega⟩) rfl).mono ?_;rintro e w7 ⟨he,hn,hu⟩;subst he;replace HS:Hid (FuS w w2 w7 nb m (3) g6 (chF 2)):=HS.out.upd hn hu;clear hn hu))
   go_roundw
   case rel=>exact ⟨3,by omega,by omega,by first|rfl|go_num,HS⟩
   case measure=>first|decide|(show _<_;simp)
  ·go_wp2_with (first
    | ((with_reducible refine aa (some 34) (.load 9 (.tmp 33)) ?_);refine aE 0 2 (.string ⟨#[97,47,97]⟩) HS.out.mem rfl rfl aq rfl ?_)
    | ((with_reducible refine aa (some 36) (.binOp .neq 9 (.tmp 35) (.const (.string {data:=#[]})) 9) ?_);go_must (refine ab (.bool true) rfl (co ⟨#[97,47,97]⟩ ⟨#[]⟩ false rfl rfl (cw (by decide))) ?_))
    | ((with_reducible refine aa (some 38) (.binOp .add 9 (.tmp 37) (.const (.string {data:=#[47]})) 9) ?_);go_must (refine ab (.string ⟨#[97,47,97,47]⟩) rfl (an ⟨#[97,47,97]⟩ ⟨#[47]⟩ ⟨#[97,47,97,47]⟩ (by decide) rfl rfl (by decide)) ?_)))
   rename_i _ _ _
   go_loopw [10] (fun vi wr=>∃i:Nat,i≤r∧vi=.int .i64 (i:Int)∧Hid (FuS w w2 wr nb m (3+i) g6 (pF 2 (min i 2)))) (fun vi _=>match vi with | .int _ q=>r - q.toNat|_=>0)
   case atStart=>exact ⟨0,by omega,rfl,HS⟩
   case round =>
    clear HS
    obtain ⟨i,hi,rfl,HS⟩:=hrel
    by_cases hlt:i<r
    ·have hki:(i:Int)<(r:Int):=by omega
     have hi6:i<6:=by omega
     have hw:IntKind.i64.wrap ((i:Int)+1)=(i:Int)+1:=wrapi _ (by omega) (by omega)
     have hw1:IntKind.u8.wrap (i:Int)=(i:Int):=wrap8 (by omega)
     have hw2:IntKind.u8.wrap (98+(i:Int))=98+(i:Int):=wrap8 (by omega)
     obtain ⟨s1,hs1⟩:∃s,s=strOf [98+(i:Int)]:=⟨_,rfl⟩
     have HS1:Hid (∀_:Unit,Value.string (strOf [98+(i:Int)])=.string s1):=fun _=>by rw [hs1]
     obtain ⟨s2,hs2⟩:∃s,s=nmF 2 i:=⟨_,rfl⟩
     have HS2:Hid (∀_:Unit,s2=⟨#[97,47,97,47]⟩++s1∧(⟨#[97,47,97,47]⟩:ByteArray).size+s1.size≤1000000000):=fun _=>by
      rw [hs1,hs2,strOf1]
      exact ⟨rfl,by show _+1≤_;decide⟩
     have HSZ:Hid (∀_:Unit,s2.size≤1000):=fun _=>by rw [hs2];have:=(fSize ⟨2,by omega⟩ ⟨i,hi6⟩).1;exact Nat.le_trans this (by omega)
     have HAD:Hid (∀_:Unit,addE (pF 2 (min i 2)) s2 1 1=if i<2 then 0 else 102):=fun _=>by rw [hs2];exact fAdd ⟨2,by omega⟩ ⟨i,hi6⟩
     have HNX:Hid (∀_:Unit,(if (if i<2 then 0 else 102:Int)=0 then addN (pF 2 (min i 2)) (segsB s2,1,1,0,0,0,0) else pF 2 (min i 2))=pF 2 (min (i+1) 2)):=fun _=>by
      rw [hs2]
      by_cases h2:i<2
      ·rw [if_pos h2,if_pos rfl,show min i 2=i by omega,show min (i+1) 2=i+1 by omega];rfl
      ·rw [if_neg h2,if_neg (by omega),show min i 2=2 by omega,show min (i+1) 2=2 by omega]
     clear hs1 hs2
     have hm:=Mem.start wr
     by_cases h2:i<2
     ·have h2i:(i:Int)<2:=by omega
      have HAE:Hid (∀_:Unit,addE (pF 2 (min i 2)) s2 1 1=0):=fun _=>by rw [HAD.out (),if_pos h2]
      have HNX2:Hid (∀_:Unit,(if (0:Int)=0 then addN (pF 2 (min i 2)) (segsB s2,1,1,0,0,0,0) else pF 2 (min i 2))=pF 2 (min (i+1) 2)):=fun _=>by have:=HNX.out ();rw [if_pos h2] at this;exact this
      clear h2 HAD HNX
      go_wp2_with (first
       | ((with_reducible refine aa (some 51) (.buildSlice 57 1 #[(0,.tmp 50)]) ?_);go_must (refine aV rfl (.int .u8 0) (.int .u8 (98+(i:Int))) aX bu rfl rfl rfl hm ?_);clear hm;intro w6 g8 hb6 hm;clear hb6)
       | ((with_reducible refine aa (some 52) (.convert 57 9 (.tmp 51)) ?_);go_must (refine bl aX un_u8 a6 [98+(i:Int)] 1 (hm.get 0 rfl) rfl rfl ?_);rw [HS1.out ()])
       | ((with_reducible refine aa (some 53) (.binOp .add 9 (.tmp 47) (.tmp 52) 9) ?_);go_must (refine ab (.string s2) rfl (an ⟨#[97,47,97,47]⟩ s1 s2 (HS2.out ()).1 rfl rfl (HS2.out ()).2) ?_))
       | (go_at_call 10;refine (aJ (HS.out.more hm).names (by omega) s2 (HSZ.out ()) (HS.out.more hm).ml 1 1 0 (pF 2 (min (i+1) 2)) (HAE.out ()) (HNX2.out ())).mono ?_;rintro e w7 ⟨he,hn,hu⟩;subst he;replace HS:Hid (FuS w w2 w7 nb m (3+i+1) g6 (pF 2 (min (i+1) 2))):=(HS.out.more hm).upd hn hu;clear hn hu))
      go_roundw
      case rel=>exact ⟨i+1,by omega,by go_num,HS⟩
      case measure=>show r - ((i:Int)+1).toNat<r - (i:Int).toNat;omega
     ·have h2i:¬(i:Int)<2:=by omega
      have HAE:Hid (∀_:Unit,addE (pF 2 (min i 2)) s2 1 1=102):=fun _=>by rw [HAD.out (),if_neg h2]
      have HNX2:Hid (∀_:Unit,(if (102:Int)=0 then addN (pF 2 (min i 2)) (segsB s2,1,1,0,0,0,0) else pF 2 (min i 2))=pF 2 (min (i+1) 2)):=fun _=>by have:=HNX.out ();rw [if_neg h2] at this;exact this
      clear h2 HAD HNX
      go_wp2_with (first
       | ((with_reducible refine aa (some 51) (.buildSlice 57 1 #[(0,.tmp 50)]) ?_);go_must (refine aV rfl (.int .u8 0) (.int .u8 (98+(i:Int))) aX bu rfl rfl rfl hm ?_);clear hm;intro w6 g8 hb6 hm;clear hb6)
       | ((with_reducible refine aa (some 52) (.convert 57 9 (.tmp 51)) ?_);go_must (refine bl aX un_u8 a6 [98+(i:Int)] 1 (hm.get 0 rfl) rfl rfl ?_);rw [HS1.out ()])
       | ((with_reducible refine aa (some 53) (.binOp .add 9 (.tmp 47) (.tmp 52) 9) ?_);go_must (refine ab (.string s2) rfl (an ⟨#[97,47,97,47]⟩ s1 s2 (HS2.out ()).1 rfl rfl (HS2.out ()).2) ?_))
       | (go_at_call 10;refine (aJ (HS.out.more hm).names (by omega) s2 (HSZ.out ()) (HS.out.more hm).ml 1 1 102 (pF 2 (min (i+1) 2)) (HAE.out ()) (HNX2.out ())).mono ?_;rintro e w7 ⟨he,hn,hu⟩;subst he;replace HS:Hid (FuS w w2 w7 nb m (3+i+1) g6 (pF 2 (min (i+1) 2))):=(HS.out.more hm).upd hn hu;clear hn hu))
      go_roundw
      case rel=>exact ⟨i+1,by omega,by go_num,HS⟩
      case measure=>show r - ((i:Int)+1).toNat<r - (i:Int).toNat;omega
    ·have hir:i=r:=by omega
     subst hir
     clear hlt hi
     have hki:¬(i:Int)<(i:Int):=by omega
     by_cases h0:i=0
     ·subst h0
      go_wp2_with (first
       | ((with_reducible refine aa (some 74) (.load 9 (.tmp 73)) ?_);refine aE 0 2 (.string ⟨#[97,47,97]⟩) HS.out.mem rfl rfl aq rfl ?_)
       | (go_at_call 19;refine (bt HS.out.names (by omega) ⟨#[97,47,97]⟩ [] (fNone ⟨2,by omega⟩)).mono ?_;rintro e w7 ⟨v,he,⟨p9,c9,hv,_⟩,hb⟩;subst hv;subst he;have HF:Hid (Below w.heap.size w w7):=(HS.out.call hb).fin;clear hb))
      go_ret
      exact ⟨rfl,HF.out⟩
     ·have h0i:((i:Int)==0)=false:=by rw [beq_eq_false_iff_ne];omega
      by_cases h1:i=1
      ·subst h1
       clear h0
       replace HS:Hid (FuS w w2 wr nb m (3+1) g6 (pF 2 1)):=HS
       have HFR:=fRem ⟨2,by omega⟩ ⟨0,by omega⟩
       have HRM:Hid (remE (pF 2 1) ⟨#[97,47,97,47,98]⟩=0∧remL (pF 2 1) ⟨#[97,47,97,47,98]⟩ 0=[⟨#[97,47,97,47,98]⟩]∧(pF 2 1).length≤10):=HFR
       clear HFR
       go_wp2_with (first
        | ((with_reducible refine aa (some 81) (.binOp .add 9 (.tmp 80) (.const (.string {data:=#[98]})) 9) ?_);go_must (refine ab (.string ⟨#[97,47,97,47,98]⟩) rfl (an ⟨#[97,47,97,47]⟩ ⟨#[98]⟩ ⟨#[97,47,97,47,98]⟩ (by decide) rfl rfl (by decide)) ?_))
        | (go_at_call 12;refine (rem_k (HS.out.names) (by omega) (by have:=HRM.out.2.2;omega) ⟨#[97,47,97,47,98]⟩ (by decide) HS.out.ml 0 (pR 2 1) _ HRM.out.1 rfl HRM.out.2.1).mono ?_;rintro e w7 ⟨v,he,⟨p9,c9,hv,_⟩,hn,hu⟩;subst hv;subst he;replace HS:Hid (FuS w w2 w7 nb m (3+1) g6 (pR 2 1)):=HS.out.upd hn hu;clear hn hu)
        | ((with_reducible refine aj (some 95) (.binOp .add 9 (.tmp 94) (.const (.string {data:=#[122]})) 9) (some (7,true)) ?_);go_must (refine ab (.string ⟨#[97,47,97,47,122]⟩) rfl (an ⟨#[97,47,97,47]⟩ ⟨#[122]⟩ ⟨#[97,47,97,47,122]⟩ (by decide) rfl rfl (by decide)) ?_))
        | (go_at_call 10;refine (aJ HS.out.names (by omega) ⟨#[97,47,97,47,122]⟩ (by decide) HS.out.ml 1 1 0 (pZ 2 1) (fZ ⟨2,by omega⟩ ⟨0,by omega⟩) rfl).mono ?_;rintro e w8 ⟨he,hn,hu⟩;subst he;replace HS:Hid (FuS w w2 w8 nb m (3+1+1) g6 (pZ 2 1)):=HS.out.upd hn hu;clear hn hu)
        | ((with_reducible refine aj (some 103) (.load 9 (.tmp 102)) (some (14,true)) ?_);go_must (refine ab (.string ⟨#[97,47,97]⟩) rfl (af 2 (.string ⟨#[97,47,97]⟩) (HS.out.mem.get 0 rfl) rfl aq rfl) ?_))
        | (go_at_call 19;refine (bt HS.out.names (by omega) ⟨#[97,47,97]⟩ _ rfl).mono ?_;rintro e w9 ⟨v,he,⟨p8,c8,hv,_⟩,hb⟩;subst hv;subst he;have HLN:(kidsN (pZ 2 1) ⟨#[97,47,97]⟩).length=1:=fKids ⟨2,by omega⟩ ⟨0,by omega⟩;rw [HLN];clear HLN;have HF:Hid (Below w.heap.size w w9):=(HS.out.call hb).fin;clear hb))
       go_ret
       exact ⟨rfl,HF.out⟩
      ·have hmn:min (i:Int) 2=2:=by omega
       have HMN:Hid (∀_:Unit,min i 2=2):=fun _=>by omega
       replace HS:Hid (FuS w w2 wr nb m (3+i) g6 (pF 2 2)):=by have h9:=HS.out;rw [HMN.out ()] at h9;exact h9
       clear h0 h1 HMN
       have HFR:=fRem ⟨2,by omega⟩ ⟨1,by omega⟩
       have HRM:Hid (remE (pF 2 2) ⟨#[97,47,97,47,98]⟩=0∧remL (pF 2 2) ⟨#[97,47,97,47,98]⟩ 0=[⟨#[97,47,97,47,98]⟩]∧(pF 2 2).length≤10):=HFR
       clear HFR
       go_wp2_with (first
        | ((with_reducible refine aa (some 81) (.binOp .add 9 (.tmp 80) (.const (.string {data:=#[98]})) 9) ?_);go_must (refine ab (.string ⟨#[97,47,97,47,98]⟩) rfl (an ⟨#[97,47,97,47]⟩ ⟨#[98]⟩ ⟨#[97,47,97,47,98]⟩ (by decide) rfl rfl (by decide)) ?_))
        | (go_at_call 12;refine (rem_k (HS.out.names) (by omega) (by have:=HRM.out.2.2;omega) ⟨#[97,47,97,47,98]⟩ (by decide) HS.out.ml 0 (pR 2 2) _ HRM.out.1 rfl HRM.out.2.1).mono ?_;rintro e w7 ⟨v,he,⟨p9,c9,hv,_⟩,hn,hu⟩;subst hv;subst he;replace HS:Hid (FuS w w2 w7 nb m (3+i) g6 (pR 2 2)):=HS.out.upd hn hu;clear hn hu)
        | ((with_reducible refine aj (some 95) (.binOp .add 9 (.tmp 94) (.const (.string {data:=#[122]})) 9) (some (7,true)) ?_);go_must (refine ab (.string ⟨#[97,47,97,47,122]⟩) rfl (an ⟨#[97,47,97,47]⟩ ⟨#[122]⟩ ⟨#[97,47,97,47,122]⟩ (by decide) rfl rfl (by decide)) ?_))
        | (go_at_call 10;refine (aJ HS.out.names (by omega) ⟨#[97,47,97,47,122]⟩ (by decide) HS.out.ml 1 1 0 (pZ 2 2) (fZ ⟨2,by omega⟩ ⟨1,by omega⟩) rfl).mono ?_;rintro e w8 ⟨he,hn,hu⟩;subst he;replace HS:Hid (FuS w w2 w8 nb m (3+i+1) g6 (pZ 2 2)):=HS.out.upd hn hu;clear hn hu)
        | ((with_reducible refine aj (some 103) (.load 9 (.tmp 102)) (some (14,true)) ?_);go_must (refine ab (.string ⟨#[97,47,97]⟩) rfl (af 2 (.string ⟨#[97,47,97]⟩) (HS.out.mem.get 0 rfl) rfl aq rfl) ?_))
        | (go_at_call 19;refine (bt HS.out.names (by omega) ⟨#[97,47,97]⟩ _ rfl).mono ?_;rintro e w9 ⟨v,he,⟨p8,c8,hv,_⟩,hb⟩;subst hv;subst he;have HLN:(kidsN (pZ 2 2) ⟨#[97,47,97]⟩).length=2:=fKids ⟨2,by omega⟩ ⟨1,by omega⟩;rw [HLN];clear HLN;have HF:Hid (Below w.heap.size w w9):=(HS.out.call hb).fin;clear hb))
       go_ret
       exact ⟨rfl,HF.out⟩
open Go Go.RowKit Go.Maps
theorem nfull_walk (x y:Int) (hx:0≤x∧x≤255) (hy:0≤y∧y≤255) (w:World) (hM:MaxL w):Calls Tryz.prog 5 #[.int .u8 x,.int .u8 y] w fun e w'=>e=.returned (.bool true)∧Below w.heap.size w w':=by
 have h:x.tmod 3=0∨x.tmod 3=1∨x.tmod 3=2:=by
  rw [Int.tmod_eq_emod_of_nonneg hx.1]
  omega
 rcases h with h|h|h
 ·exact nfull_0 x y hy h w hM
 ·exact nfull_1 x y hy h w hM
 ·exact nfull_2 x y hy h w hM
end Go.Proofs.YtabncjcfpkhhnaaGreatDoor
