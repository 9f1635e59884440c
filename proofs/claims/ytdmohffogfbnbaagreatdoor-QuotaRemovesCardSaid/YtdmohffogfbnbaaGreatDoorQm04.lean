import Derived.Test.YtdmohffogfbnbaaGreatDoorQm03
import Derived.Test.YtdmohffogfbnbaaGreatDoorCards
import Derived.Test.YtdmohffogfbnbaaGreatDoorTie
import Derived.ProofKit
import Derived.OpenShut
import Derived.ChangeOld
import Derived.ChangeMaps5
import Derived.Deep.DeepHandedRow
import Derived.Deep.Slices
import Derived.Shelf.Vars
import Derived.Lay
import Derived.Laws.Strings3
import Derived.Test.YtdmohffogfbnbaaGreatDoorQm01
import Derived.Laws.StructEq
import Derived.DeepKeys4
set_option maxRecDepth 100000
set_option maxHeartbeats 4000000
namespace Go.Proofs.YtdmohffogfbnbaaGreatDoor
open Go Go.RowKit Go.Maps
theorem is_any (s:ByteArray) (w:World) (hs:s.size≤1000) (hM:MaxL w) :
  Calls Tryz.prog 58 #[.string s] w fun e w'=>e=.returned (.bool (isP (bs s)))∧Below w.heap.size w w':=by
 have hm:=Mem.start w
 have HM:Hid (MaxL w):=hM
 clear hM
 go_enter Tryz.func58,Tryz.ntmps58
 go_wp2_with (first
  | (go_at_call 49;refine (bj s _ hs (HM.out.below hm.below)).mono ?_;rintro e w' ⟨he,hb⟩;subst he;replace hm:=hm.call hb;clear hb)
  | ((with_reducible refine aa (some 3) (.alloc 93) ?_);refine ad _ aH hm ?_;clear hm;intro w2 g3 hm)
  | ((with_reducible refine aa none (.store 93 (.tmp 3) (.tmp 8)) ?_);refine af 0 (plv (segsB s)) hm rfl rfl rfl 3 av rfl rfl (by intro v hv;simp [plv] at hv;rcases hv with rfl|rfl|rfl<;>rfl) ?_;clear hm;intro w3 hm))
 go_ret
 exact ⟨rfl,hm.below⟩
theorem da (s:ByteArray) (w:World) (hs:s.size≤1000) (hM:MaxL w) :
  Calls Tryz.prog 57 #[.string s] w fun e w'=>∃v,e=.returned v∧w'.ownsRow w.heap.size 9 1 v (segsB s).length (strs (segsB s))∧Below w.heap.size w w':=by
 have hm:=Mem.start w
 have HM:Hid (MaxL w):=hM
 clear hM
 have HK:Hid (∀_:Unit,PlOk (segsB s)):=fun _=>aS s
 go_enter Tryz.func57,Tryz.ntmps57
 go_wp2_with (first
  | (go_at_call 49;refine (bj s _ hs (HM.out.below hm.below)).mono ?_;rintro e w' ⟨he,hb⟩;subst he;replace hm:=hm.call hb;clear hb)
  | ((with_reducible refine aa (some 3) (.alloc 93) ?_);refine ad _ aH hm ?_;clear hm;intro w2 g3 hm)
  | ((with_reducible refine aa none (.store 93 (.tmp 3) (.tmp 8)) ?_);refine af 0 (plv (segsB s)) hm rfl rfl rfl 3 av rfl rfl (by intro v hv;simp [plv] at hv;rcases hv with rfl|rfl|rfl<;>rfl) ?_;clear hm;intro w3 hm)
  | ((with_reducible refine aa (some 10) (.load 93 (.tmp 3)) ?_);refine aj 0 hm rfl rfl _ aJ rfl 3 av (by rfl) ?_)
  | (go_at_call 69;refine (bZ (HK.out ()) _).mono ?_;rintro e w' ⟨v,he,ho,hb⟩;subst he;have HO:Hid (w'.ownsRow w.heap.size 9 1 v (segsB s).length (strs (segsB s))):=cP hm.size ho;clear ho;replace hm:=hm.call hb;clear hb))
 go_ret
 exact ⟨_,rfl,HO.out,hm.below⟩
theorem joinP_any (xs:List ByteArray) (v:Value) (w:World) (hv:SlS w v xs) :
  Calls Tryz.prog 59 #[v] w fun e w'=>e=.returned (.string (mkS (jn 47 ((plOf xs).map bs))))∧Below w.heap.size w w':=by
 have hm:=Mem.start w
 have HV:Hid (SlS w v xs):=hv
 clear hv
 go_enter Tryz.func59,Tryz.ntmps59
 go_wp2_with (first
  | (go_at_call 65;refine (de xs v _ (SlV.below HV.out hm.below)).mono ?_;rintro e w' ⟨he,hb⟩;subst he;replace hm:=hm.call hb;clear hb)
  | ((with_reducible refine aa (some 3) (.alloc 93) ?_);refine ad _ aH hm ?_;clear hm;intro w2 g3 hm)
  | ((with_reducible refine aa none (.store 93 (.tmp 3) (.tmp 8)) ?_);refine af 0 (plv (plOf xs)) hm rfl rfl rfl 3 av rfl rfl (by intro v hv;simp [plv] at hv;rcases hv with rfl|rfl|rfl<;>rfl) ?_;clear hm;intro w3 hm)
  | ((with_reducible refine aa (some 10) (.load 93 (.tmp 3)) ?_);refine aj 0 hm rfl rfl _ aJ rfl 3 av (by rfl) ?_)
  | (go_at_call 52;refine (text_any (plOf_ok xs) _).mono ?_;rintro e w' ⟨he,hb⟩;subst he;replace hm:=hm.call hb;clear hb))
 go_ret
 exact ⟨rfl,hm.below⟩
section
variable {P:Program} {a:Act} {w:World} {dst:Option Tmp} {typ:TypeId} {pos:String} {aft:Array Edge} {gd:Option (Nat×Bool)}
theorem dE (x y:List UInt8):mkS x++mkS y=mkS (x++y):=by
 apply ByteArray.ext
 simp [mkS]
theorem exec_addB {t:TypeId} {x y:Operand} {rt:TypeId} (s s' r:ByteArray) (hr:r=s++s') (hx:a.eval x=.string s) (hy:a.eval y=.string s') (hl:s.size+s'.size≤1000000000) :
  (execOp a.eval {dst:=dst,op:=.binOp .add t x y rt,type:=typ,pos:=pos,after:=aft,guard:=gd}).run P w=.ok (.value (.string r)) w:=by
 subst hr
 unfold execOp
 simp only [hx,hy]
 simp [eqGuard,binOp,Op.stringOp]
 omega
end
def cdk (ks:List ByteArray) (k:Nat):List UInt8:=codeOf ((ks.take k).map bs)
theorem code_next {ks:List ByteArray} {k:Nat} (hk:k<ks.length):cdk ks (k+1)=cdk ks k++(bs (ks.getD k noStr)++[0]):=by
 unfold cdk
 have e:ks[k]?=some (ks.getD k noStr):=by simp [hk]
 rw [List.take_add_one,e,List.map_append,ct]
 simp [codeOf]
theorem code_bound {ks:List ByteArray} (h:PlOk ks) (k:Nat):(cdk ks k).length≤40:=by
 unfold cdk
 have h2:=bK h k
 have:=codeOf_len (ks:=(ks.take k).map bs) (fun x hx=>by obtain ⟨y,hy,rfl⟩:=List.mem_map.1 hx;rw [aZ];exact (h2.size hy).2)
 have:=h2.len
 simp at *
 omega
theorem code_any (s:ByteArray) (w:World) (hs:s.size≤1000) (hM:MaxL w) :
  Calls Tryz.prog 79 #[.string s] w fun e w'=>e=.returned (.string (mkS (codeOf (segsOf (bs s)))))∧Below w.heap.size w w':=by
 have hm:=Mem.start w
 have HM:Hid (MaxL w):=hM
 clear hM
 obtain ⟨ks,hks⟩:∃ks,ks=segsB s:=⟨_,rfl⟩
 have HK:Hid (∀_:Unit,PlOk ks):=fun _=>by rw [hks];exact aS s
 have HR:Hid (∀_:Unit,codeOf (segsOf (bs s))=codeOf (ks.map bs)):=fun _=>by rw [hks,bR]
 obtain ⟨n,hn⟩:∃n,n=ks.length:=⟨_,rfl⟩
 have HN:Hid (∀_:Unit,ks.length=n):=fun _=>hn.symm
 have hn3:n≤3:=by rw [hn];exact (HK.out ()).len
 have HPL:Hid (∀W,MaxL W→Calls Tryz.prog 49 #[.string s] W fun e w'=>e=.returned (.tuple #[.agg (plv ks).toArray,.bool (isP (bs s))])∧Below W.heap.size W w'):=fun W hW=>by rw [hks];exact bj s W hs hW
 clear hks hn hs
 go_enter Tryz.func79,Tryz.ntmps79
 go_wp2_with (first
  | (go_at_call 49;refine (HPL.out _ (HM.out.below hm.below)).mono ?_;rintro e w' ⟨he,hb⟩;subst he;replace hm:=hm.call hb;clear hb)
  | ((with_reducible refine aa (some 3) (.alloc 93) ?_);refine ad _ aH hm ?_;clear hm;intro w2 g3 hm)
  | ((with_reducible refine aa none (.store 93 (.tmp 3) (.tmp 11)) ?_);refine af 0 (plv ks) hm rfl rfl rfl 3 av rfl rfl (by intro v hv;simp [plv] at hv;rcases hv with rfl|rfl|rfl<;>rfl) ?_;clear hm;intro w3 hm)
  | ((with_reducible refine aa (some 13) (.load 93 (.tmp 3)) ?_);refine aj 0 hm rfl rfl _ aJ rfl 3 av (by rfl) ?_)
  | (go_at_call 69;refine (bZ (HK.out ()) _).mono ?_;rintro e w9 ⟨v,he,ho,hb⟩;subst he;have HO0:Hid (SlS w9 v ks):=own_sl ho;obtain ⟨p,cap,hv,hcap⟩:=SlV.len (own_sl ho);subst hv;have HO:Hid (SlS w9 (.slice p n cap) ks):=by {have h9:=HO0.out;rw [HN.out ()] at h9;exact h9};rw [HN.out ()];clear ho HO0 hcap;replace hm:=hm.call hb;clear hb))
 go_loopw [16,5] (fun vi vc wr=>∃k:Nat,k≤n∧vi=.int .i64 (k:Int)∧vc=.string (mkS (cdk ks k))∧Hid (Below w9.heap.size w9 wr)) (fun vi _ _=>n - (intOf vi).toNat)
 case atStart=>exact ⟨0,by omega,rfl,rfl,Below.refl _ _⟩
 case round =>
  obtain ⟨k,hk,rfl,rfl,HB⟩:=hrel
  by_cases hlt:k<n
  ·have hki:(k:Int)<(n:Int):=by omega
   obtain ⟨b,off,hp⟩:=SlS.at HO.out (HN.out ()) (by omega)
   subst hp
   obtain ⟨x,hx⟩:∃x,x=ks.getD k noStr:=⟨_,rfl⟩
   have HC:Hid (wr.cell? ⟨b,off+k,none⟩=some (.string x)):=by
    rw [hx]
    exact SlS.cells (HN.out ()) (SlV.below HO.out HB.out) k hlt
   obtain ⟨c1,hc1⟩:∃c,c=mkS (cdk ks k):=⟨_,rfl⟩
   obtain ⟨c2,hc2⟩:∃c,c=x++mkS [0]:=⟨_,rfl⟩
   obtain ⟨c3,hc3⟩:∃c,c=c1++c2:=⟨_,rfl⟩
   have hxz:x.size≤10:=by
    rw [hx,List.getD_eq_getElem?_getD,List.getElem?_eq_getElem (by rw [HN.out ()];exact hlt)]
    exact ((HK.out ()).size (List.getElem_mem _)).2
   have HZ1:Hid (∀_:Unit,x.size+(mkS [0]).size≤1000000000):=fun _=>by rw [ce];simp;omega
   have HZ2:Hid (∀_:Unit,c1.size+c2.size≤1000000000):=fun _=>by
    have:=code_bound (HK.out ()) k
    rw [hc1,hc2,ce,ByteArray.size_append,ce];simp;omega
   have HC2:Hid (∀_:Unit,c2=x++mkS [0]):=fun _=>hc2
   have HC3:Hid (∀_:Unit,c3=c1++c2):=fun _=>hc3
   have HE:Hid (∀_:Unit,c3=mkS (cdk ks (k+1))):=fun _=>by
    rw [hc3,hc2,hc1,code_next (by rw [HN.out ()];exact hlt),←hx,←dE,←dE,cT]
   rw [←hc1]
   clear hc1 hc2 hc3 hx hxz
   go_wp2_with (first
    | ((with_reducible refine aa (some 19) (.load 9 (.tmp 18)) ?_);go_must (refine ab (.string x) rfl (cM (.string x) (HC.out) rfl aC) ?_))
    | ((with_reducible refine aa (some 22) (.binOp .add 9 (.tmp 21) (.const (.string {data:=#[0]})) 9) ?_);go_must (refine ab (.string c2) rfl (exec_addB x (mkS [0]) c2 (HC2.out ()) rfl rfl (HZ1.out ())) ?_))
    | ((with_reducible refine aa (some 23) (.binOp .add 9 (.tmp 20) (.tmp 22) 9) ?_);go_must (refine ab (.string c3) rfl (exec_addB c1 c2 c3 (HC3.out ()) rfl rfl (HZ2.out ())) ?_)))
   go_roundw
   case rel=>exact ⟨k+1,by omega,by go_num,by rw [HE.out ()],HB.out⟩
   case measure=>simp [intOf];omega
  ·have hki:¬(k:Int)<(n:Int):=by omega
   have HE:Hid (∀_:Unit,cdk ks k=codeOf (ks.map bs)):=fun _=>by rw [cdk,List.take_of_length_le (by rw [HN.out ()];omega)]
   go_wp2_with fail
   go_ret
   refine ⟨?_,(hm.call HB.out).below⟩
   rw [HR.out (),HE.out ()]
   rfl
open Go Go.RowKit Go.Maps
def parOk (l:List UInt8):Bool:=isP l && !l.isEmpty
def parOf (l:List UInt8):List UInt8:=if parOk l then jn 47 (segsOf l).dropLast else []
theorem parOk_no {l:List UInt8} (h:isP l=false):parOk l=false∧parOf l=[]:=by simp [parOf,parOk,h]
theorem parOk_nil {l:List UInt8} (h:segsOf l=[]):parOk l=false∧parOf l=[]:=by
 have:parOk l=false:=by
  cases hi:isP l with
  | false=>exact (parOk_no hi).1
  | true =>
   by_cases h0:l=[]
   ·subst h0;rfl
   ·exact absurd h (segsOf_ne hi h0)
 exact ⟨this,by simp [parOf,this]⟩
theorem parOk_yes {l:List UInt8} (hi:isP l=true) (h:segsOf l≠[]):parOk l=true∧parOf l=jn 47 (segsOf l).dropLast:=by
 have h0:l.isEmpty=false:=by
  cases l with
  | nil=>exact absurd rfl h
  | cons _ _=>rfl
 have:parOk l=true:=by simp [parOk,hi,h0]
 exact ⟨this,by simp [parOf,this]⟩
theorem parentP_any (s:ByteArray) (w:World) (hs:s.size≤1000) (hM:MaxL w) :
  Calls Tryz.prog 25 #[.string s] w fun e w'=>e=.returned (.tuple #[.string (mkS (parOf (bs s))),.bool (parOk (bs s))])∧Below w.heap.size w w':=by
 have hm:=Mem.start w
 have HM:Hid (MaxL w):=hM
 clear hM
 obtain ⟨ks,hks⟩:∃ks,ks=segsB s:=⟨_,rfl⟩
 obtain ⟨r,hr⟩:∃r,r=isP (bs s):=⟨_,rfl⟩
 have HK:Hid (∀_:Unit,PlOk ks):=fun _=>by rw [hks];exact aS s
 have HKS:Hid (∀_:Unit,segsOf (bs s)=ks.map bs):=fun _=>by rw [hks,bR]
 have HRR:Hid (∀_:Unit,isP (bs s)=r):=fun _=>hr.symm
 have HPL:Hid (∀W,MaxL W→Calls Tryz.prog 49 #[.string s] W fun e w'=>e=.returned (.tuple #[.agg (plv ks).toArray,.bool r])∧Below W.heap.size W w'):=fun W hW=>by rw [hks,hr];exact bj s W hs hW
 clear hks hr hs
 cases r with
 | false =>
  have HP:=parOk_no (HRR.out ())
  have HP1:Hid (∀_:Unit,parOk (bs s)=false∧parOf (bs s)=[]):=fun _=>HP
  clear HP
  go_enter Tryz.func25,Tryz.ntmps25
  go_wp2_with (first
   | (go_at_call 49;refine (HPL.out _ (HM.out.below hm.below)).mono ?_;rintro e w' ⟨he,hb⟩;subst he;replace hm:=hm.call hb;clear hb)
   | ((with_reducible refine aa (some 4) (.alloc 93) ?_);refine ad _ aH hm ?_;clear hm;intro w2 g4 hm)
   | ((with_reducible refine aa none (.store 93 (.tmp 4) (.tmp 9)) ?_);refine af 0 (plv ks) hm rfl rfl rfl 3 av rfl rfl (by intro v hv;simp [plv] at hv;rcases hv with rfl|rfl|rfl<;>rfl) ?_;clear hm;intro w3 hm))
  refine ak ?_
  refine ag (T:=fun W=>Mem w [] W [(g4,plv ks,93)]) (by kernel_rfl) hm ?_
  intro wc hbw hmw
  replace hm:Mem w [] wc [(g4,plv ks,93)]:=hmw
  clear hbw hmw
  refine aT 0 (v:=.bool false) rfl (by kernel_rfl) rfl (fun W _=>by go_simp) hm ?_
  go_simp
  refine aT 1 (v:=.bool true) rfl (by kernel_rfl) rfl (fun W _=>by go_simp) hm ?_
  go_simp
  refine aT 2 (v:=.bool true) rfl (by kernel_rfl) rfl (fun W _=>by go_simp) hm ?_
  go_simp
  refine aQ 3 rfl (by kernel_rfl) (by kernel_rfl) (by kernel_rfl) rfl hm ?_
  go_simp
  refine aQ 4 rfl (by kernel_rfl) (by kernel_rfl) (by kernel_rfl) rfl hm ?_
  go_simp
  refine aQ 5 rfl (by kernel_rfl) (by kernel_rfl) (by kernel_rfl) rfl hm ?_
  go_simp
  refine aT 6 (v:=.bool true) rfl (by kernel_rfl) rfl (fun W _=>by go_simp) hm ?_
  go_simp
  refine wpAnyH_done (by kernel_rfl) ?_ _
  simp only [endsIn]
  go_wp2_with fail
  go_ret2
  exact ⟨by rw [(HP1.out ()).1,(HP1.out ()).2];rfl,hm.below⟩
 | true =>
  by_cases h0:ks=[]
  ·have HP1:Hid (∀_:Unit,parOk (bs s)=false∧parOf (bs s)=[]):=fun _=>parOk_nil (by rw [HKS.out (),h0];rfl)
   have HEQ:Hid (∀_:Unit,true=decide (ks=[])):=fun _=>by simp [h0]
   clear h0
   go_enter Tryz.func25,Tryz.ntmps25
   go_wp2_with (first
    | (go_at_call 49;refine (HPL.out _ (HM.out.below hm.below)).mono ?_;rintro e w' ⟨he,hb⟩;subst he;replace hm:=hm.call hb;clear hb)
    | ((with_reducible refine aa (some 4) (.alloc 93) ?_);refine ad _ aH hm ?_;clear hm;intro w2 g4 hm)
    | ((with_reducible refine aa none (.store 93 (.tmp 4) (.tmp 9)) ?_);refine af 0 (plv ks) hm rfl rfl rfl 3 av rfl rfl (by intro v hv;simp [plv] at hv;rcases hv with rfl|rfl|rfl<;>rfl) ?_;clear hm;intro w3 hm))
   refine ak ?_
   refine ag (T:=fun W=>Mem w [] W [(g4,plv ks,93)]) (by kernel_rfl) hm ?_
   intro wc hbw hmw
   replace hm:Mem w [] wc [(g4,plv ks,93)]:=hmw
   clear hbw hmw
   refine aT 0 (v:=.bool true) rfl (by kernel_rfl) rfl (fun W _=>by go_simp) hm ?_
   go_simp
   refine aT 1 (v:=.bool false) rfl (by kernel_rfl) rfl (fun W _=>by go_simp) hm ?_
   go_simp
   refine aT 2 (v:=.bool false) rfl (by kernel_rfl) rfl (fun W _=>by go_simp) hm ?_
   go_simp
   refine aG 3 (v:=.agg (plv ks).toArray) rfl (by kernel_rfl) rfl (fun W hW=>ai 0 (plv ks) (Mem.get hW 0 rfl) rfl _ aJ rfl 3 av (Nat.le_refl 3) rfl) hm ?_
   go_simp
   refine aO 4 (by kernel_rfl) rfl rfl ?_
   intro K hK
   go_wp2_with (go_at_call 50;refine (bf _).mono ?_;rintro e w' ⟨he,hb⟩;subst he;replace hm:=hm.call hb;clear hb)
   refine hK _ _ hm ?_
   clear hK K
   go_simp
   refine aG 5 (v:=.bool true) rfl (by kernel_rfl) rfl (fun W _=>exec_eqP (HK.out ()) PlOk.nil true (HEQ.out ()) rfl rfl) hm ?_
   go_simp
   refine aT 6 (v:=.bool true) rfl (by kernel_rfl) rfl (fun W _=>by go_simp) hm ?_
   go_simp
   refine wpAnyH_done (by kernel_rfl) ?_ _
   simp only [endsIn]
   go_wp2_with fail
   go_ret2
   exact ⟨by rw [(HP1.out ()).1,(HP1.out ()).2];rfl,hm.below⟩
  ·have HP1:Hid (∀_:Unit,parOk (bs s)=true∧parOf (bs s)=jn 47 (ks.dropLast.map bs)):=fun _=>by
    have:=parOk_yes (HRR.out ()) (by rw [HKS.out ()];simpa using h0)
    rw [HKS.out (),←List.map_dropLast] at this
    exact this
   have HEQ:Hid (∀_:Unit,false=decide (ks=[])):=fun _=>by simp [h0]
   have HTX:Hid (∀W,Calls Tryz.prog 52 #[.agg (plv ks.dropLast).toArray] W fun e w'=>e=.returned (.string (mkS (parOf (bs s))))∧Below W.heap.size W w'):=fun W=>by rw [(HP1.out ()).2];exact text_any ((HK.out ()).drop) W
   clear h0
   go_enter Tryz.func25,Tryz.ntmps25
   go_wp2_with (first
    | (go_at_call 49;refine (HPL.out _ (HM.out.below hm.below)).mono ?_;rintro e w' ⟨he,hb⟩;subst he;replace hm:=hm.call hb;clear hb)
    | ((with_reducible refine aa (some 4) (.alloc 93) ?_);refine ad _ aH hm ?_;clear hm;intro w2 g4 hm)
    | ((with_reducible refine aa none (.store 93 (.tmp 4) (.tmp 9)) ?_);refine af 0 (plv ks) hm rfl rfl rfl 3 av rfl rfl (by intro v hv;simp [plv] at hv;rcases hv with rfl|rfl|rfl<;>rfl) ?_;clear hm;intro w3 hm))
   refine ak ?_
   refine ag (T:=fun W=>Mem w [] W [(g4,plv ks,93)]) (by kernel_rfl) hm ?_
   intro wc hbw hmw
   replace hm:Mem w [] wc [(g4,plv ks,93)]:=hmw
   clear hbw hmw
   refine aT 0 (v:=.bool true) rfl (by kernel_rfl) rfl (fun W _=>by go_simp) hm ?_
   go_simp
   refine aT 1 (v:=.bool false) rfl (by kernel_rfl) rfl (fun W _=>by go_simp) hm ?_
   go_simp
   refine aT 2 (v:=.bool false) rfl (by kernel_rfl) rfl (fun W _=>by go_simp) hm ?_
   go_simp
   refine aG 3 (v:=.agg (plv ks).toArray) rfl (by kernel_rfl) rfl (fun W hW=>ai 0 (plv ks) (Mem.get hW 0 rfl) rfl _ aJ rfl 3 av (Nat.le_refl 3) rfl) hm ?_
   go_simp
   refine aO 4 (by kernel_rfl) rfl rfl ?_
   intro K hK
   go_wp2_with (go_at_call 50;refine (bf _).mono ?_;rintro e w' ⟨he,hb⟩;subst he;replace hm:=hm.call hb;clear hb)
   refine hK _ _ hm ?_
   clear hK K
   go_simp
   refine aG 5 (v:=.bool false) rfl (by kernel_rfl) rfl (fun W _=>exec_eqP (HK.out ()) PlOk.nil false (HEQ.out ()) rfl rfl) hm ?_
   go_simp
   refine aT 6 (v:=.bool false) rfl (by kernel_rfl) rfl (fun W _=>by go_simp) hm ?_
   go_simp
   refine wpAnyH_done (by kernel_rfl) ?_ _
   simp only [endsIn]
   go_wp2_with (first
    | ((with_reducible refine aa (some 18) (.load 93 (.tmp 4)) ?_);refine aj 0 hm rfl rfl _ aJ rfl 3 av (by rfl) ?_)
    | (go_at_call 51;refine (dA (HK.out ()) _).mono ?_;rintro e w' ⟨he,hb⟩;subst he;replace hm:=hm.call hb;clear hb)
    | (go_at_call 52;refine (HTX.out _).mono ?_;rintro e w' ⟨he,hb⟩;subst he;replace hm:=hm.call hb;clear hb))
   go_ret2
   exact ⟨by rw [(HP1.out ()).1];rfl,hm.below⟩
def undOf (a b:List UInt8):Bool:=isP a&&(isP b&&(segsOf b).isPrefixOf (segsOf a))
theorem abv_iff {ka kb:List ByteArray} (ha:PlOk ka) (hb:PlOk kb):(∃v,abv ka 0 (.agg (plv kb).toArray) v)↔(kb.map bs).isPrefixOf (ka.map bs)=true:=by
 rw [List.isPrefixOf_iff_prefix]
 constructor
 ·rintro ⟨v,_,n,_,hn,he⟩
  rw [plvA_inj hb (bK ha n) he,List.map_take]
  exact List.take_prefix _ _
 ·intro h
  have e:=List.prefix_iff_eq_take.1 h
  have hl:=h.length_le
  simp only [List.length_map] at e hl
  refine ⟨unitV,rfl,kb.length,by omega,hl,?_⟩
  have e2:kb=ka.take kb.length:=by
   have:=congrArg (List.map mkS) e
   rw [ba,←List.map_take,ba] at this
   exact this
  rw [←e2]
theorem look_abv {w:World} {m q:Nat} {ka kb:List ByteArray} (ha:PlOk ka) (hb:PlOk kb) (h:KM Tryz.prog 93 w m q (abv ka 0)) (r:Bool) (hr:r=(kb.map bs).isPrefixOf (ka.map bs)) :
  (Instr.lookup 114 (.map (some m)) (.agg (plv kb).toArray) true).run Tryz.prog w=.ok (.tuple #[unitV,.bool r]) w:=by
 obtain ⟨kl,hkl⟩:=pl_key hb
 have hi:=abv_iff ha hb
 cases r with
 | true =>
  obtain ⟨v,hv⟩:=hi.2 hr.symm
  have hv2:=hv.1
  subst hv2
  exact h.look pl_law un_set (zero_unit w) hkl hv
 | false =>
  refine h.lookNo pl_law un_set (zero_unit w) hkl (fun v hv=>?_)
  rw [hi.1 ⟨v,hv⟩] at hr
  cases hr
theorem cY (a b:ByteArray) (w:World) (ha:a.size≤1000) (hb:b.size≤1000) (hM:MaxL w) :
  Calls Tryz.prog 56 #[.string a,.string b] w fun e w'=>e=.returned (.bool (undOf (bs a) (bs b)))∧Below w.heap.size w w':=by
 have hm:=Mem.start w
 have HM:Hid (MaxL w):=hM
 clear hM
 obtain ⟨ka,hka⟩:∃ks,ks=segsB a:=⟨_,rfl⟩
 obtain ⟨kb,hkb⟩:∃ks,ks=segsB b:=⟨_,rfl⟩
 obtain ⟨ra,hra⟩:∃r,r=isP (bs a):=⟨_,rfl⟩
 obtain ⟨rb,hrb⟩:∃r,r=isP (bs b):=⟨_,rfl⟩
 obtain ⟨rr,hrr⟩:∃r,r=(kb.map bs).isPrefixOf (ka.map bs):=⟨_,rfl⟩
 have HKA:Hid (∀_:Unit,PlOk ka):=fun _=>by rw [hka];exact aS a
 have HKB:Hid (∀_:Unit,PlOk kb):=fun _=>by rw [hkb];exact aS b
 have HU:Hid (∀_:Unit,undOf (bs a) (bs b)=(ra&&(rb&&rr))):=fun _=>by rw [undOf,hra,hrb,hrr,hka,hkb,bR,bR]
 have HRR:Hid (∀_:Unit,rr=(kb.map bs).isPrefixOf (ka.map bs)):=fun _=>hrr
 have HPA:Hid (∀W,MaxL W→Calls Tryz.prog 49 #[.string a] W fun e w'=>e=.returned (.tuple #[.agg (plv ka).toArray,.bool ra])∧Below W.heap.size W w'):=fun W hW=>by rw [hka,hra];exact bj a W ha hW
 have HPB:Hid (∀W,MaxL W→Calls Tryz.prog 49 #[.string b] W fun e w'=>e=.returned (.tuple #[.agg (plv kb).toArray,.bool rb])∧Below W.heap.size W w'):=fun W hW=>by rw [hkb,hrb];exact bj b W hb hW
 clear hka hkb hra hrb hrr ha hb
 have tk1:Nat:=0
 cases ra with
 | false =>
  go_enter Tryz.func56,Tryz.ntmps56
  go_wp2_with (first
   | (go_at_call 49;clear tk1;refine (HPA.out _ (HM.out.below hm.below)).mono ?_;rintro e w' ⟨he,hb⟩;subst he;replace hm:=hm.call hb;clear hb)
   | (go_at_call 49;refine (HPB.out _ (HM.out.below hm.below)).mono ?_;rintro e w' ⟨he,hb⟩;subst he;replace hm:=hm.call hb;clear hb)
   | ((with_reducible refine aa (some 5) (.alloc 93) ?_);refine ad _ aH hm ?_;clear hm;intro w2 g5 hm)
   | ((with_reducible refine aa none (.store 93 (.tmp 5) (.tmp 12)) ?_);refine af 0 (plv ka) hm rfl rfl rfl 3 av rfl rfl (by intro v hv;simp [plv] at hv;rcases hv with rfl|rfl|rfl<;>rfl) ?_;clear hm;intro w3 hm)
   | ((with_reducible refine aa (some 7) (.alloc 93) ?_);refine ad _ aH hm ?_;clear hm;intro w4 g7 hm)
   | ((with_reducible refine aa none (.store 93 (.tmp 7) (.tmp 17)) ?_);refine af 0 (plv kb) hm rfl rfl rfl 3 av rfl rfl (by intro v hv;simp [plv] at hv;rcases hv with rfl|rfl|rfl<;>rfl) ?_;clear hm;intro w5 hm))
  go_ret
  exact ⟨by rw [HU.out ()];rfl,hm.below⟩
 | true =>
  cases rb with
  | false =>
   go_enter Tryz.func56,Tryz.ntmps56
   go_wp2_with (first
    | (go_at_call 49;clear tk1;refine (HPA.out _ (HM.out.below hm.below)).mono ?_;rintro e w' ⟨he,hb⟩;subst he;replace hm:=hm.call hb;clear hb)
    | (go_at_call 49;refine (HPB.out _ (HM.out.below hm.below)).mono ?_;rintro e w' ⟨he,hb⟩;subst he;replace hm:=hm.call hb;clear hb)
    | ((with_reducible refine aa (some 5) (.alloc 93) ?_);refine ad _ aH hm ?_;clear hm;intro w2 g5 hm)
    | ((with_reducible refine aa none (.store 93 (.tmp 5) (.tmp 12)) ?_);refine af 0 (plv ka) hm rfl rfl rfl 3 av rfl rfl (by intro v hv;simp [plv] at hv;rcases hv with rfl|rfl|rfl<;>rfl) ?_;clear hm;intro w3 hm)
    | ((with_reducible refine aa (some 7) (.alloc 93) ?_);refine ad _ aH hm ?_;clear hm;intro w4 g7 hm)
    | ((with_reducible refine aa none (.store 93 (.tmp 7) (.tmp 17)) ?_);refine af 0 (plv kb) hm rfl rfl rfl 3 av rfl rfl (by intro v hv;simp [plv] at hv;rcases hv with rfl|rfl|rfl<;>rfl) ?_;clear hm;intro w5 hm))
   go_ret
   exact ⟨by rw [HU.out ()];rfl,hm.below⟩
  | true =>
   go_enter Tryz.func56,Tryz.ntmps56
   go_wp2_with (first
    | (go_at_call 49;clear tk1;refine (HPA.out _ (HM.out.below hm.below)).mono ?_;rintro e w' ⟨he,hb⟩;subst he;replace hm:=hm.call hb;clear hb)
    | (go_at_call 49;refine (HPB.out _ (HM.out.below hm.below)).mono ?_;rintro e w' ⟨he,hb⟩;subst he;replace hm:=hm.call hb;clear hb)
    | ((with_reducible refine aa (some 5) (.alloc 93) ?_);refine ad _ aH hm ?_;clear hm;intro w2 g5 hm)
    | ((with_reducible refine aa none (.store 93 (.tmp 5) (.tmp 12)) ?_);refine af 0 (plv ka) hm rfl rfl rfl 3 av rfl rfl (by intro v hv;simp [plv] at hv;rcases hv with rfl|rfl|rfl<;>rfl) ?_;clear hm;intro w3 hm)
    | ((with_reducible refine aa (some 7) (.alloc 93) ?_);refine ad _ aH hm ?_;clear hm;intro w4 g7 hm)
    | ((with_reducible refine aa none (.store 93 (.tmp 7) (.tmp 17)) ?_);refine af 0 (plv kb) hm rfl rfl rfl 3 av rfl rfl (by intro v hv;simp [plv] at hv;rcases hv with rfl|rfl|rfl<;>rfl) ?_;clear hm;intro w5 hm))
   refine ak ?_
   refine ag (T:=fun W=>Mem w [] W [(g7,plv kb,93),(g5,plv ka,93)]) (by kernel_rfl) hm ?_
   intro wc hbw hmw
   replace hm:Mem w [] wc [(g7,plv kb,93),(g5,plv ka,93)]:=hmw
   clear hbw hmw
   refine aT 0 (v:=.agg (plv ka).toArray) rfl (by kernel_rfl) rfl (fun W hW=>ai 0 (plv ka) (Mem.get hW 1 rfl) rfl _ aJ rfl 3 av (Nat.le_refl 3) rfl) hm ?_
   go_simp
   refine aT 2 (v:=.agg (plv kb).toArray) rfl (by kernel_rfl) rfl (fun W hW=>ai 0 (plv kb) (Mem.get hW 0 rfl) rfl _ aJ rfl 3 av (Nat.le_refl 3) rfl) hm ?_
   go_simp
   refine aO 1 (by kernel_rfl) rfl rfl ?_
   intro K hK
   go_wp2_with (go_at_call 73;refine (above_any (HKA.out ()) _).mono ?_;rintro e w' ⟨m,he,hkm,hb⟩;subst he;have HKM:Hid (∃q,KM Tryz.prog 93 w' m q (abv ka 0)):=hkm;clear hkm;replace hm:=hm.call hb;clear hb)
   refine hK _ _ hm ?_
   clear hK K
   go_simp
   refine anyH_more (fun W=>Mem w [] W [(g7,plv kb,93),(g5,plv ka,93)]∧∃q,KM Tryz.prog 93 W m q (abv ka 0)) (fun _ h=>h.1) _ _ _ _ ?_
   replace hm:Mem w [] _ [(g7,plv kb,93),(g5,plv ka,93)]∧∃q,KM Tryz.prog 93 _ m q (abv ka 0):=⟨hm,HKM.out⟩
   refine aT 3 (v:=.tuple #[unitV,.bool rr]) rfl (by kernel_rfl) rfl (fun W hW=>by obtain ⟨q,hkm⟩:=hW.2;exact bO (look_abv (HKA.out ()) (HKB.out ()) hkm rr (HRR.out ())) rfl rfl) hm ?_
   go_simp
   refine aT 4 (v:=.tuple #[unitV,.bool rr]) rfl (by kernel_rfl) rfl (fun W _=>by go_simp) hm ?_
   go_simp
   refine aT 5 (v:=unitV) rfl (by kernel_rfl) rfl (fun W _=>by go_simp) hm ?_
   go_simp
   refine aT 6 (v:=.bool rr) rfl (by kernel_rfl) rfl (fun W _=>by go_simp) hm ?_
   go_simp
   refine aT 7 (v:=.bool rr) rfl (by kernel_rfl) rfl (fun W _=>by go_simp) hm ?_
   go_simp
   refine wpAnyH_done (by kernel_rfl) ?_ _
   simp only [endsIn]
   replace hm:=hm.1
   go_wp2_with fail
   go_ret
   exact ⟨by rw [HU.out ()];rfl,hm.below⟩
def decErr (l:List UInt8):Int:=if decOk l then 0 else 110
open Go Go.ChangeShapes Go.WideShapes Go.ChangeAt Go.RowKit
theorem own:ownKnob Tryz.prog.godebug=none:=by kernel_rfl
theorem laidOut:laidOutB Tryz.prog=true:=by kernel_rfl
theorem maxl_of {W:World} (h:W.ShapedOpen Tryz.prog):MaxL W :=
 cell_of_shapedOpen_int (P:=Tryz.prog) (g:=0) (t:=3) (zero:=#[.int .i64 0]) h (of_decide_eq_true (by kernel_rfl)) (by kernel_rfl) rfl (by kernel_rfl) (by kernel_rfl) Tryz.underlying3
open Go Go.RowKit
def leB (a b:List UInt8):Bool:=Op.bytesLess a b||a==b
section
variable {a:Act} {w:World} {dst:Option Tmp} {typ:TypeId} {pos:String} {aft:Array Edge} {gd:Option (Nat×Bool)}
end
open Go Go.RowKit
section
variable {P:Program} {ops:Array Oper} {rest:List Oper} {a:Act} {w w0:World} {Q:Exit→Act→World→Prop} {dst:Option Tmp} {typ:TypeId} {pos:String} {aft:Array Edge} {gd:Option (Nat×Bool)} {S:List Nat} {rows:List (Nat×List Value×TypeId)}
theorem run_bsl1 (w:World) {t elem:TypeId} (z v:Value) (hu:P.underlying t=some (.slice elem)) (hi:(P.info? elem).map (fun i=>(i.zero,i.size))=some (some z,1)) (hz:z.cells=#[z]) (hv:v.cells=#[v]) :
  (Instr.buildSlice t 1 #[(0,v)]).run P w=.ok (.slice (some ⟨w.heap.size,0,none⟩) 1 1) (w.alloc (.cells [v].toArray elem)):=by
 obtain ⟨hz1,hs1⟩:=zero_of_info hi
 cases hq:P.info? elem with
 | none=>simp [hq] at hi
 | some q =>
  have hs:q.size=1:=by simpa [hq] using hs1
  have e:Array.map (fun x=>([z][x % 1]?).getD default) (Array.range 1)=#[z]:=by
   apply Array.ext
   ·simp
   ·intro i h1 h2
    have h3:i=0:=by simpa using h2
    subst h3
    simp
  simp [Instr.buildSlice,run_underlying hu,sizeOf,typeInfo,hq,hs,hz1,hz,Instr.fill,hv,newRow,newObj]
  rw [e]
  rfl
theorem cG {t elem:TypeId} {x:Operand} (hw:Region.wanted {dst:=dst,op:=.buildSlice t 1 #[(0,x)],type:=typ,pos:=pos,after:=aft,guard:=gd} (yielded ops a.tmps)=true) (z v:Value) (hu:P.underlying t=some (.slice elem)) (hi:(P.info? elem).map (fun i=>(i.zero,i.size))=some (some z,1)) (hz:z.cells=#[z]) (hx:a.eval x=v) (hv:v.cells=#[v]) (hm:Mem w0 S w rows)
  (h:∀w' g,Below w.heap.size w w'→Mem w0 S w' ((g,[v],elem)::rows)→wpList P ops Q rest (a.put dst (.slice (some ⟨g,0,none⟩) 1 1)) w') :
  wpList P ops Q ({dst:=dst,op:=.buildSlice t 1 #[(0,x)],type:=typ,pos:=pos,after:=aft,guard:=gd}::rest) a w:=by
 refine wpList_step fun K hK=>?_
 rw [if_pos hw]
 have hh:=hK _ _ (h _ _ ((Below.refl _ _).alloc (Nat.le_refl _) _) (hm.alloc [v] elem))
 unfold Oper.wp execOp
 simp only [List.map_toArray,List.map_cons,List.map_nil,hx,run_bsl1 (P:=P) w z v hu hi hz hv,Sem.run_bind,Sem.run_pure,Result.andThen_ok]
 exact hh
end
open Go Go.RowKit
section
variable {a:Act} {w:World} {dst:Option Tmp} {typ:TypeId} {pos:String} {aft:Array Edge} {gd:Option (Nat×Bool)}
end
open Go Go.RowKit
def cutB (c:UInt8) (s:ByteArray):List ByteArray:=(cut c (bs s)).map mkS
open Go Go.RowKit
open Go Go.RowKit
theorem cutHi_some (g o cap:Nat):cutHi (some ⟨g,o,none⟩) cap=some ⟨g,o,none⟩:=by
 unfold cutHi
 split
 ·rfl
 ·simp [br]
theorem exec_hiB {a:Act} {w:World} {dst:Option Tmp} {typ:TypeId} {pos:String} {aft:Array Edge} {gd:Option (Nat×Bool)} {x hi:Operand} {g o len cap:Nat} (m:Nat) {ih:Int} (hm:m≤cap) (hx:a.eval x=.slice (some ⟨g,o,none⟩) len cap) (hhi:a.eval hi=.int .i64 ih) (hih:ih=(m:Int)) :
  (execOp a.eval {dst:=dst,op:=.slice 37 x none (some hi) none,type:=typ,pos:=pos,after:=aft,guard:=gd}).run Tryz.prog w=.ok (.value (.slice (some ⟨g,o,none⟩) m cap)) w:=by
 have h:=exec_sHi (P:=Tryz.prog) (w:=w) (dst:=dst) (typ:=typ) (pos:=pos) (aft:=aft) (gd:=gd) bv cv m hm hx hhi hih
 rw [cutHi_some] at h
 exact h
def jnk (c:UInt8) (xs:List ByteArray) (k:Nat):List UInt8:=jn c ((xs.take k).map bs)
open Go Go.RowKit
open Go Go.RowKit
def tx (ks:List ByteArray):ByteArray:=mkS (jn 47 (ks.map bs))
def cd (ks:List ByteArray):List UInt8:=codeOf (ks.map bs)
def undB (a b:List ByteArray):Bool:=(b.map bs).isPrefixOf (a.map bs)
theorem bs_tx (ks:List ByteArray):bs (tx ks)=jn 47 (ks.map bs):=bs_mkS _
theorem isP_tx {ks:List ByteArray} (h:PlOk ks):isP (bs (tx ks))=true:=by rw [bs_tx];exact (cX h.to).1
theorem cA {ks:List ByteArray} (h:PlOk ks):segsB (tx ks)=ks:=by
 unfold segsB
 rw [bs_tx,(cX h.to).2,ba]
theorem tx_inj {a b:List ByteArray} (h:PlOk a) (h2:PlOk b) (e:tx a=tx b):a=b:=by rw [←cA h,e,cA h2]
theorem aU {ks:List ByteArray} (h:PlOk ks):(tx ks).size≤33:=by
 unfold tx
 rw [ce]
 have h1:=jn_len 47 (ks:=ks.map bs) (fun k hk=>by
  obtain ⟨x,hx,rfl⟩:=List.mem_map.1 hk
  rw [aZ];exact (h.size hx).2)
 have:=h.len
 rw [List.length_map] at h1
 omega
theorem dn {s:ByteArray} (h:isP (bs s)=true):tx (segsB s)=s:=by
 unfold tx
 rw [bR,jn_segsOf h,cT]
theorem code_tx {ks:List ByteArray} (h:PlOk ks):codeOf (segsOf (bs (tx ks)))=cd ks:=by rw [bs_tx,(cX h.to).2];rfl
theorem und_tx {a b:List ByteArray} (h:PlOk a) (h2:PlOk b):undOf (bs (tx a)) (bs (tx b))=undB a b:=by
 unfold undOf undB
 rw [isP_tx h,isP_tx h2,bs_tx,bs_tx,(cX h.to).2,(cX h2.to).2,Bool.true_and,Bool.true_and]
theorem map_bs_inj {a b:List ByteArray} (h:a.map bs=b.map bs):a=b:=by
 rw [←ba a,h,ba]
theorem no0 {ks:List ByteArray} (h:PlOk ks):∀k∈ks.map bs,0 ∉ k:=fun k hk=>seg_ne0 ((bW h.to).2 k hk)
theorem cd_inj {a b:List ByteArray} (h:PlOk a) (h2:PlOk b) (e:cd a=cd b):a=b:=map_bs_inj (codeOf_inj (no0 h) (no0 h2) e)
theorem aD {a b:List ByteArray}:undB a b=true↔b <+: a:=by
 unfold undB
 rw [List.isPrefixOf_iff_prefix]
 constructor
 ·rintro ⟨t,ht⟩
  refine ⟨t.map mkS,?_⟩
  have:=congrArg (List.map mkS) ht
  rw [List.map_append,ba,ba] at this
  exact this
 ·rintro ⟨t,rfl⟩
  exact ⟨t.map bs,by rw [List.map_append]⟩
def lastS (ks:List ByteArray):ByteArray:=ks.getLast?.getD noStr
def pvv (ks:List ByteArray):List Value:=[.string (tx ks.dropLast),.string (lastS ks)]
theorem lastS_nil:lastS []=noStr:=rfl
theorem lastS_ne {ks:List ByteArray} (h:PlOk ks) (h0:ks≠[]):lastS ks≠noStr:=by
 intro e
 unfold lastS at e
 rw [List.getLast?_eq_some_getLast h0] at e
 have h1:=(h.size (List.getLast_mem h0)).1
 rw [show ks.getLast h0=noStr from e] at h1
 exact absurd h1 (by decide)
theorem cy {ks:List ByteArray} (h0:ks≠[]):ks.dropLast++[lastS ks]=ks:=by
 unfold lastS
 rw [List.getLast?_eq_some_getLast h0]
 exact List.dropLast_concat_getLast h0
theorem pvv_inj {a b:List ByteArray} (h:PlOk a) (h2:PlOk b) (e:pvv a=pvv b):a=b:=by
 simp only [pvv,List.cons.injEq,Value.string.injEq,and_true] at e
 have e1:=tx_inj h.drop h2.drop e.1
 by_cases ha:a=[]
 ·by_cases hb:b=[]
  ·rw [ha,hb]
  ·exact absurd (by rw [←e.2,ha,lastS_nil]) (lastS_ne h2 hb)
 ·by_cases hb:b=[]
  ·exact absurd (by rw [e.2,hb,lastS_nil]) (lastS_ne h ha)
  ·rw [←cy ha,←cy hb,e1,e.2]
theorem pvv2 (ks:List ByteArray):(pvv ks).length=2:=rfl
theorem aw (ks:List ByteArray):∀v∈pvv ks,v.oneCell'=true:=by intro v hv;simp [pvv] at hv;rcases hv with rfl|rfl<;>rfl
theorem bI {ks qs:List ByteArray} (h:PlOk ks) (h2:PlOk qs) (he:Value.agg (pvv ks).toArray=.agg (pvv qs).toArray):ks=qs :=
 pvv_inj h h2 (by simpa using he)
theorem plOf_self {ks:List ByteArray} (h:PlOk ks):plOf ks=ks:=by unfold plOf;rw [if_pos h.to]
theorem plOf_empty:plOf [noStr]=[]:=by decide +kernel
theorem lt_le {a b c:List UInt8} (h:a<b) (h2:b≤c):a<c:=by
 by_cases h3:a<c
 ·exact h3
 ·exact absurd h (List.not_lt.2 (List.le_trans h2 (List.not_lt.1 h3)))
theorem le_ne {a b:List UInt8} (h:a≤b) (hn:a≠b):a<b:=by
 by_cases h3:a<b
 ·exact h3
 ·exact absurd (List.le_antisymm h (List.not_lt.1 h3)) hn
abbrev Sp:=List ByteArray×Int×Int×Int×Int×Int×Int
abbrev Nms:=List Sp
def spc (ks:List ByteArray) (b e:Int):List Value:=[.string (tx ks),.int .i64 b,.int .i64 e,.int .i64 0,.int .i64 0]
def spv (x:Sp):List Value:=[.string (tx x.1),.int .i64 x.2.1,.int .i64 x.2.2.1,.int .i64 x.2.2.2.1,.int .i64 x.2.2.2.2.1]
def spw (x:Sp):List Value:=spv x++[.int .i64 x.2.2.2.2.2.1,.int .i64 x.2.2.2.2.2.2]
theorem bb (ks:List ByteArray) (b e:Int):∀v∈spc ks b e,v.oneCell'=true:=by intro v hv;simp [spc] at hv;rcases hv with rfl|rfl|rfl|rfl<;>rfl
def NmK (p:Nms):Value→Value→Prop:=fun k v=>∃x,x∈p∧k=.agg (pvv x.1).toArray∧v=.agg (spw x).toArray
structure NmOk (p:Nms):Prop where
 ok:∀x∈p,PlOk x.1
 srt:p.Pairwise fun x y=>cd x.1<cd y.1
def hasN (p:Nms) (ks:List ByteArray):Bool:=p.any fun x=>decide (x.1=ks)
def getN (p:Nms) (ks:List ByteArray):Option Sp:=p.find? fun x=>decide (x.1=ks)
def kidsN (p:Nms) (s:ByteArray):List ByteArray:=(p.filter fun x=>decide (tx x.1.dropLast=s) && !decide (x.1=[])).map fun x=>lastS x.1
def undN (p:Nms) (ks:List ByteArray):Nms:=p.filter fun x=>undB x.1 ks
def addN (p:Nms) (x:Sp):Nms:=(p.filter fun y=>decide (cd y.1<cd x.1))++x::p.filter fun y => !decide (cd y.1<cd x.1)
def delN (p:Nms) (ks:List ByteArray):Nms:=p.filter fun x => !undB x.1 ks
def limOk (b e:Int):Bool:=decide (0≤b∧b≤1000000)&&decide (0≤e∧e≤1000000)
def addE (p:Nms) (s:ByteArray) (b e:Int):Int :=
 if isP (bs s)=false then 110 else if segsB s=[] then 110 else if limOk b e=false then 12 else if hasN p (segsB s)=true then 101 else
 if hasN p (segsB s).dropLast=false then 100 else if 2≤(kidsN p (tx (segsB s).dropLast)).length then 102 else 0
def remE (p:Nms) (s:ByteArray):Int :=
 if isP (bs s)=false then 110 else if segsB s=[] then 110 else if hasN p (segsB s)=false then 100 else 0
def heldI (x:Int):Int:=max 0 (min x 1000000)
def newN (b e:Int):Nms:=[([],heldI b,heldI e,0,0,0,0)]
theorem NmOk.new (b e:Int):NmOk (newN b e):=⟨fun x hx=>by rw [List.mem_singleton.1 hx];exact PlOk.nil,List.pairwise_singleton _ _⟩
theorem NmOk.sub {p q:Nms} (h:NmOk p) (hs:q.Sublist p):NmOk q:=⟨fun x hx=>h.ok x (hs.mem hx),h.srt.sublist hs⟩
theorem ar {p:Nms} {ks:List ByteArray}:hasN p ks=true↔∃x∈p,x.1=ks:=by
 unfold hasN
 rw [List.any_eq_true]
 exact ⟨fun ⟨x,hx,h⟩=>⟨x,hx,of_decide_eq_true h⟩,fun ⟨x,hx,h⟩=>⟨x,hx,decide_eq_true h⟩⟩
theorem NmOk.uniq {p:Nms} (h:NmOk p) {x y:Sp} (hx:x∈p) (hy:y∈p) (e:x.1=y.1):x=y:=by
 have hp:=h.srt
 clear h
 induction p with
 | nil=>cases hx
 | cons z p ih =>
  rw [List.pairwise_cons] at hp
  rcases List.mem_cons.1 hx with h1|h1
  ·rcases List.mem_cons.1 hy with h2|h2
   ·rw [h1,h2]
   ·have:=hp.1 y h2
    rw [←h1,e] at this
    exact absurd this (List.lt_irrefl _)
  ·rcases List.mem_cons.1 hy with h2|h2
   ·have:=hp.1 x h1
    rw [←h2,e] at this
    exact absurd this (List.lt_irrefl _)
   ·exact ih h1 h2 hp.2
theorem aY {p:Nms} {ks:List ByteArray} {x:Sp} (h:getN p ks=some x):x∈p∧x.1=ks :=
 ⟨List.mem_of_find?_eq_some h,of_decide_eq_true (List.find?_some (p:=fun x:Sp=>decide (x.1=ks)) h)⟩
theorem getN_none {p:Nms} {ks:List ByteArray} (h:getN p ks=none):hasN p ks=false:=by
 unfold hasN
 rw [List.any_eq_false]
 intro x hx
 exact (List.find?_eq_none.1 h) x hx
theorem getN_has {p:Nms} {ks:List ByteArray}:hasN p ks=(getN p ks).isSome:=by
 cases h:getN p ks with
 | none=>exact getN_none h
 | some x=>exact ar.2 ⟨x,(aY h).1,(aY h).2⟩
theorem NmOk.add {p:Nms} (h:NmOk p) {x:Sp} (hx:PlOk x.1) (hn:hasN p x.1=false):NmOk (addN p x):=by
 have hne:∀y∈p,cd y.1≠cd x.1:=fun y hy e=>by
  have:=ar.2 ⟨y,hy,cd_inj (h.ok y hy) hx e⟩
  rw [hn] at this;cases this
 unfold addN
 refine ⟨fun y hy=>?_,?_⟩
 ·rcases List.mem_append.1 hy with h1|h1
  ·exact h.ok y ((List.mem_filter.1 h1).1)
  ·rcases List.mem_cons.1 h1 with rfl|h1
   ·exact hx
   ·exact h.ok y ((List.mem_filter.1 h1).1)
 ·rw [List.pairwise_append,List.pairwise_cons]
  refine ⟨h.srt.sublist List.filter_sublist,⟨fun y hy=>?_,h.srt.sublist List.filter_sublist⟩,fun y hy z hz=>?_⟩
  ·obtain ⟨hy1,hy2⟩:=List.mem_filter.1 hy
   have h3:¬cd y.1<cd x.1:=by simpa using hy2
   exact le_ne (List.not_lt.1 h3) (fun e=>hne y hy1 e.symm)
  ·obtain ⟨hy1,hy2⟩:=List.mem_filter.1 hy
   have h3:cd y.1<cd x.1:=by simpa using hy2
   rcases List.mem_cons.1 hz with rfl|hz
   ·exact h3
   ·obtain ⟨hz1,hz2⟩:=List.mem_filter.1 hz
    have h4:¬cd z.1<cd x.1:=by simpa using hz2
    exact lt_le h3 (List.not_lt.1 h4)
theorem bJ {p:Nms} {x y:Sp}:y∈addN p x↔y=x∨y∈p:=by
 unfold addN
 rw [List.mem_append,List.mem_cons,List.mem_filter,List.mem_filter]
 by_cases h:cd y.1<cd x.1
 ·simp [h]
  exact ⟨fun h=>h.elim Or.inr Or.inl,fun h=>h.elim Or.inr Or.inl⟩
 ·simp [h]
theorem NmOk.del {p:Nms} (h:NmOk p) (ks:List ByteArray):NmOk (delN p ks):=h.sub List.filter_sublist
theorem NmOk.und {p:Nms} (h:NmOk p) (ks:List ByteArray):NmOk (undN p ks):=h.sub List.filter_sublist
open Go Go.RowKit Go.Maps
theorem au:Tryz.prog.underlying 63=some (.struct (Tryz.prog.fieldsOf 63)):=by kernel_rfl
theorem info_np:(Tryz.prog.info? 63).map (fun i=>(i.zero,i.size))=some (some (.agg (pvv []).toArray),2):=by kernel_rfl
theorem ax:∀w,(zeroValue 63).run Tryz.prog w=.ok (.agg (pvv []).toArray) w:=(zero_of_info info_np).1
theorem al:(Tryz.prog.info? 63).map (·.size)=some 2:=(zero_of_info info_np).2
theorem made_np:(Tryz.prog.info? 63).map (fun i=>(i.zero,i.size,i.bytes))=some (some (.agg (pvv []).toArray),2,32):=by kernel_rfl
theorem un_nps:Tryz.prog.underlying 87=some (.slice 63):=Tryz.underlying87
def spZ:List Value:=[.string noStr,.int .i64 0,.int .i64 0,.int .i64 0,.int .i64 0]
theorem bx:Tryz.prog.underlying 50=some (.struct (Tryz.prog.fieldsOf 50)):=by kernel_rfl
theorem info_sp:(Tryz.prog.info? 50).map (fun i=>(i.zero,i.size))=some (some (.agg spZ.toArray),5):=by kernel_rfl
theorem aR:∀w,(zeroValue 50).run Tryz.prog w=.ok (.agg spZ.toArray) w:=(zero_of_info info_sp).1
theorem aI:(Tryz.prog.info? 50).map (·.size)=some 5:=(zero_of_info info_sp).2
def swZ:List Value:=spZ++[.int .i64 0,.int .i64 0]
theorem un_sw:Tryz.prog.underlying 66=some (.struct (Tryz.prog.fieldsOf 66)):=by kernel_rfl
theorem info_sw:(Tryz.prog.info? 66).map (fun i=>(i.zero,i.size))=some (some (.agg swZ.toArray),7):=by kernel_rfl
theorem a7:∀w,(zeroValue 66).run Tryz.prog w=.ok (.agg swZ.toArray) w:=(zero_of_info info_sw).1
theorem bG:(Tryz.prog.info? 66).map (·.size)=some 7:=(zero_of_info info_sw).2
theorem bS:∀w,(isAgg 67).run Tryz.prog w=.ok false w:=by intro w;simp [go_sem]
theorem bw:Tryz.prog.underlying 67=some (.map 63 66):=Tryz.underlying67
theorem np_laid:laidOutB Tryz.prog=true:=by kernel_rfl
theorem np_row:(63:TypeId)<Tryz.prog.types.size:=of_decide_eq_true (by kernel_rfl)
theorem np_wide:(match Tryz.prog.underlying 63 with|some (.array _ _)|some (.struct _)=>true|_=>false)=true:=by kernel_rfl
theorem az:Keyed Tryz.prog 63:=Keyed.of_law (deep_law_laid np_laid (m:=2) (by omega) np_row (by kernel_rfl) np_wide)
theorem np_type:Tryz.prog.keyType 63=true:=by kernel_rfl
theorem np_cells:Tryz.prog.cellsOf 63=2:=by kernel_rfl
theorem np_strc:Tryz.prog.cellsOf 9=1:=by kernel_rfl
theorem np_some:∃n,Tryz.prog.types.size=n+1:=⟨Tryz.prog.types.size - 1,by have h:(63:Nat)<Tryz.prog.types.size:=np_row;omega⟩
theorem np_lit (n:Nat) (s:ByteArray) (h:s.size≤1000):∃ls,Tryz.prog.keyLits (n+1) 9 [.string s]=some ls:=by
 unfold Program.keyLits
 simp only [cr]
 exact ⟨_,if_pos (by simp [maxLen];omega)⟩
theorem lastS_size {ks:List ByteArray} (h:PlOk ks):(lastS ks).size≤10:=by
 unfold lastS
 by_cases h0:ks=[]
 ·subst h0;decide
 ·rw [List.getLast?_eq_some_getLast h0]
  exact (h.size (List.getLast_mem h0)).2
theorem cu {ks:List ByteArray} (h:PlOk ks):∃kl,keyOf Tryz.prog 63 (.agg (pvv ks).toArray)=some kl:=by
 obtain ⟨d,hd⟩:=np_some
 have hf:(Value.agg (pvv ks).toArray).formed Tryz.prog 63=true:=by
  simp [Value.formed,np_cells,pvv]
 obtain ⟨l0,h0⟩:=np_lit d (tx ks.dropLast) (by have:=aU h.drop;omega)
 obtain ⟨l1,h1⟩:=np_lit d (lastS ks) (by have:=lastS_size h;omega)
 have hk:∃ls,Tryz.prog.keyLits (Tryz.prog.types.size+1) 63 (pvv ks)=some ls:=by
  unfold Program.keyLits
  simp only [Tryz.underlying63]
  rw [if_pos ⟨by rw [np_cells];rfl,by kernel_rfl⟩]
  simp only [np_strc,hd,List.mapM_cons,List.mapM_nil,pvv,List.drop,List.take]
  rw [h0,h1]
  exact ⟨_,rfl⟩
 obtain ⟨ls,hls⟩:=hk
 unfold keyOf
 rw [Tryz.underlying63]
 simp only
 rw [if_pos (by rw [np_type,hf];rfl)]
 exact ⟨_,by rw [show (Value.agg (pvv ks).toArray).cells.toList=pvv ks from rfl,hls];rfl⟩
theorem eg_np:Tryz.prog.eqGuardType Tryz.prog.depth 63=false:=by kernel_rfl
theorem eg_sp:Tryz.prog.eqGuardType Tryz.prog.depth 50=false:=by kernel_rfl
theorem equal_two (k v k' v':ByteArray) (w:World):(Op.equalIn 10000 63 (.agg #[.string k,.string v]) (.agg #[.string k',.string v'])).run Tryz.prog w=.ok (k.toList==k'.toList&&v.toList==v'.toList) w:=by
 have u3:=Tryz.underlying9
 have a3:=Tryz.isAgg9
 have z3:=Tryz.sizeOf9
 have hS:Tryz.prog.underlying 63=some (.struct (Tryz.prog.fieldsOf 63)):=by kernel_rfl
 have hp:Tryz.prog.stoodInHeld 63=false:=by kernel_rfl
 rw [show (10000:Nat)=9999+1 from rfl,run_equalIn_agg w 9999 63 _ _ hS hp]
 simp only [Program.fieldsOf,Tryz.underlying63]
 go_simp
 by_cases h1:k.toList=k'.toList<;>by_cases h2:v.toList=v'.toList<;>simp [h1,h2]
theorem eq_np (w:World) {ks qs:List ByteArray} (h:PlOk ks) (h2:PlOk qs) (b:Bool) (hb:b=decide (ks=qs)):(Op.equalIn 10000 63 (.agg (pvv ks).toArray) (.agg (pvv qs).toArray)).run Tryz.prog w=.ok b w:=by
 have h3:=equal_two (tx ks.dropLast) (lastS ks) (tx qs.dropLast) (lastS qs) w
 refine h3.trans ?_
 congr 1
 rw [←beq_toListBytes,←beq_toListBytes,cj,cj,hb,Bool.eq_iff_iff,Bool.and_eq_true,decide_eq_true_iff,decide_eq_true_iff,decide_eq_true_iff]
 constructor
 ·rintro ⟨e1,e2⟩;exact pvv_inj h h2 (by unfold pvv;rw [e1,e2])
 ·rintro rfl;exact ⟨rfl,rfl⟩
theorem equal_five (s s':ByteArray) (a b c d a' b' c' d':Int) (w:World):(Op.equalIn 10000 50 (.agg #[.string s,.int .i64 a,.int .i64 b,.int .i64 c,.int .i64 d]) (.agg #[.string s',.int .i64 a',.int .i64 b',.int .i64 c',.int .i64 d'])).run Tryz.prog w=.ok (s.toList==s'.toList&&(a==a'&&(b==b'&&(c==c'&&d==d')))) w:=by
 have u3:=Tryz.underlying9
 have a3:=Tryz.isAgg9
 have z3:=Tryz.sizeOf9
 have u4:=Tryz.underlying3
 have a4:=Tryz.isAgg3
 have z4:=Tryz.sizeOf3
 have hS:Tryz.prog.underlying 50=some (.struct (Tryz.prog.fieldsOf 50)):=by kernel_rfl
 have hp:Tryz.prog.stoodInHeld 50=false:=by kernel_rfl
 rw [show (10000:Nat)=9999+1 from rfl,run_equalIn_agg w 9999 50 _ _ hS hp]
 simp only [Program.fieldsOf,Tryz.underlying50]
 go_simp
 by_cases h1:s.toList=s'.toList<;>by_cases h2:a=a'<;>by_cases h3:b=b'<;>by_cases h4:c=c'<;>by_cases h5:d=d'<;>simp [h1,h2,h3,h4,h5]
theorem eq_sp (w:World) (ks qs:List ByteArray) (x y x' y':Int) (r:Bool) (hr:r=(decide (tx ks=tx qs)&&(decide (x=x')&&decide (y=y')))):(Op.equalIn 10000 50 (.agg (spc ks x y).toArray) (.agg (spc qs x' y').toArray)).run Tryz.prog w=.ok r w:=by
 refine (equal_five (tx ks) (tx qs) x y 0 0 x' y' 0 0 w).trans ?_
 congr 1
 rw [←beq_toListBytes,cj,hr,show ((0:Int)==0)=true from rfl,Bool.and_true,Bool.and_true]
 rfl
section
variable {a:Act} {w:World} {dst:Option Tmp} {typ:TypeId} {pos:String} {aft:Array Edge} {gd:Option (Nat×Bool)}
theorem exec_neN {x y:Operand} {rt:TypeId} {ks qs:List ByteArray} (h:PlOk ks) (h2:PlOk qs) (b:Bool) (hb:b=decide (ks=qs)) (hx:a.eval x=.agg (pvv ks).toArray) (hy:a.eval y=.agg (pvv qs).toArray) :
  (execOp a.eval {dst:=dst,op:=.binOp .neq 63 x y rt,type:=typ,pos:=pos,after:=aft,guard:=gd}).run Tryz.prog w=.ok (.value (.bool (!b))) w:=by
 unfold execOp
 simp only [hx,hy,Sem.run_bind,run_eqGuard_agg w .neq 63 x y _ _ eg_np,Sem.run_pure,Result.andThen_ok,run_neq_struct,eq_np w h h2 b hb]
theorem bk {x y:Operand} {rt:TypeId} {ks qs:List ByteArray} (h:PlOk ks) (h2:PlOk qs) (b:Bool) (hb:b=decide (ks=qs)) (hx:a.eval x=.agg (pvv ks).toArray) (hy:a.eval y=.agg (pvv qs).toArray) :
  (execOp a.eval {dst:=dst,op:=.binOp .eql 63 x y rt,type:=typ,pos:=pos,after:=aft,guard:=gd}).run Tryz.prog w=.ok (.value (.bool b)) w:=by
 unfold execOp
 simp only [hx,hy,Sem.run_bind,run_eqGuard_agg w .eql 63 x y _ _ eg_np,Sem.run_pure,Result.andThen_ok,run_eql_struct,eq_np w h h2 b hb]
theorem bP {x y:Operand} {rt:TypeId} (ks qs:List ByteArray) (u v u' v':Int) (r:Bool) (hr:r=(decide (tx ks=tx qs)&&(decide (u=u')&&decide (v=v')))) (hx:a.eval x=.agg (spc ks u v).toArray) (hy:a.eval y=.agg (spc qs u' v').toArray) :
  (execOp a.eval {dst:=dst,op:=.binOp .neq 50 x y rt,type:=typ,pos:=pos,after:=aft,guard:=gd}).run Tryz.prog w=.ok (.value (.bool (!r))) w:=by
 unfold execOp
 simp only [hx,hy,Sem.run_bind,run_eqGuard_agg w .neq 50 x y _ _ eg_sp,Sem.run_pure,Result.andThen_ok,run_neq_struct,eq_sp w ks qs u v u' v' r hr]
end
end Go.Proofs.YtdmohffogfbnbaaGreatDoor
