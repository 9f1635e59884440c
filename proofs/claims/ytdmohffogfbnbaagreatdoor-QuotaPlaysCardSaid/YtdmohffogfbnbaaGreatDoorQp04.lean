import Derived.Test.YtdmohffogfbnbaaGreatDoorQp03
import Derived.Test.YtdmohffogfbnbaaGreatDoorCards
import Derived.Test.YtdmohffogfbnbaaGreatDoorTie
import Derived.ProofKit
import Derived.OpenShut
import Derived.ChangeOld
import Derived.ChangeMaps5
import Derived.Deep.DeepHandedRow
import Derived.Deep.Slices
import Derived.Shelf.Vars
import Derived.Lay
import Derived.Laws.Strings3
import Derived.Test.YtdmohffogfbnbaaGreatDoorQp01
set_option maxRecDepth 100000
set_option maxHeartbeats 4000000
namespace Go.Proofs.YtdmohffogfbnbaaGreatDoor
open Go Go.RowKit Go.Maps
theorem is_any (s:ByteArray) (w:World) (hs:s.size≤1000) (hM:MaxL w) :
  Calls Tryz.prog 58 #[.string s] w fun e w'=>e=.returned (.bool (isP (bs s)))∧Below w.heap.size w w':=by
 have hm:=Mem.start w
 have HM:Hid (MaxL w):=hM
 clear hM
 go_enter Tryz.func58,Tryz.ntmps58
 go_wp2_with (first
  | (go_at_call 49;refine (bI s _ hs (HM.out.below hm.below)).mono ?_;rintro e w' ⟨he,hb⟩;subst he;replace hm:=hm.call hb;clear hb)
  | ((with_reducible refine ab (some 3) (.alloc 93) ?_);refine ae _ a8 hm ?_;clear hm;intro w2 g3 hm)
  | ((with_reducible refine ab none (.store 93 (.tmp 3) (.tmp 8)) ?_);refine af 0 (plv (segsB s)) hm rfl rfl rfl 3 aK rfl rfl (by intro v hv;simp [plv] at hv;rcases hv with rfl|rfl|rfl<;>rfl) ?_;clear hm;intro w3 hm))
 go_ret
 exact ⟨rfl,hm.below⟩
theorem el (s:ByteArray) (w:World) (hs:s.size≤1000) (hM:MaxL w) :
  Calls Tryz.prog 57 #[.string s] w fun e w'=>∃v,e=.returned v∧w'.ownsRow w.heap.size 9 1 v (segsB s).length (strs (segsB s))∧Below w.heap.size w w':=by
 have hm:=Mem.start w
 have HM:Hid (MaxL w):=hM
 clear hM
 have HK:Hid (∀_:Unit,PlOk (segsB s)):=fun _=>aR s
 go_enter Tryz.func57,Tryz.ntmps57
 go_wp2_with (first
  | (go_at_call 49;refine (bI s _ hs (HM.out.below hm.below)).mono ?_;rintro e w' ⟨he,hb⟩;subst he;replace hm:=hm.call hb;clear hb)
  | ((with_reducible refine ab (some 3) (.alloc 93) ?_);refine ae _ a8 hm ?_;clear hm;intro w2 g3 hm)
  | ((with_reducible refine ab none (.store 93 (.tmp 3) (.tmp 8)) ?_);refine af 0 (plv (segsB s)) hm rfl rfl rfl 3 aK rfl rfl (by intro v hv;simp [plv] at hv;rcases hv with rfl|rfl|rfl<;>rfl) ?_;clear hm;intro w3 hm)
  | ((with_reducible refine ab (some 10) (.load 93 (.tmp 3)) ?_);refine av 0 hm rfl rfl _ bc rfl 3 aK (by rfl) ?_)
  | (go_at_call 69;refine (cW (HK.out ()) _).mono ?_;rintro e w' ⟨v,he,ho,hb⟩;subst he;have HO:Hid (w'.ownsRow w.heap.size 9 1 v (segsB s).length (strs (segsB s))):=dZ hm.size ho;clear ho;replace hm:=hm.call hb;clear hb))
 go_ret
 exact ⟨_,rfl,HO.out,hm.below⟩
theorem joinP_any (xs:List ByteArray) (v:Value) (w:World) (hv:SlS w v xs) :
  Calls Tryz.prog 59 #[v] w fun e w'=>e=.returned (.string (mkS (jn 47 ((plOf xs).map bs))))∧Below w.heap.size w w':=by
 have hm:=Mem.start w
 have HV:Hid (SlS w v xs):=hv
 clear hv
 go_enter Tryz.func59,Tryz.ntmps59
 go_wp2_with (first
  | (go_at_call 65;refine (ep xs v _ (SlV.below HV.out hm.below)).mono ?_;rintro e w' ⟨he,hb⟩;subst he;replace hm:=hm.call hb;clear hb)
  | ((with_reducible refine ab (some 3) (.alloc 93) ?_);refine ae _ a8 hm ?_;clear hm;intro w2 g3 hm)
  | ((with_reducible refine ab none (.store 93 (.tmp 3) (.tmp 8)) ?_);refine af 0 (plv (plOf xs)) hm rfl rfl rfl 3 aK rfl rfl (by intro v hv;simp [plv] at hv;rcases hv with rfl|rfl|rfl<;>rfl) ?_;clear hm;intro w3 hm)
  | ((with_reducible refine ab (some 10) (.load 93 (.tmp 3)) ?_);refine av 0 hm rfl rfl _ bc rfl 3 aK (by rfl) ?_)
  | (go_at_call 52;refine (text_any (plOf_ok xs) _).mono ?_;rintro e w' ⟨he,hb⟩;subst he;replace hm:=hm.call hb;clear hb))
 go_ret
 exact ⟨rfl,hm.below⟩
section
variable {P:Program} {a:Act} {w:World} {dst:Option Tmp} {typ:TypeId} {pos:String} {aft:Array Edge} {gd:Option (Nat×Bool)}
theorem bF (x y:List UInt8):mkS x++mkS y=mkS (x++y):=by
 apply ByteArray.ext
 simp [mkS]
theorem bP {t:TypeId} {x y:Operand} {rt:TypeId} (s s' r:ByteArray) (hr:r=s++s') (hx:a.eval x=.string s) (hy:a.eval y=.string s') (hl:s.size+s'.size≤1000000000) :
  (execOp a.eval {dst:=dst,op:=.binOp .add t x y rt,type:=typ,pos:=pos,after:=aft,guard:=gd}).run P w=.ok (.value (.string r)) w:=by
 subst hr
 unfold execOp
 simp only [hx,hy]
 simp [eqGuard,binOp,Op.stringOp]
 omega
end
def cdk (ks:List ByteArray) (k:Nat):List UInt8:=codeOf ((ks.take k).map bs)
theorem code_next {ks:List ByteArray} {k:Nat} (hk:k<ks.length):cdk ks (k+1)=cdk ks k++(bs (ks.getD k noStr)++[0]):=by
 unfold cdk
 have e:ks[k]?=some (ks.getD k noStr):=by simp [hk]
 rw [List.take_add_one,e,List.map_append,dA]
 simp [codeOf]
theorem fi {ks:List ByteArray} (h:PlOk ks) (k:Nat):(cdk ks k).length≤40:=by
 unfold cdk
 have h2:=ch h k
 have:=codeOf_len (ks:=(ks.take k).map bs) (fun x hx=>by obtain ⟨y,hy,rfl⟩:=List.mem_map.1 hx;rw [aV];exact (h2.size hy).2)
 have:=h2.len
 simp at *
 omega
theorem code_any (s:ByteArray) (w:World) (hs:s.size≤1000) (hM:MaxL w) :
  Calls Tryz.prog 79 #[.string s] w fun e w'=>e=.returned (.string (mkS (codeOf (segsOf (bs s)))))∧Below w.heap.size w w':=by
 have hm:=Mem.start w
 have HM:Hid (MaxL w):=hM
 clear hM
 obtain ⟨ks,hks⟩:∃ks,ks=segsB s:=⟨_,rfl⟩
 have HK:Hid (∀_:Unit,PlOk ks):=fun _=>by rw [hks];exact aR s
 have HR:Hid (∀_:Unit,codeOf (segsOf (bs s))=codeOf (ks.map bs)):=fun _=>by rw [hks,bm]
 obtain ⟨n,hn⟩:∃n,n=ks.length:=⟨_,rfl⟩
 have HN:Hid (∀_:Unit,ks.length=n):=fun _=>hn.symm
 have hn3:n≤3:=by rw [hn];exact (HK.out ()).len
 have HPL:Hid (∀W,MaxL W→Calls Tryz.prog 49 #[.string s] W fun e w'=>e=.returned (.tuple #[.agg (plv ks).toArray,.bool (isP (bs s))])∧Below W.heap.size W w'):=fun W hW=>by rw [hks];exact bI s W hs hW
 clear hks hn hs
 go_enter Tryz.func79,Tryz.ntmps79
 go_wp2_with (first
  | (go_at_call 49;refine (HPL.out _ (HM.out.below hm.below)).mono ?_;rintro e w' ⟨he,hb⟩;subst he;replace hm:=hm.call hb;clear hb)
  | ((with_reducible refine ab (some 3) (.alloc 93) ?_);refine ae _ a8 hm ?_;clear hm;intro w2 g3 hm)
  | ((with_reducible refine ab none (.store 93 (.tmp 3) (.tmp 11)) ?_);refine af 0 (plv ks) hm rfl rfl rfl 3 aK rfl rfl (by intro v hv;simp [plv] at hv;rcases hv with rfl|rfl|rfl<;>rfl) ?_;clear hm;intro w3 hm)
  | ((with_reducible refine ab (some 13) (.load 93 (.tmp 3)) ?_);refine av 0 hm rfl rfl _ bc rfl 3 aK (by rfl) ?_)
  | (go_at_call 69;refine (cW (HK.out ()) _).mono ?_;rintro e w9 ⟨v,he,ho,hb⟩;subst he;have HO0:Hid (SlS w9 v ks):=ej ho;obtain ⟨p,cap,hv,hcap⟩:=SlV.len (ej ho);subst hv;have HO:Hid (SlS w9 (.slice p n cap) ks):=by {have h9:=HO0.out;rw [HN.out ()] at h9;exact h9};rw [HN.out ()];clear ho HO0 hcap;replace hm:=hm.call hb;clear hb))
 go_loopw [16,5] (fun vi vc wr=>∃k:Nat,k≤n∧vi=.int .i64 (k:Int)∧vc=.string (mkS (cdk ks k))∧Hid (Below w9.heap.size w9 wr)) (fun vi _ _=>n - (intOf vi).toNat)
 case atStart=>exact ⟨0,by omega,rfl,rfl,Below.refl _ _⟩
 case round =>
  obtain ⟨k,hk,rfl,rfl,HB⟩:=hrel
  by_cases hlt:k<n
  ·have hki:(k:Int)<(n:Int):=by omega
   obtain ⟨b,off,hp⟩:=SlS.at HO.out (HN.out ()) (by omega)
   subst hp
   obtain ⟨x,hx⟩:∃x,x=ks.getD k noStr:=⟨_,rfl⟩
   have HC:Hid (wr.cell? ⟨b,off+k,none⟩=some (.string x)):=by
    rw [hx]
    exact SlS.cells (HN.out ()) (SlV.below HO.out HB.out) k hlt
   obtain ⟨c1,hc1⟩:∃c,c=mkS (cdk ks k):=⟨_,rfl⟩
   obtain ⟨c2,hc2⟩:∃c,c=x++mkS [0]:=⟨_,rfl⟩
   obtain ⟨c3,hc3⟩:∃c,c=c1++c2:=⟨_,rfl⟩
   have hxz:x.size≤10:=by
    rw [hx,List.getD_eq_getElem?_getD,List.getElem?_eq_getElem (by rw [HN.out ()];exact hlt)]
    exact ((HK.out ()).size (List.getElem_mem _)).2
   have HZ1:Hid (∀_:Unit,x.size+(mkS [0]).size≤1000000000):=fun _=>by rw [bx];simp;omega
   have HZ2:Hid (∀_:Unit,c1.size+c2.size≤1000000000):=fun _=>by
    have:=fi (HK.out ()) k
    rw [hc1,hc2,bx,ByteArray.size_append,bx];simp;omega
   have HC2:Hid (∀_:Unit,c2=x++mkS [0]):=fun _=>hc2
   have HC3:Hid (∀_:Unit,c3=c1++c2):=fun _=>hc3
   have HE:Hid (∀_:Unit,c3=mkS (cdk ks (k+1))):=fun _=>by
    rw [hc3,hc2,hc1,code_next (by rw [HN.out ()];exact hlt),←hx,←bF,←bF,cp]
   rw [←hc1]
   clear hc1 hc2 hc3 hx hxz
   go_wp2_with (first
    | ((with_reducible refine ab (some 19) (.load 9 (.tmp 18)) ?_);go_must (refine aa (.string x) rfl (ar (.string x) (HC.out) rfl aj) ?_))
    | ((with_reducible refine ab (some 22) (.binOp .add 9 (.tmp 21) (.const (.string {data:=#[0]})) 9) ?_);go_must (refine aa (.string c2) rfl (bP x (mkS [0]) c2 (HC2.out ()) rfl rfl (HZ1.out ())) ?_))
    | ((with_reducible refine ab (some 23) (.binOp .add 9 (.tmp 20) (.tmp 22) 9) ?_);go_must (refine aa (.string c3) rfl (bP c1 c2 c3 (HC3.out ()) rfl rfl (HZ2.out ())) ?_)))
   go_roundw
   case rel=>exact ⟨k+1,by omega,by go_num,by rw [HE.out ()],HB.out⟩
   case measure=>simp [intOf];omega
  ·have hki:¬(k:Int)<(n:Int):=by omega
   have HE:Hid (∀_:Unit,cdk ks k=codeOf (ks.map bs)):=fun _=>by rw [cdk,List.take_of_length_le (by rw [HN.out ()];omega)]
   go_wp2_with fail
   go_ret
   refine ⟨?_,(hm.call HB.out).below⟩
   rw [HR.out (),HE.out ()]
   rfl
open Go Go.RowKit Go.Maps
def parOk (l:List UInt8):Bool:=isP l && !l.isEmpty
def parOf (l:List UInt8):List UInt8:=if parOk l then jn 47 (segsOf l).dropLast else []
theorem dj {l:List UInt8} (h:isP l=false):parOk l=false∧parOf l=[]:=by simp [parOf,parOk,h]
theorem cI {l:List UInt8} (h:segsOf l=[]):parOk l=false∧parOf l=[]:=by
 have:parOk l=false:=by
  cases hi:isP l with
  | false=>exact (dj hi).1
  | true =>
   by_cases h0:l=[]
   ·subst h0;rfl
   ·exact absurd h (segsOf_ne hi h0)
 exact ⟨this,by simp [parOf,this]⟩
theorem cm {l:List UInt8} (hi:isP l=true) (h:segsOf l≠[]):parOk l=true∧parOf l=jn 47 (segsOf l).dropLast:=by
 have h0:l.isEmpty=false:=by
  cases l with
  | nil=>exact absurd rfl h
  | cons _ _=>rfl
 have:parOk l=true:=by simp [parOk,hi,h0]
 exact ⟨this,by simp [parOf,this]⟩
theorem parentP_any (s:ByteArray) (w:World) (hs:s.size≤1000) (hM:MaxL w) :
  Calls Tryz.prog 25 #[.string s] w fun e w'=>e=.returned (.tuple #[.string (mkS (parOf (bs s))),.bool (parOk (bs s))])∧Below w.heap.size w w':=by
 have hm:=Mem.start w
 have HM:Hid (MaxL w):=hM
 clear hM
 obtain ⟨ks,hks⟩:∃ks,ks=segsB s:=⟨_,rfl⟩
 obtain ⟨r,hr⟩:∃r,r=isP (bs s):=⟨_,rfl⟩
 have HK:Hid (∀_:Unit,PlOk ks):=fun _=>by rw [hks];exact aR s
 have HKS:Hid (∀_:Unit,segsOf (bs s)=ks.map bs):=fun _=>by rw [hks,bm]
 have HRR:Hid (∀_:Unit,isP (bs s)=r):=fun _=>hr.symm
 have HPL:Hid (∀W,MaxL W→Calls Tryz.prog 49 #[.string s] W fun e w'=>e=.returned (.tuple #[.agg (plv ks).toArray,.bool r])∧Below W.heap.size W w'):=fun W hW=>by rw [hks,hr];exact bI s W hs hW
 clear hks hr hs
 cases r with
 | false =>
  have HP:=dj (HRR.out ())
  have HP1:Hid (∀_:Unit,parOk (bs s)=false∧parOf (bs s)=[]):=fun _=>HP
  clear HP
  go_enter Tryz.func25,Tryz.ntmps25
  go_wp2_with (first
   | (go_at_call 49;refine (HPL.out _ (HM.out.below hm.below)).mono ?_;rintro e w' ⟨he,hb⟩;subst he;replace hm:=hm.call hb;clear hb)
   | ((with_reducible refine ab (some 4) (.alloc 93) ?_);refine ae _ a8 hm ?_;clear hm;intro w2 g4 hm)
   | ((with_reducible refine ab none (.store 93 (.tmp 4) (.tmp 9)) ?_);refine af 0 (plv ks) hm rfl rfl rfl 3 aK rfl rfl (by intro v hv;simp [plv] at hv;rcases hv with rfl|rfl|rfl<;>rfl) ?_;clear hm;intro w3 hm))
  refine am ?_
  refine ag (T:=fun W=>Mem w [] W [(g4,plv ks,93)]) (by kernel_rfl) hm ?_
  intro wc hbw hmw
  replace hm:Mem w [] wc [(g4,plv ks,93)]:=hmw
  clear hbw hmw
  refine aT 0 (v:=.bool false) rfl (by kernel_rfl) rfl (fun W _=>by go_simp) hm ?_
  go_simp
  refine aT 1 (v:=.bool true) rfl (by kernel_rfl) rfl (fun W _=>by go_simp) hm ?_
  go_simp
  refine aT 2 (v:=.bool true) rfl (by kernel_rfl) rfl (fun W _=>by go_simp) hm ?_
  go_simp
  refine aJ 3 rfl (by kernel_rfl) (by kernel_rfl) (by kernel_rfl) rfl hm ?_
  go_simp
  refine aJ 4 rfl (by kernel_rfl) (by kernel_rfl) (by kernel_rfl) rfl hm ?_
  go_simp
  refine aJ 5 rfl (by kernel_rfl) (by kernel_rfl) (by kernel_rfl) rfl hm ?_
  go_simp
  refine aT 6 (v:=.bool true) rfl (by kernel_rfl) rfl (fun W _=>by go_simp) hm ?_
  go_simp
  refine wpAnyH_done (by kernel_rfl) ?_ _
  simp only [endsIn]
  go_wp2_with fail
  go_ret2
  exact ⟨by rw [(HP1.out ()).1,(HP1.out ()).2];rfl,hm.below⟩
 | true =>
  by_cases h0:ks=[]
  ·have HP1:Hid (∀_:Unit,parOk (bs s)=false∧parOf (bs s)=[]):=fun _=>cI (by rw [HKS.out (),h0];rfl)
   have HEQ:Hid (∀_:Unit,true=decide (ks=[])):=fun _=>by simp [h0]
   clear h0
   go_enter Tryz.func25,Tryz.ntmps25
   go_wp2_with (first
    | (go_at_call 49;refine (HPL.out _ (HM.out.below hm.below)).mono ?_;rintro e w' ⟨he,hb⟩;subst he;replace hm:=hm.call hb;clear hb)
    | ((with_reducible refine ab (some 4) (.alloc 93) ?_);refine ae _ a8 hm ?_;clear hm;intro w2 g4 hm)
    | ((with_reducible refine ab none (.store 93 (.tmp 4) (.tmp 9)) ?_);refine af 0 (plv ks) hm rfl rfl rfl 3 aK rfl rfl (by intro v hv;simp [plv] at hv;rcases hv with rfl|rfl|rfl<;>rfl) ?_;clear hm;intro w3 hm))
   refine am ?_
   refine ag (T:=fun W=>Mem w [] W [(g4,plv ks,93)]) (by kernel_rfl) hm ?_
   intro wc hbw hmw
   replace hm:Mem w [] wc [(g4,plv ks,93)]:=hmw
   clear hbw hmw
   refine aT 0 (v:=.bool true) rfl (by kernel_rfl) rfl (fun W _=>by go_simp) hm ?_
   go_simp
   refine aT 1 (v:=.bool false) rfl (by kernel_rfl) rfl (fun W _=>by go_simp) hm ?_
   go_simp
   refine aT 2 (v:=.bool false) rfl (by kernel_rfl) rfl (fun W _=>by go_simp) hm ?_
   go_simp
   refine aG 3 (v:=.agg (plv ks).toArray) rfl (by kernel_rfl) rfl (fun W hW=>al 0 (plv ks) (Mem.get hW 0 rfl) rfl _ bc rfl 3 aK (Nat.le_refl 3) rfl) hm ?_
   go_simp
   refine aO 4 (by kernel_rfl) rfl rfl ?_
   intro K hK
   go_wp2_with (go_at_call 50;refine (bC _).mono ?_;rintro e w' ⟨he,hb⟩;subst he;replace hm:=hm.call hb;clear hb)
   refine hK _ _ hm ?_
   clear hK K
   go_simp
   refine aG 5 (v:=.bool true) rfl (by kernel_rfl) rfl (fun W _=>exec_eqP (HK.out ()) PlOk.nil true (HEQ.out ()) rfl rfl) hm ?_
   go_simp
   refine aT 6 (v:=.bool true) rfl (by kernel_rfl) rfl (fun W _=>by go_simp) hm ?_
   go_simp
   refine wpAnyH_done (by kernel_rfl) ?_ _
   simp only [endsIn]
   go_wp2_with fail
   go_ret2
   exact ⟨by rw [(HP1.out ()).1,(HP1.out ()).2];rfl,hm.below⟩
  ·have HP1:Hid (∀_:Unit,parOk (bs s)=true∧parOf (bs s)=jn 47 (ks.dropLast.map bs)):=fun _=>by
    have:=cm (HRR.out ()) (by rw [HKS.out ()];simpa using h0)
    rw [HKS.out (),←List.map_dropLast] at this
    exact this
   have HEQ:Hid (∀_:Unit,false=decide (ks=[])):=fun _=>by simp [h0]
   have HTX:Hid (∀W,Calls Tryz.prog 52 #[.agg (plv ks.dropLast).toArray] W fun e w'=>e=.returned (.string (mkS (parOf (bs s))))∧Below W.heap.size W w'):=fun W=>by rw [(HP1.out ()).2];exact text_any ((HK.out ()).drop) W
   clear h0
   go_enter Tryz.func25,Tryz.ntmps25
   go_wp2_with (first
    | (go_at_call 49;refine (HPL.out _ (HM.out.below hm.below)).mono ?_;rintro e w' ⟨he,hb⟩;subst he;replace hm:=hm.call hb;clear hb)
    | ((with_reducible refine ab (some 4) (.alloc 93) ?_);refine ae _ a8 hm ?_;clear hm;intro w2 g4 hm)
    | ((with_reducible refine ab none (.store 93 (.tmp 4) (.tmp 9)) ?_);refine af 0 (plv ks) hm rfl rfl rfl 3 aK rfl rfl (by intro v hv;simp [plv] at hv;rcases hv with rfl|rfl|rfl<;>rfl) ?_;clear hm;intro w3 hm))
   refine am ?_
   refine ag (T:=fun W=>Mem w [] W [(g4,plv ks,93)]) (by kernel_rfl) hm ?_
   intro wc hbw hmw
   replace hm:Mem w [] wc [(g4,plv ks,93)]:=hmw
   clear hbw hmw
   refine aT 0 (v:=.bool true) rfl (by kernel_rfl) rfl (fun W _=>by go_simp) hm ?_
   go_simp
   refine aT 1 (v:=.bool false) rfl (by kernel_rfl) rfl (fun W _=>by go_simp) hm ?_
   go_simp
   refine aT 2 (v:=.bool false) rfl (by kernel_rfl) rfl (fun W _=>by go_simp) hm ?_
   go_simp
   refine aG 3 (v:=.agg (plv ks).toArray) rfl (by kernel_rfl) rfl (fun W hW=>al 0 (plv ks) (Mem.get hW 0 rfl) rfl _ bc rfl 3 aK (Nat.le_refl 3) rfl) hm ?_
   go_simp
   refine aO 4 (by kernel_rfl) rfl rfl ?_
   intro K hK
   go_wp2_with (go_at_call 50;refine (bC _).mono ?_;rintro e w' ⟨he,hb⟩;subst he;replace hm:=hm.call hb;clear hb)
   refine hK _ _ hm ?_
   clear hK K
   go_simp
   refine aG 5 (v:=.bool false) rfl (by kernel_rfl) rfl (fun W _=>exec_eqP (HK.out ()) PlOk.nil false (HEQ.out ()) rfl rfl) hm ?_
   go_simp
   refine aT 6 (v:=.bool false) rfl (by kernel_rfl) rfl (fun W _=>by go_simp) hm ?_
   go_simp
   refine wpAnyH_done (by kernel_rfl) ?_ _
   simp only [endsIn]
   go_wp2_with (first
    | ((with_reducible refine ab (some 18) (.load 93 (.tmp 4)) ?_);refine av 0 hm rfl rfl _ bc rfl 3 aK (by rfl) ?_)
    | (go_at_call 51;refine (fc (HK.out ()) _).mono ?_;rintro e w' ⟨he,hb⟩;subst he;replace hm:=hm.call hb;clear hb)
    | (go_at_call 52;refine (HTX.out _).mono ?_;rintro e w' ⟨he,hb⟩;subst he;replace hm:=hm.call hb;clear hb))
   go_ret2
   exact ⟨by rw [(HP1.out ()).1];rfl,hm.below⟩
def undOf (a b:List UInt8):Bool:=isP a&&(isP b&&(segsOf b).isPrefixOf (segsOf a))
theorem abv_iff {ka kb:List ByteArray} (ha:PlOk ka) (hb:PlOk kb):(∃v,abv ka 0 (.agg (plv kb).toArray) v)↔(kb.map bs).isPrefixOf (ka.map bs)=true:=by
 rw [List.isPrefixOf_iff_prefix]
 constructor
 ·rintro ⟨v,_,n,_,hn,he⟩
  rw [plvA_inj hb (ch ha n) he,List.map_take]
  exact List.take_prefix _ _
 ·intro h
  have e:=List.prefix_iff_eq_take.1 h
  have hl:=h.length_le
  simp only [List.length_map] at e hl
  refine ⟨unitV,rfl,kb.length,by omega,hl,?_⟩
  have e2:kb=ka.take kb.length:=by
   have:=congrArg (List.map mkS) e
   rw [bo,←List.map_take,bo] at this
   exact this
  rw [←e2]
theorem look_abv {w:World} {m q:Nat} {ka kb:List ByteArray} (ha:PlOk ka) (hb:PlOk kb) (h:KM Tryz.prog 93 w m q (abv ka 0)) (r:Bool) (hr:r=(kb.map bs).isPrefixOf (ka.map bs)) :
  (Instr.lookup 114 (.map (some m)) (.agg (plv kb).toArray) true).run Tryz.prog w=.ok (.tuple #[unitV,.bool r]) w:=by
 obtain ⟨kl,hkl⟩:=pl_key hb
 have hi:=abv_iff ha hb
 cases r with
 | true =>
  obtain ⟨v,hv⟩:=hi.2 hr.symm
  have hv2:=hv.1
  subst hv2
  exact h.look pl_law un_set (zero_unit w) hkl hv
 | false =>
  refine h.lookNo pl_law un_set (zero_unit w) hkl (fun v hv=>?_)
  rw [hi.1 ⟨v,hv⟩] at hr
  cases hr
theorem ek (a b:ByteArray) (w:World) (ha:a.size≤1000) (hb:b.size≤1000) (hM:MaxL w) :
  Calls Tryz.prog 56 #[.string a,.string b] w fun e w'=>e=.returned (.bool (undOf (bs a) (bs b)))∧Below w.heap.size w w':=by
 have hm:=Mem.start w
 have HM:Hid (MaxL w):=hM
 clear hM
 obtain ⟨ka,hka⟩:∃ks,ks=segsB a:=⟨_,rfl⟩
 obtain ⟨kb,hkb⟩:∃ks,ks=segsB b:=⟨_,rfl⟩
 obtain ⟨ra,hra⟩:∃r,r=isP (bs a):=⟨_,rfl⟩
 obtain ⟨rb,hrb⟩:∃r,r=isP (bs b):=⟨_,rfl⟩
 obtain ⟨rr,hrr⟩:∃r,r=(kb.map bs).isPrefixOf (ka.map bs):=⟨_,rfl⟩
 have HKA:Hid (∀_:Unit,PlOk ka):=fun _=>by rw [hka];exact aR a
 have HKB:Hid (∀_:Unit,PlOk kb):=fun _=>by rw [hkb];exact aR b
 have HU:Hid (∀_:Unit,undOf (bs a) (bs b)=(ra&&(rb&&rr))):=fun _=>by rw [undOf,hra,hrb,hrr,hka,hkb,bm,bm]
 have HRR:Hid (∀_:Unit,rr=(kb.map bs).isPrefixOf (ka.map bs)):=fun _=>hrr
 have HPA:Hid (∀W,MaxL W→Calls Tryz.prog 49 #[.string a] W fun e w'=>e=.returned (.tuple #[.agg (plv ka).toArray,.bool ra])∧Below W.heap.size W w'):=fun W hW=>by rw [hka,hra];exact bI a W ha hW
 have HPB:Hid (∀W,MaxL W→Calls Tryz.prog 49 #[.string b] W fun e w'=>e=.returned (.tuple #[.agg (plv kb).toArray,.bool rb])∧Below W.heap.size W w'):=fun W hW=>by rw [hkb,hrb];exact bI b W hb hW
 clear hka hkb hra hrb hrr ha hb
 have tk1:Nat:=0
 cases ra with
 | false =>
  go_enter Tryz.func56,Tryz.ntmps56
  go_wp2_with (first
   | (go_at_call 49;clear tk1;refine (HPA.out _ (HM.out.below hm.below)).mono ?_;rintro e w' ⟨he,hb⟩;subst he;replace hm:=hm.call hb;clear hb)
   | (go_at_call 49;refine (HPB.out _ (HM.out.below hm.below)).mono ?_;rintro e w' ⟨he,hb⟩;subst he;replace hm:=hm.call hb;clear hb)
   | ((with_reducible refine ab (some 5) (.alloc 93) ?_);refine ae _ a8 hm ?_;clear hm;intro w2 g5 hm)
   | ((with_reducible refine ab none (.store 93 (.tmp 5) (.tmp 12)) ?_);refine af 0 (plv ka) hm rfl rfl rfl 3 aK rfl rfl (by intro v hv;simp [plv] at hv;rcases hv with rfl|rfl|rfl<;>rfl) ?_;clear hm;intro w3 hm)
   | ((with_reducible refine ab (some 7) (.alloc 93) ?_);refine ae _ a8 hm ?_;clear hm;intro w4 g7 hm)
   | ((with_reducible refine ab none (.store 93 (.tmp 7) (.tmp 17)) ?_);refine af 0 (plv kb) hm rfl rfl rfl 3 aK rfl rfl (by intro v hv;simp [plv] at hv;rcases hv with rfl|rfl|rfl<;>rfl) ?_;clear hm;intro w5 hm))
  go_ret
  exact ⟨by rw [HU.out ()];rfl,hm.below⟩
 | true =>
  cases rb with
  | false =>
   go_enter Tryz.func56,Tryz.ntmps56
   go_wp2_with (first
    | (go_at_call 49;clear tk1;refine (HPA.out _ (HM.out.below hm.below)).mono ?_;rintro e w' ⟨he,hb⟩;subst he;replace hm:=hm.call hb;clear hb)
    | (go_at_call 49;refine (HPB.out _ (HM.out.below hm.below)).mono ?_;rintro e w' ⟨he,hb⟩;subst he;replace hm:=hm.call hb;clear hb)
    | ((with_reducible refine ab (some 5) (.alloc 93) ?_);refine ae _ a8 hm ?_;clear hm;intro w2 g5 hm)
    | ((with_reducible refine ab none (.store 93 (.tmp 5) (.tmp 12)) ?_);refine af 0 (plv ka) hm rfl rfl rfl 3 aK rfl rfl (by intro v hv;simp [plv] at hv;rcases hv with rfl|rfl|rfl<;>rfl) ?_;clear hm;intro w3 hm)
    | ((with_reducible refine ab (some 7) (.alloc 93) ?_);refine ae _ a8 hm ?_;clear hm;intro w4 g7 hm)
    | ((with_reducible refine ab none (.store 93 (.tmp 7) (.tmp 17)) ?_);refine af 0 (plv kb) hm rfl rfl rfl 3 aK rfl rfl (by intro v hv;simp [plv] at hv;rcases hv with rfl|rfl|rfl<;>rfl) ?_;clear hm;intro w5 hm))
   go_ret
   exact ⟨by rw [HU.out ()];rfl,hm.below⟩
  | true =>
   go_enter Tryz.func56,Tryz.ntmps56
   go_wp2_with (first
    | (go_at_call 49;clear tk1;refine (HPA.out _ (HM.out.below hm.below)).mono ?_;rintro e w' ⟨he,hb⟩;subst he;replace hm:=hm.call hb;clear hb)
    | (go_at_call 49;refine (HPB.out _ (HM.out.below hm.below)).mono ?_;rintro e w' ⟨he,hb⟩;subst he;replace hm:=hm.call hb;clear hb)
    | ((with_reducible refine ab (some 5) (.alloc 93) ?_);refine ae _ a8 hm ?_;clear hm;intro w2 g5 hm)
    | ((with_reducible refine ab none (.store 93 (.tmp 5) (.tmp 12)) ?_);refine af 0 (plv ka) hm rfl rfl rfl 3 aK rfl rfl (by intro v hv;simp [plv] at hv;rcases hv with rfl|rfl|rfl<;>rfl) ?_;clear hm;intro w3 hm)
    | ((with_reducible refine ab (some 7) (.alloc 93) ?_);refine ae _ a8 hm ?_;clear hm;intro w4 g7 hm)
    | ((with_reducible refine ab none (.store 93 (.tmp 7) (.tmp 17)) ?_);refine af 0 (plv kb) hm rfl rfl rfl 3 aK rfl rfl (by intro v hv;simp [plv] at hv;rcases hv with rfl|rfl|rfl<;>rfl) ?_;clear hm;intro w5 hm))
   refine am ?_
   refine ag (T:=fun W=>Mem w [] W [(g7,plv kb,93),(g5,plv ka,93)]) (by kernel_rfl) hm ?_
   intro wc hbw hmw
   replace hm:Mem w [] wc [(g7,plv kb,93),(g5,plv ka,93)]:=hmw
   clear hbw hmw
   refine aT 0 (v:=.agg (plv ka).toArray) rfl (by kernel_rfl) rfl (fun W hW=>al 0 (plv ka) (Mem.get hW 1 rfl) rfl _ bc rfl 3 aK (Nat.le_refl 3) rfl) hm ?_
   go_simp
   refine aT 2 (v:=.agg (plv kb).toArray) rfl (by kernel_rfl) rfl (fun W hW=>al 0 (plv kb) (Mem.get hW 0 rfl) rfl _ bc rfl 3 aK (Nat.le_refl 3) rfl) hm ?_
   go_simp
   refine aO 1 (by kernel_rfl) rfl rfl ?_
   intro K hK
   go_wp2_with (go_at_call 73;refine (above_any (HKA.out ()) _).mono ?_;rintro e w' ⟨m,he,hkm,hb⟩;subst he;have HKM:Hid (∃q,KM Tryz.prog 93 w' m q (abv ka 0)):=hkm;clear hkm;replace hm:=hm.call hb;clear hb)
   refine hK _ _ hm ?_
   clear hK K
   go_simp
   refine anyH_more (fun W=>Mem w [] W [(g7,plv kb,93),(g5,plv ka,93)]∧∃q,KM Tryz.prog 93 W m q (abv ka 0)) (fun _ h=>h.1) _ _ _ _ ?_
   replace hm:Mem w [] _ [(g7,plv kb,93),(g5,plv ka,93)]∧∃q,KM Tryz.prog 93 _ m q (abv ka 0):=⟨hm,HKM.out⟩
   refine aT 3 (v:=.tuple #[unitV,.bool rr]) rfl (by kernel_rfl) rfl (fun W hW=>by obtain ⟨q,hkm⟩:=hW.2;exact co (look_abv (HKA.out ()) (HKB.out ()) hkm rr (HRR.out ())) rfl rfl) hm ?_
   go_simp
   refine aT 4 (v:=.tuple #[unitV,.bool rr]) rfl (by kernel_rfl) rfl (fun W _=>by go_simp) hm ?_
   go_simp
   refine aT 5 (v:=unitV) rfl (by kernel_rfl) rfl (fun W _=>by go_simp) hm ?_
   go_simp
   refine aT 6 (v:=.bool rr) rfl (by kernel_rfl) rfl (fun W _=>by go_simp) hm ?_
   go_simp
   refine aT 7 (v:=.bool rr) rfl (by kernel_rfl) rfl (fun W _=>by go_simp) hm ?_
   go_simp
   refine wpAnyH_done (by kernel_rfl) ?_ _
   simp only [endsIn]
   replace hm:=hm.1
   go_wp2_with fail
   go_ret
   exact ⟨by rw [HU.out ()];rfl,hm.below⟩
def decErr (l:List UInt8):Int:=if decOk l then 0 else 110
open Go Go.ChangeShapes Go.WideShapes Go.ChangeAt Go.RowKit
theorem own:ownKnob Tryz.prog.godebug=none:=by kernel_rfl
theorem laidOut:laidOutB Tryz.prog=true:=by kernel_rfl
theorem maxl_of {W:World} (h:W.ShapedOpen Tryz.prog):MaxL W :=
 cell_of_shapedOpen_int (P:=Tryz.prog) (g:=0) (t:=3) (zero:=#[.int .i64 0]) h (of_decide_eq_true (by kernel_rfl)) (by kernel_rfl) rfl (by kernel_rfl) (by kernel_rfl) Tryz.underlying3
open Go Go.RowKit
def leB (a b:List UInt8):Bool:=Op.bytesLess a b||a==b
section
variable {a:Act} {w:World} {dst:Option Tmp} {typ:TypeId} {pos:String} {aft:Array Edge} {gd:Option (Nat×Bool)}
theorem exec_neB {x y:Operand} {rt:TypeId} (s s':ByteArray) (v:Bool) (hv:(s==s')=v) (hx:a.eval x=.string s) (hy:a.eval y=.string s') :
  (execOp a.eval {dst:=dst,op:=.binOp .neq 9 x y rt,type:=typ,pos:=pos,after:=aft,guard:=gd}).run Tryz.prog w=.ok (.value (.bool (!v))) w:=by
 subst hv
 unfold execOp
 simp only [hx,hy]
 simp [eqGuard,binOp,Op.stringOp,beq_toListBytes]
end
open Go Go.RowKit
section
variable {P:Program} {ops:Array Oper} {rest:List Oper} {a:Act} {w w0:World} {Q:Exit→Act→World→Prop} {dst:Option Tmp} {typ:TypeId} {pos:String} {aft:Array Edge} {gd:Option (Nat×Bool)} {S:List Nat} {rows:List (Nat×List Value×TypeId)}
theorem run_bsl1 (w:World) {t elem:TypeId} (z v:Value) (hu:P.underlying t=some (.slice elem)) (hi:(P.info? elem).map (fun i=>(i.zero,i.size))=some (some z,1)) (hz:z.cells=#[z]) (hv:v.cells=#[v]) :
  (Instr.buildSlice t 1 #[(0,v)]).run P w=.ok (.slice (some ⟨w.heap.size,0,none⟩) 1 1) (w.alloc (.cells [v].toArray elem)):=by
 obtain ⟨hz1,hs1⟩:=zero_of_info hi
 cases hq:P.info? elem with
 | none=>simp [hq] at hi
 | some q =>
  have hs:q.size=1:=by simpa [hq] using hs1
  have e:Array.map (fun x=>([z][x % 1]?).getD default) (Array.range 1)=#[z]:=by
   apply Array.ext
   ·simp
   ·intro i h1 h2
    have h3:i=0:=by simpa using h2
    subst h3
    simp
  simp [Instr.buildSlice,run_underlying hu,sizeOf,typeInfo,hq,hs,hz1,hz,Instr.fill,hv,newRow,newObj]
  rw [e]
  rfl
theorem bK {t elem:TypeId} {x:Operand} (hw:Region.wanted {dst:=dst,op:=.buildSlice t 1 #[(0,x)],type:=typ,pos:=pos,after:=aft,guard:=gd} (yielded ops a.tmps)=true) (z v:Value) (hu:P.underlying t=some (.slice elem)) (hi:(P.info? elem).map (fun i=>(i.zero,i.size))=some (some z,1)) (hz:z.cells=#[z]) (hx:a.eval x=v) (hv:v.cells=#[v]) (hm:Mem w0 S w rows)
  (h:∀w' g,Below w.heap.size w w'→Mem w0 S w' ((g,[v],elem)::rows)→wpList P ops Q rest (a.put dst (.slice (some ⟨g,0,none⟩) 1 1)) w') :
  wpList P ops Q ({dst:=dst,op:=.buildSlice t 1 #[(0,x)],type:=typ,pos:=pos,after:=aft,guard:=gd}::rest) a w:=by
 refine wpList_step fun K hK=>?_
 rw [if_pos hw]
 have hh:=hK _ _ (h _ _ ((Below.refl _ _).alloc (Nat.le_refl _) _) (hm.alloc [v] elem))
 unfold Oper.wp execOp
 simp only [List.map_toArray,List.map_cons,List.map_nil,hx,run_bsl1 (P:=P) w z v hu hi hz hv,Sem.run_bind,Sem.run_pure,Result.andThen_ok]
 exact hh
end
open Go Go.RowKit
theorem seg_bad {l:List UInt8} {k:Nat} {b:UInt8} (hb:l[k]?=some b) (ho:okU b=false):seg l=false:=by
 have hall:l.all okU=false:=by
  rw [List.all_eq_false]
  exact ⟨b,List.mem_of_getElem? hb,by rw [ho];simp⟩
 unfold seg
 rw [hall];simp
theorem d5 (s:ByteArray) (w:World) (hs:s.size≤maxLen):Calls Tryz.prog 72 #[.string s] w fun e w'=>e=.returned (.bool (seg (bs s)))∧w'=w:=by
 obtain ⟨n,hn⟩:∃n:Nat,n=s.size:=⟨_,rfl⟩
 have HN:Hid (∀_:Unit,n=s.size):=fun _=>hn
 have hnm:n≤9223372036854775807:=by unfold maxLen at hs;omega
 clear hn hs
 go_enter Tryz.func72,Tryz.ntmps72
 go_wp2_with fail
 go_loopw [3] (fun vi wr=>∃k:Nat,k≤n∧vi=.int .i64 (k:Int)∧Hid (((bs s).take k).all okU=true)∧wr=w) (fun vi _=>n - (intOf vi).toNat)
 case atStart=>exact ⟨0,by omega,rfl,rfl,rfl⟩
 case round =>
  obtain ⟨k,hk,rfl,HA,rfl⟩:=hrel
  by_cases hlt:k<n
  ·have hki:(k:Int)<(s.size:Int):=by have:=HN.out ();omega
   obtain ⟨b,hb,hb2⟩:=byte_at s k (by have:=HN.out ();omega)
   obtain ⟨x,hx⟩:∃x:Int,x=(b.toNat:Int):=⟨_,rfl⟩
   have HB:Hid (∀_:Unit,∃c,s.data[k]?=some c∧(c.toNat:Int)=x):=fun _=>⟨b,hb,hx.symm⟩
   have HB2:Hid (∀_:Unit,(bs s)[k]?=some b):=fun _=>hb2
   have HXB:Hid (∀_:Unit,okU b=okc x):=fun _=>by rw [hx];rfl
   clear hb hb2 hx
   by_cases h1:97≤x
   ·by_cases h2:x≤122
    ·have HO:Hid (∀_:Unit,okU b=true):=fun _=>by rw [HXB.out ()];simp [okc];omega
     go_wp2_with (first
      | ((with_reducible refine ab (some 12) (.index 9 (.tmp 10) (.tmp 11)) ?_);refine ck aF s k x rfl rfl rfl (HB.out ()) ?_)
      | ((with_reducible refine ax (some 17) (.index 9 (.tmp 15) (.tmp 16)) (some (4,true)) ?_);go_must (refine aa (.int .u8 x) rfl (bh aF s k x rfl rfl rfl (HB.out ())) ?_))
      | ((with_reducible refine ax (some 23) (.index 9 (.tmp 21) (.tmp 22)) (some (10,false)) ?_);go_must (refine aa (.int .u8 x) rfl (bh aF s k x rfl rfl rfl (HB.out ())) ?_))
      | ((with_reducible refine ax (some 28) (.index 9 (.tmp 26) (.tmp 27)) (some (15,true)) ?_);go_must (refine aa (.int .u8 x) rfl (bh aF s k x rfl rfl rfl (HB.out ())) ?_)))
     go_roundw
     case rel=>exact ⟨k+1,by omega,by go_num,fe HA.out (HB2.out ()) (HO.out ()),by first|rfl|trivial⟩
     case measure=>simp [intOf];omega
    ·have h3:48≤x:=by omega
     have h4:¬x≤57:=by omega
     have HO:Hid (∀_:Unit,okU b=false):=fun _=>by rw [HXB.out ()];simp [okc];omega
     go_wp2_with (first
      | ((with_reducible refine ab (some 12) (.index 9 (.tmp 10) (.tmp 11)) ?_);refine ck aF s k x rfl rfl rfl (HB.out ()) ?_)
      | ((with_reducible refine ax (some 17) (.index 9 (.tmp 15) (.tmp 16)) (some (4,true)) ?_);go_must (refine aa (.int .u8 x) rfl (bh aF s k x rfl rfl rfl (HB.out ())) ?_))
      | ((with_reducible refine ax (some 23) (.index 9 (.tmp 21) (.tmp 22)) (some (10,false)) ?_);go_must (refine aa (.int .u8 x) rfl (bh aF s k x rfl rfl rfl (HB.out ())) ?_))
      | ((with_reducible refine ax (some 28) (.index 9 (.tmp 26) (.tmp 27)) (some (15,true)) ?_);go_must (refine aa (.int .u8 x) rfl (bh aF s k x rfl rfl rfl (HB.out ())) ?_)))
     go_ret
     refine ⟨?_,rfl⟩
     rw [seg_bad (HB2.out ()) (HO.out ())]
     rfl
   ·by_cases h3:48≤x
    ·by_cases h4:x≤57
     ·have HO:Hid (∀_:Unit,okU b=true):=fun _=>by rw [HXB.out ()];simp [okc];omega
      go_wp2_with (first
       | ((with_reducible refine ab (some 12) (.index 9 (.tmp 10) (.tmp 11)) ?_);refine ck aF s k x rfl rfl rfl (HB.out ()) ?_)
       | ((with_reducible refine ax (some 17) (.index 9 (.tmp 15) (.tmp 16)) (some (4,true)) ?_);go_must (refine aa (.int .u8 x) rfl (bh aF s k x rfl rfl rfl (HB.out ())) ?_))
       | ((with_reducible refine ax (some 23) (.index 9 (.tmp 21) (.tmp 22)) (some (10,false)) ?_);go_must (refine aa (.int .u8 x) rfl (bh aF s k x rfl rfl rfl (HB.out ())) ?_))
       | ((with_reducible refine ax (some 28) (.index 9 (.tmp 26) (.tmp 27)) (some (15,true)) ?_);go_must (refine aa (.int .u8 x) rfl (bh aF s k x rfl rfl rfl (HB.out ())) ?_)))
      go_roundw
      case rel=>exact ⟨k+1,by omega,by go_num,fe HA.out (HB2.out ()) (HO.out ()),by first|rfl|trivial⟩
      case measure=>simp [intOf];omega
     ·have HO:Hid (∀_:Unit,okU b=false):=fun _=>by rw [HXB.out ()];simp [okc];omega
      go_wp2_with (first
       | ((with_reducible refine ab (some 12) (.index 9 (.tmp 10) (.tmp 11)) ?_);refine ck aF s k x rfl rfl rfl (HB.out ()) ?_)
       | ((with_reducible refine ax (some 17) (.index 9 (.tmp 15) (.tmp 16)) (some (4,true)) ?_);go_must (refine aa (.int .u8 x) rfl (bh aF s k x rfl rfl rfl (HB.out ())) ?_))
       | ((with_reducible refine ax (some 23) (.index 9 (.tmp 21) (.tmp 22)) (some (10,false)) ?_);go_must (refine aa (.int .u8 x) rfl (bh aF s k x rfl rfl rfl (HB.out ())) ?_))
       | ((with_reducible refine ax (some 28) (.index 9 (.tmp 26) (.tmp 27)) (some (15,true)) ?_);go_must (refine aa (.int .u8 x) rfl (bh aF s k x rfl rfl rfl (HB.out ())) ?_)))
      go_ret
      refine ⟨?_,rfl⟩
      rw [seg_bad (HB2.out ()) (HO.out ())]
      rfl
    ·have HO:Hid (∀_:Unit,okU b=false):=fun _=>by rw [HXB.out ()];simp [okc];omega
     go_wp2_with (first
      | ((with_reducible refine ab (some 12) (.index 9 (.tmp 10) (.tmp 11)) ?_);refine ck aF s k x rfl rfl rfl (HB.out ()) ?_)
      | ((with_reducible refine ax (some 17) (.index 9 (.tmp 15) (.tmp 16)) (some (4,true)) ?_);go_must (refine aa (.int .u8 x) rfl (bh aF s k x rfl rfl rfl (HB.out ())) ?_))
      | ((with_reducible refine ax (some 23) (.index 9 (.tmp 21) (.tmp 22)) (some (10,false)) ?_);go_must (refine aa (.int .u8 x) rfl (bh aF s k x rfl rfl rfl (HB.out ())) ?_))
      | ((with_reducible refine ax (some 28) (.index 9 (.tmp 26) (.tmp 27)) (some (15,true)) ?_);go_must (refine aa (.int .u8 x) rfl (bh aF s k x rfl rfl rfl (HB.out ())) ?_)))
     go_ret
     refine ⟨?_,rfl⟩
     rw [seg_bad (HB2.out ()) (HO.out ())]
     rfl
  ·have hki:¬(k:Int)<(s.size:Int):=by have:=HN.out ();omega
   have hall:(bs s).all okU=true:=by
    have:=HA.out
    rw [List.take_of_length_le (by rw [aV];have:=HN.out ();omega)] at this
    exact this
   have HS:Hid (∀_:Unit,seg (bs s)=(decide (1≤s.size)&&decide (s.size≤10))):=fun _=>by rw [seg,hall,aV,Bool.and_true]
   clear hall
   by_cases h1:1≤s.size
   ·have h1i:(1:Int)≤(s.size:Int):=by omega
    by_cases h10:s.size≤10
    ·have h10i:(s.size:Int)≤10:=by omega
     go_wp2_with fail
     go_ret
     exact ⟨by rw [HS.out (),decide_eq_true h1,decide_eq_true h10];rfl,rfl⟩
    ·have h10i:¬(s.size:Int)≤10:=by omega
     go_wp2_with fail
     go_ret
     exact ⟨by rw [HS.out (),decide_eq_true h1,decide_eq_false h10];rfl,rfl⟩
   ·have h1i:¬(1:Int)≤(s.size:Int):=by omega
    go_wp2_with fail
    go_ret
    exact ⟨by rw [HS.out (),decide_eq_false h1];rfl,rfl⟩
section
variable {a:Act} {w:World} {dst:Option Tmp} {typ:TypeId} {pos:String} {aft:Array Edge} {gd:Option (Nat×Bool)}
theorem ext_bs (s:ByteArray) (l h:Nat):bs (s.extract l h)=((bs s).take h).drop l:=by
 show (s.extract l h).data.toList=_
 rw [ByteArray.data_extract,Array.toList_extract,List.extract_eq_take_drop,List.drop_take];rfl
theorem exec_slhS {x lo h:Operand} (s r:ByteArray) (l n:Nat) (hl:l≤n) (hn:n≤s.size) (hr:bs r=((bs s).take n).drop l) (hx:a.eval x=.string s) (hlo:a.eval lo=.int .i64 (l:Int)) (hh:a.eval h=.int .i64 (n:Int)) :
  (execOp a.eval {dst:=dst,op:=.slice 9 x (some lo) (some h) none,type:=typ,pos:=pos,after:=aft,guard:=gd}).run Tryz.prog w=.ok (.value (.string r)) w:=by
 have e:s.extract l n=r:=bs_inj (by rw [hr,ext_bs])
 have h0:(0:Int)≤(l:Int):=by omega
 have h3:(0:Int)≤(n:Int):=by omega
 unfold execOp
 simp only [hx,Option.map_none,Option.map_some,hlo,hh,Sem.run_bind,run_sliceAt_string _ _ _ _ _ _ aF]
 simp [Instr.slice,Instr.sliceBounds,Instr.sliceBound,asIntOf,run_underlying aF,h0,h3,hl,hn,e,Result.andThen]
theorem exec_sloS {x lo:Operand} (s r:ByteArray) (l:Nat) (hl:l≤s.size) (hr:bs r=(bs s).drop l) (hx:a.eval x=.string s) (hlo:a.eval lo=.int .i64 (l:Int)) :
  (execOp a.eval {dst:=dst,op:=.slice 9 x (some lo) none none,type:=typ,pos:=pos,after:=aft,guard:=gd}).run Tryz.prog w=.ok (.value (.string r)) w:=by
 have e:s.extract l s.size=r:=bs_inj (by rw [hr,ext_bs,List.take_of_length_le (by rw [aV];exact Nat.le_refl _)])
 have hc:(0:Int)≤(l:Int)∧(l:Int)≤(s.size:Int):=by omega
 unfold execOp
 simp only [hx,Option.map_none,Option.map_some,hlo,Sem.run_bind,run_sliceAt_string _ _ _ _ _ _ aF,run_slice_string_from_if _ _ _ _ _ aF,if_pos hc,Int.toNat_natCast,e,Result.andThen_ok,Sem.run_pure]
end
open Go Go.RowKit
theorem drop_at {l:List UInt8} {f k:Nat} {c:UInt8} (hf:f≤k) (hk:l[k]?=some c):l.drop f=(l.drop f).take (k - f)++c::l.drop (k+1):=by
 have hlt:k<l.length:=(List.getElem?_eq_some_iff.1 hk).1
 have h1:l.drop k=c::l.drop (k+1):=by
  rw [List.drop_eq_getElem_cons hlt]
  congr 1
  exact (List.getElem?_eq_some_iff.1 hk).2
 rw [←h1]
 conv=>lhs;rw [←List.take_append_drop (k - f) (l.drop f)]
 rw [List.drop_drop,show f+(k - f)=k by omega]
theorem cut_step {l:List UInt8} {f k:Nat} {c:UInt8} (hf:f≤k) (hk:l[k]?=some c) (hn:c ∉ (l.drop f).take (k - f)):cut c (l.drop f)=(l.drop f).take (k - f)::cut c (l.drop (k+1)):=by
 conv=>lhs;rw [drop_at hf hk]
 exact cw c hn _
theorem free_next {l:List UInt8} {f k:Nat} {c b:UInt8} (hf:f≤k) (hk:l[k]?=some b) (hb:b≠c) (hn:c ∉ (l.drop f).take (k - f)):c ∉ (l.drop f).take (k+1 - f):=by
 rw [show k+1 - f=(k - f)+1 by omega,List.take_add_one,List.getElem?_drop,show f+(k - f)=k by omega,hk]
 simp only [Option.toList_some,List.mem_append,List.mem_singleton,not_or]
 exact ⟨hn,fun e=>hb e.symm⟩
def cutB (c:UInt8) (s:ByteArray):List ByteArray:=(cut c (bs s)).map mkS
theorem take_drop_eq (l:List UInt8) (f k:Nat):(l.take k).drop f=(l.drop f).take (k - f):=by
 rw [List.drop_take]
theorem eU (c:UInt8) (s:ByteArray) (y:Int) (hy:y=(c.toNat:Int)) (w:World) (hs:s.size≤1000) :
  Calls Tryz.prog 71 #[.string s,.int .u8 y] w fun e w'=>∃v,e=.returned v∧SlS w' v (cutB c s)∧Below w.heap.size w w':=by
 obtain ⟨n,hn⟩:∃n:Nat,n=s.size:=⟨_,rfl⟩
 have HN:Hid (∀_:Unit,n=s.size):=fun _=>hn
 have hn1:n≤1000:=by omega
 have HY:Hid (∀_:Unit,y=(c.toNat:Int)):=fun _=>hy
 clear hn hs hy
 go_enter Tryz.func71,Tryz.ntmps71
 go_wp2_with fail
 go_loopw [5,6,7] (fun vl vf vi wr=>∃(k f:Nat) (ps:List ByteArray) (vb:Value),vb=vl∧k≤n∧f≤k∧vf=.int .i64 (f:Int)∧vi=.int .i64 (k:Int)∧Hid (wr.ownsRow w.heap.size 9 1 vb ps.length (strs ps))∧Hid (ps.length≤f)∧Hid (cut c (bs s)=ps.map bs++cut c ((bs s).drop f))∧Hid (c ∉ ((bs s).drop f).take (k - f))∧Hid (Below w.heap.size w wr)) (fun _ _ vi _=>n - (intOf vi).toNat)
 case atStart=>exact ⟨0,0,[],_,rfl,by omega,by omega,rfl,rfl,World.ownsRow_nil _ _ _ _,Nat.le_refl _,(by show _=_;simp),(by show _ ∉ _;simp),Below.refl _ _⟩
 case round =>
  obtain ⟨k,f,ps,vb,hvb,hk,hf,rfl,rfl,HO,HPL,HCU,HFR,HW⟩:=hrel
  subst hvb
  have hm:=Mem.start wr
  obtain ⟨np,hnp⟩:∃np,np=ps.length:=⟨_,rfl⟩
  rw [←hnp] at HO HPL
  have HNP:Hid (∀_:Unit,np=ps.length):=fun _=>hnp
  have hnp3:np≤100000:=by have:=HPL.out;omega
  clear hnp
  by_cases hlt:k<n
  ·have hki:(k:Int)<(s.size:Int):=by have:=HN.out ();omega
   obtain ⟨b,hb,hb2⟩:=byte_at s k (by have:=HN.out ();omega)
   obtain ⟨x,hx⟩:∃x:Int,x=(b.toNat:Int):=⟨_,rfl⟩
   have HB:Hid (∀_:Unit,∃c,s.data[k]?=some c∧(c.toNat:Int)=x):=fun _=>⟨b,hb,hx.symm⟩
   have HB2:Hid (∀_:Unit,(bs s)[k]?=some b):=fun _=>hb2
   by_cases hbc:b=c
   ·have hxy:(x==y)=true:=by rw [beq_iff_eq,hx,HY.out (),hbc]
    subst hbc
    clear hb hb2 hx
    obtain ⟨r,hr⟩:∃r,r=mkS (((bs s).take k).drop f):=⟨_,rfl⟩
    have HRR:Hid (∀_:Unit,bs r=((bs s).take k).drop f):=fun _=>by rw [hr,dJ]
    have HFK:Hid (f≤k):=hf
    have HKN:Hid (k≤s.size):=by have:=HN.out ();show k≤s.size;omega
    clear hr
    go_wp2_with (first
     | ((with_reducible refine ab (some 16) (.index 9 (.tmp 14) (.tmp 15)) ?_);refine ck aF s k x rfl rfl rfl (HB.out ()) ?_)
     | ((with_reducible refine ab (some 23) (.slice 9 (.tmp 20) (some (.tmp 21)) (some (.tmp 22)) none) ?_);go_must (refine aa (.string r) rfl (exec_slhS s r f k HFK.out HKN.out (HRR.out ()) rfl rfl rfl) ?_))
     | ((with_reducible refine ab (some 24) (.buildSlice 37 1 #[(0,.tmp 23)]) ?_);go_must (refine bK rfl (.string ByteArray.empty) (.string r) aW bL rfl rfl rfl hm ?_);clear hm;intro w8 g8 hb8 hm;clear hb8)
     | ((with_reducible refine ab (some 25) (.call {callee:=.builtin .append,args:=#[.tmp 19,.tmp 24],argTypes:=#[37,37]}) ?_);go_must (refine bg (.string ByteArray.empty) 1 16 rfl aW bD rfl (by omega) (by omega) (aq HO.out hm.below) (Nat.le_trans HW.out.size hm.size) rfl rfl (hm.get 0 rfl) rfl (by simp [Value.oneCell']) hnp3 ?_);intro v9 w9 ho9 hg9 hl9;have HO9:Hid (w9.ownsRow w.heap.size 9 1 v9 (np+1) (strs ps++[.string r])):=ho9;have HW9:Hid (Below w.heap.size w w9):=er (aD HW.out HW.out.size hm.below) (Nat.le_trans HW.out.size hm.size) (aq HO.out hm.below) hg9;clear ho9 hg9 hl9 hm))
    go_roundw
    case rel =>
     refine ⟨k+1,k+1,ps++[r],_,rfl,by omega,by omega,by go_num,by go_num,?_,?_,?_,?_,HW9.out⟩
     ·show World.ownsRow _ _ _ _ _ _ _
      rw [List.length_append,List.length_singleton,←HNP.out (),show strs (ps++[r])=strs ps++[.string r] by simp [strs]]
      exact HO9.out
     ·show _≤_
      have:=HPL.out
      rw [List.length_append,List.length_singleton,←HNP.out ()]
      omega
     ·show _=_
      rw [HCU.out,cut_step hf (HB2.out ()) HFR.out,List.map_append,List.append_assoc]
      congr 1
      rw [List.map_cons,List.map_nil,HRR.out (),take_drop_eq];rfl
     ·show _ ∉ _
      rw [Nat.sub_self,List.take_zero];simp
    case measure=>simp [intOf];omega
   ·have hxy:(x==y)=false:=by
     rw [beq_eq_false_iff_ne,hx,HY.out ()]
     intro he
     exact hbc (by
      have:b.toNat=c.toNat:=by omega
      exact UInt8.toNat_inj.1 this)
    have HBC:Hid (b≠c):=hbc
    clear hb hb2 hx hbc
    go_wp2_with (first
     | ((with_reducible refine ab (some 16) (.index 9 (.tmp 14) (.tmp 15)) ?_);refine ck aF s k x rfl rfl rfl (HB.out ()) ?_))
    go_roundw
    case rel =>
     refine ⟨k+1,f,ps,_,rfl,by omega,by omega,rfl,by go_num,by rw [←HNP.out ()];exact HO.out,by rw [←HNP.out ()];exact HPL.out,HCU.out,free_next hf (HB2.out ()) HBC.out HFR.out,HW.out⟩
    case measure=>simp [intOf];omega
  ·have hkn:n=k:=by omega
   subst hkn
   have hki:¬(n:Int)<(s.size:Int):=by have:=HN.out ();omega
   obtain ⟨r,hr⟩:∃r,r=mkS ((bs s).drop f):=⟨_,rfl⟩
   have HRR:Hid (∀_:Unit,bs r=(bs s).drop f):=fun _=>by rw [hr,dJ]
   have HFK:Hid (f≤s.size):=by have:=HN.out ();show f≤s.size;omega
   have HCE:Hid (∀_:Unit,cutB c s=ps++[r]):=fun _=>by
    have h9:=HFR.out
    rw [List.take_of_length_le (by rw [List.length_drop,aV];have:=HN.out ();omega)] at h9
    rw [cutB,HCU.out,db c h9,List.map_append,bo,hr];rfl
   clear hr
   go_wp2_with (first
    | ((with_reducible refine ab (some 31) (.slice 9 (.tmp 29) (some (.tmp 30)) none none) ?_);go_must (refine aa (.string r) rfl (exec_sloS s r f HFK.out (HRR.out ()) rfl rfl) ?_))
    | ((with_reducible refine ab (some 32) (.buildSlice 37 1 #[(0,.tmp 31)]) ?_);go_must (refine bK rfl (.string ByteArray.empty) (.string r) aW bL rfl rfl rfl hm ?_);clear hm;intro w8 g8 hb8 hm;clear hb8)
    | ((with_reducible refine ab (some 33) (.call {callee:=.builtin .append,args:=#[.tmp 28,.tmp 32],argTypes:=#[37,37]}) ?_);go_must (refine bg (.string ByteArray.empty) 1 16 rfl aW bD rfl (by omega) (by omega) (aq HO.out hm.below) (Nat.le_trans HW.out.size hm.size) rfl rfl (hm.get 0 rfl) rfl (by simp [Value.oneCell']) hnp3 ?_);intro v9 w9 ho9 hg9 hl9;have HO9:Hid (w9.ownsRow w.heap.size 9 1 v9 (np+1) (strs ps++[.string r])):=ho9;have HW9:Hid (Below w.heap.size w w9):=er (aD HW.out HW.out.size hm.below) (Nat.le_trans HW.out.size hm.size) (aq HO.out hm.below) hg9;clear ho9 hg9 hl9 hm))
   go_ret
   refine ⟨_,rfl,?_,HW9.out⟩
   have h9:=ej HO9.out
   rw [HCE.out ()]
   show SlV 1 _ _ (ps++[r]).length (strs (ps++[r]))
   rw [List.length_append,List.length_singleton,←HNP.out (),show strs (ps++[r])=strs ps++[.string r] by simp [strs]]
   exact h9
theorem cutB_len (c:UInt8) (s:ByteArray):(cutB c s).length≤s.size+1:=by
 rw [cutB,List.length_map,←aV];exact dC c (bs s)
theorem cutB_bs (c:UInt8) (s:ByteArray):(cutB c s).map bs=cut c (bs s):=fb _
theorem cut_sizes (c:UInt8) (l:List UInt8):∀k∈cut c l,k.length≤l.length:=by
 induction l with
 | nil=>intro k hk;simp [cut] at hk;simp [hk]
 | cons x t ih =>
  intro k hk
  rw [cut] at hk
  split at hk
  ·rcases List.mem_cons.1 hk with rfl|hk
   ·simp
   ·have:=ih k hk;simp;omega
  ·cases hc:cut c t with
   | nil=>exact absurd hc (dE c t)
   | cons a r =>
    rw [hc] at hk ih
    rcases List.mem_cons.1 hk with rfl|hk
    ·have:=ih a (by simp);simp;omega
    ·have:=ih k (by simp [hk]);simp;omega
theorem cutB_size (c:UInt8) (s:ByteArray):∀x∈cutB c s,x.size≤s.size:=by
 intro x hx
 obtain ⟨k,hk,rfl⟩:=List.mem_map.1 hx
 rw [bx,←aV]
 exact cut_sizes c _ k hk
open Go Go.RowKit
theorem eG (s:ByteArray) (w:World) (hs:s.size≤1000) :
  Calls Tryz.prog 54 #[.string s] w fun e w'=>e=.returned (.bool (isP (bs s)))∧Below w.heap.size w w':=by
 have hm:=Mem.start w
 by_cases h0:s=⟨#[]⟩
 ·subst h0
  go_enter Tryz.func54,Tryz.ntmps54
  go_wp2_with (first
   | ((with_reducible refine ab (some 6) (.binOp .eql 9 (.tmp 5) (.const (.string {data:=#[]})) 9) ?_);go_must (refine aa (.bool true) rfl (aM ⟨#[]⟩ ⟨#[]⟩ true rfl rfl (ci _)) ?_)))
  go_ret
  exact ⟨rfl,hm.below⟩
 ·have HE:Hid (∀_:Unit,¬s=⟨#[]⟩):=fun _=>h0
  have hne:(bs s).isEmpty=false:=by
   cases h:bs s with
   | nil=>exact absurd (show s=⟨#[]⟩ by rw [←cp s,h];rfl) h0
   | cons _ _=>rfl
  obtain ⟨xs,hxs⟩:∃xs,xs=cutB 47 s:=⟨_,rfl⟩
  obtain ⟨n,hn⟩:∃n,n=xs.length:=⟨_,rfl⟩
  have HI:Hid (∀_:Unit,isP (bs s)=okSegs (xs.map bs)):=fun _=>by rw [isP,hne,Bool.false_or,hxs,cutB_bs]
  have HN:Hid (∀_:Unit,xs.length=n):=fun _=>hn.symm
  have hn1:n≤2000:=by rw [hn,hxs];have:=cutB_len 47 s;omega
  have HZ:Hid (∀x∈xs,x.size≤maxLen):=fun x hx=>by rw [hxs] at hx;have:=cutB_size 47 s x hx;unfold maxLen;omega
  have HPA:Hid (∀W,Calls Tryz.prog 71 #[.string s,.int .u8 47] W fun e w'=>∃v,e=.returned v∧SlS w' v xs∧Below W.heap.size W w'):=fun W=>by rw [hxs];exact eU 47 s 47 rfl W hs
  clear h0 hne hxs hn hs
  go_enter Tryz.func54,Tryz.ntmps54
  go_wp2_with (first
   | ((with_reducible refine ab (some 6) (.binOp .eql 9 (.tmp 5) (.const (.string {data:=#[]})) 9) ?_);go_must (refine aa (.bool false) rfl (aM s ⟨#[]⟩ false rfl rfl (cv (HE.out ()))) ?_))
   | (go_at_call 71;refine (HPA.out _).mono ?_;rintro e w9 ⟨v,he,ho,hb⟩;subst he;obtain ⟨p,cap,hv,hcap⟩:=SlV.len ho;subst hv;have HO:Hid (SlS w9 (.slice p n cap) xs):=by {have h9:=ho;rw [HN.out ()] at h9;exact h9};rw [HN.out ()];clear ho hcap;replace hm:=hm.call hb;clear hb))
  go_loopw [4] (fun vi wr=>∃k:Nat,k≤n∧vi=.int .i64 (k:Int)∧Hid ((xs.take k).all (fun x=>seg (bs x))=true)∧Hid (Below w9.heap.size w9 wr)) (fun vi _=>n - (intOf vi).toNat)
  case atStart=>exact ⟨0,by omega,rfl,rfl,Below.refl _ _⟩
  case round =>
   obtain ⟨k,hk,rfl,HA,HB⟩:=hrel
   by_cases hlt:k<n
   ·have hki:(k:Int)<(n:Int):=by omega
    obtain ⟨b,off,hp⟩:=SlS.at HO.out (HN.out ()) (by omega)
    subst hp
    obtain ⟨x,hx⟩:∃x,x=xs.getD k noStr:=⟨_,rfl⟩
    have HC:Hid (wr.cell? ⟨b,off+k,none⟩=some (.string x)):=by
     rw [hx]
     exact SlS.cells (HN.out ()) (SlV.below HO.out HB.out) k hlt
    have hmem:x∈xs:=by
     rw [hx,List.getD_eq_getElem?_getD,List.getElem?_eq_getElem (by rw [HN.out ()];exact hlt)]
     exact List.getElem_mem _
    have HXZ:Hid (x.size≤maxLen):=HZ.out x hmem
    have HX:Hid (∀_:Unit,x=xs.getD k noStr∧x∈xs):=fun _=>⟨hx,hmem⟩
    obtain ⟨r,hr⟩:∃r,seg (bs x)=r:=⟨_,rfl⟩
    have HR:Hid (∀_:Unit,seg (bs x)=r):=fun _=>hr
    clear hx hmem hr
    cases r with
    | true =>
     go_wp2_with (first
      | ((with_reducible refine ab (some 18) (.load 9 (.tmp 17)) ?_);go_must (refine aa (.string x) rfl (ar (.string x) (HC.out) rfl aj) ?_))
      | (go_at_call 72;refine (d5 x _ HXZ.out).mono ?_;rintro e w' ⟨he,hw⟩;rw [HR.out ()] at he;subst he;subst hw))
     go_roundw
     case rel=>exact ⟨k+1,by omega,by go_num,fo (by rw [HN.out ()];exact hlt) HA.out (by rw [←(HX.out ()).1];exact HR.out ()),HB.out⟩
     case measure=>simp [intOf];omega
    | false =>
     go_wp2_with (first
      | ((with_reducible refine ab (some 18) (.load 9 (.tmp 17)) ?_);go_must (refine aa (.string x) rfl (ar (.string x) (HC.out) rfl aj) ?_))
      | (go_at_call 72;refine (d5 x _ HXZ.out).mono ?_;rintro e w' ⟨he,hw⟩;rw [HR.out ()] at he;subst he;subst hw))
     go_ret
     refine ⟨?_,(hm.call HB.out).below⟩
     rw [HI.out (),ec (HX.out ()).2 (HR.out ())]
     rfl
   ·have hkn:n=k:=by omega
    subst hkn
    have hki:¬(n:Int)<(n:Int):=by omega
    by_cases h3:n≤3
    ·have h3i:(n:Int)≤3:=by omega
     go_wp2_with fail
     go_ret
     refine ⟨?_,(hm.call HB.out).below⟩
     rw [HI.out (),dI (by rw [HN.out ()];exact h3) (by rw [HN.out ()];exact HA.out)]
     rfl
    ·have h3i:¬(n:Int)≤3:=by omega
     go_wp2_with fail
     go_ret
     refine ⟨?_,(hm.call HB.out).below⟩
     rw [HI.out (),dd (by rw [HN.out ()];omega)]
     rfl
theorem segsB_cut {s:ByteArray} (h:isP (bs s)=true) (h0:¬s=⟨#[]⟩):segsB s=cutB 47 s:=by
 rw [segsB,bU h (fun h9=>h0 (by rw [←cp s,h9];rfl)),cutB]
theorem segsB_none {s:ByteArray} (h:isP (bs s)=false):segsB s=[]:=by rw [segsB,dm h];rfl
theorem cA (s:ByteArray) (w:World) (hs:s.size≤1000) :
  Calls Tryz.prog 55 #[.string s] w fun e w'=>∃v,e=.returned v∧SlS w' v (segsB s)∧Below w.heap.size w w':=by
 have hm:=Mem.start w
 by_cases h0:s=⟨#[]⟩
 ·subst h0
  go_enter Tryz.func55,Tryz.ntmps55
  go_wp2_with (first
   | ((with_reducible refine ab (some 4) (.binOp .eql 9 (.tmp 3) (.const (.string {data:=#[]})) 9) ?_);go_must (refine aa (.bool true) rfl (aM ⟨#[]⟩ ⟨#[]⟩ true rfl rfl (ci _)) ?_)))
  go_ret
  exact ⟨_,rfl,SlS.nil _,hm.below⟩
 ·have HE:Hid (∀_:Unit,¬s=⟨#[]⟩):=fun _=>h0
  obtain ⟨r,hr⟩:∃r,isP (bs s)=r:=⟨_,rfl⟩
  have HR:Hid (∀_:Unit,isP (bs s)=r):=fun _=>hr
  clear h0 hr
  cases r with
  | false =>
   go_enter Tryz.func55,Tryz.ntmps55
   go_wp2_with (first
    | ((with_reducible refine ab (some 4) (.binOp .eql 9 (.tmp 3) (.const (.string {data:=#[]})) 9) ?_);go_must (refine aa (.bool false) rfl (aM s ⟨#[]⟩ false rfl rfl (cv (HE.out ()))) ?_))
    | (go_at_call 54;refine (eG s _ hs).mono ?_;rintro e w' ⟨he,hb⟩;rw [HR.out ()] at he;subst he;replace hm:=hm.call hb;clear hb))
   go_ret
   exact ⟨_,rfl,by rw [segsB_none (HR.out ())];exact SlS.nil _,hm.below⟩
  | true =>
   have HPA:Hid (∀W,Calls Tryz.prog 71 #[.string s,.int .u8 47] W fun e w'=>∃v,e=.returned v∧SlS w' v (segsB s)∧Below W.heap.size W w'):=fun W=>by rw [segsB_cut (HR.out ()) (HE.out ())];exact eU 47 s 47 rfl W hs
   go_enter Tryz.func55,Tryz.ntmps55
   go_wp2_with (first
    | ((with_reducible refine ab (some 4) (.binOp .eql 9 (.tmp 3) (.const (.string {data:=#[]})) 9) ?_);go_must (refine aa (.bool false) rfl (aM s ⟨#[]⟩ false rfl rfl (cv (HE.out ()))) ?_))
    | (go_at_call 54;refine (eG s _ hs).mono ?_;rintro e w' ⟨he,hb⟩;rw [HR.out ()] at he;subst he;replace hm:=hm.call hb;clear hb)
    | (go_at_call 71;refine (HPA.out _).mono ?_;rintro e w9 ⟨v,he,ho,hb⟩;subst he;have HO:Hid (SlS w9 v (segsB s)):=ho;clear ho;replace hm:=hm.call hb;clear hb))
   go_ret
   exact ⟨_,rfl,HO.out,hm.below⟩
end Go.Proofs.YtdmohffogfbnbaaGreatDoor
