import Derived.Test.YtdmohffogfbnbaaDoorQx03
import Derived.Test.YtdmohffogfbnbaaDoorCards
import Derived.Test.YtdmohffogfbnbaaDoorTie
import Derived.ProofKit
import Derived.OpenShut
import Derived.ChangeOld
import Derived.ChangeMaps5
import Derived.Deep.DeepHandedRow
import Derived.Deep.Slices
import Derived.Shelf.Vars
import Derived.Lay
import Derived.Laws.Strings3
import Derived.Test.YtdmohffogfbnbaaDoorQx01
import Derived.Laws.StructEq
import Derived.DeepKeys4
import Derived.Lib.Bytealg
set_option maxRecDepth 100000
set_option maxHeartbeats 4000000
namespace Go.Proofs.YtdmohffogfbnbaaDoor
open Go Go.RowKit Go.Maps
theorem is_any (s:ByteArray) (w:World) (hs:s.size≤1000) (hM:MaxL w) :
  Calls Tryd.prog 28 #[.string s] w fun e w'=>e=.returned (.bool (isP (bs s)))∧Below w.heap.size w w':=by
 have hm:=Mem.start w
 have HM:Hid (MaxL w):=hM
 clear hM
 go_enter Tryd.func28,Tryd.ntmps28
 go_wp2_with (first
  | (go_at_call 34;refine (bm s _ hs (HM.out.below hm.below)).mono ?_;rintro e w' ⟨he,hb⟩;subst he;replace hm:=hm.call hb;clear hb)
  | ((with_reducible refine aa (some 3) (.alloc 75) ?_);refine ad _ aI hm ?_;clear hm;intro w2 g3 hm)
  | ((with_reducible refine aa none (.store 75 (.tmp 3) (.tmp 8)) ?_);refine af 0 (plv (segsB s)) hm rfl rfl rfl 3 au rfl rfl (by intro v hv;simp [plv] at hv;rcases hv with rfl|rfl|rfl<;>rfl) ?_;clear hm;intro w3 hm))
 go_ret
 exact ⟨rfl,hm.below⟩
theorem cw (s:ByteArray) (w:World) (hs:s.size≤1000) (hM:MaxL w) :
  Calls Tryd.prog 27 #[.string s] w fun e w'=>∃v,e=.returned v∧w'.ownsRow w.heap.size 9 1 v (segsB s).length (strs (segsB s))∧Below w.heap.size w w':=by
 have hm:=Mem.start w
 have HM:Hid (MaxL w):=hM
 clear hM
 have HK:Hid (∀_:Unit,PlOk (segsB s)):=fun _=>a8 s
 go_enter Tryd.func27,Tryd.ntmps27
 go_wp2_with (first
  | (go_at_call 34;refine (bm s _ hs (HM.out.below hm.below)).mono ?_;rintro e w' ⟨he,hb⟩;subst he;replace hm:=hm.call hb;clear hb)
  | ((with_reducible refine aa (some 3) (.alloc 75) ?_);refine ad _ aI hm ?_;clear hm;intro w2 g3 hm)
  | ((with_reducible refine aa none (.store 75 (.tmp 3) (.tmp 8)) ?_);refine af 0 (plv (segsB s)) hm rfl rfl rfl 3 au rfl rfl (by intro v hv;simp [plv] at hv;rcases hv with rfl|rfl|rfl<;>rfl) ?_;clear hm;intro w3 hm)
  | ((with_reducible refine aa (some 10) (.load 75 (.tmp 3)) ?_);refine ak 0 hm rfl rfl _ aK rfl 3 au (by rfl) ?_)
  | (go_at_call 35;refine (cn (HK.out ()) _).mono ?_;rintro e w' ⟨v,he,ho,hb⟩;subst he;have HO:Hid (w'.ownsRow w.heap.size 9 1 v (segsB s).length (strs (segsB s))):=ct hm.size ho;clear ho;replace hm:=hm.call hb;clear hb))
 go_ret
 exact ⟨_,rfl,HO.out,hm.below⟩
theorem joinP_any (xs:List ByteArray) (v:Value) (w:World) (hv:SlS w v xs) :
  Calls Tryd.prog 29 #[v] w fun e w'=>e=.returned (.string (mkS (jn 47 ((plOf xs).map bs))))∧Below w.heap.size w w':=by
 have hm:=Mem.start w
 have HV:Hid (SlS w v xs):=hv
 clear hv
 go_enter Tryd.func29,Tryd.ntmps29
 go_wp2_with (first
  | (go_at_call 36;refine (cF xs v _ (SlV.below HV.out hm.below)).mono ?_;rintro e w' ⟨he,hb⟩;subst he;replace hm:=hm.call hb;clear hb)
  | ((with_reducible refine aa (some 3) (.alloc 75) ?_);refine ad _ aI hm ?_;clear hm;intro w2 g3 hm)
  | ((with_reducible refine aa none (.store 75 (.tmp 3) (.tmp 8)) ?_);refine af 0 (plv (plOf xs)) hm rfl rfl rfl 3 au rfl rfl (by intro v hv;simp [plv] at hv;rcases hv with rfl|rfl|rfl<;>rfl) ?_;clear hm;intro w3 hm)
  | ((with_reducible refine aa (some 10) (.load 75 (.tmp 3)) ?_);refine ak 0 hm rfl rfl _ aK rfl 3 au (by rfl) ?_)
  | (go_at_call 37;refine (text_any (plOf_ok xs) _).mono ?_;rintro e w' ⟨he,hb⟩;subst he;replace hm:=hm.call hb;clear hb))
 go_ret
 exact ⟨rfl,hm.below⟩
section
variable {P:Program} {a:Act} {w:World} {dst:Option Tmp} {typ:TypeId} {pos:String} {aft:Array Edge} {gd:Option (Nat×Bool)}
end
def cdk (ks:List ByteArray) (k:Nat):List UInt8:=codeOf ((ks.take k).map bs)
open Go Go.RowKit Go.Maps
def parOk (l:List UInt8):Bool:=isP l && !l.isEmpty
def parOf (l:List UInt8):List UInt8:=if parOk l then jn 47 (segsOf l).dropLast else []
theorem parOk_no {l:List UInt8} (h:isP l=false):parOk l=false∧parOf l=[]:=by simp [parOf,parOk,h]
theorem parOk_nil {l:List UInt8} (h:segsOf l=[]):parOk l=false∧parOf l=[]:=by
 have:parOk l=false:=by
  cases hi:isP l with
  | false=>exact (parOk_no hi).1
  | true =>
   by_cases h0:l=[]
   ·subst h0;rfl
   ·exact absurd h (segsOf_ne hi h0)
 exact ⟨this,by simp [parOf,this]⟩
theorem parOk_yes {l:List UInt8} (hi:isP l=true) (h:segsOf l≠[]):parOk l=true∧parOf l=jn 47 (segsOf l).dropLast:=by
 have h0:l.isEmpty=false:=by
  cases l with
  | nil=>exact absurd rfl h
  | cons _ _=>rfl
 have:parOk l=true:=by simp [parOk,hi,h0]
 exact ⟨this,by simp [parOf,this]⟩
theorem parentP_any (s:ByteArray) (w:World) (hs:s.size≤1000) (hM:MaxL w) :
  Calls Tryd.prog 33 #[.string s] w fun e w'=>e=.returned (.tuple #[.string (mkS (parOf (bs s))),.bool (parOk (bs s))])∧Below w.heap.size w w':=by
 have hm:=Mem.start w
 have HM:Hid (MaxL w):=hM
 clear hM
 obtain ⟨ks,hks⟩:∃ks,ks=segsB s:=⟨_,rfl⟩
 obtain ⟨r,hr⟩:∃r,r=isP (bs s):=⟨_,rfl⟩
 have HK:Hid (∀_:Unit,PlOk ks):=fun _=>by rw [hks];exact a8 s
 have HKS:Hid (∀_:Unit,segsOf (bs s)=ks.map bs):=fun _=>by rw [hks,bQ]
 have HRR:Hid (∀_:Unit,isP (bs s)=r):=fun _=>hr.symm
 have HPL:Hid (∀W,MaxL W→Calls Tryd.prog 34 #[.string s] W fun e w'=>e=.returned (.tuple #[.agg (plv ks).toArray,.bool r])∧Below W.heap.size W w'):=fun W hW=>by rw [hks,hr];exact bm s W hs hW
 clear hks hr hs
 cases r with
 | false =>
  have HP:=parOk_no (HRR.out ())
  have HP1:Hid (∀_:Unit,parOk (bs s)=false∧parOf (bs s)=[]):=fun _=>HP
  clear HP
  go_enter Tryd.func33,Tryd.ntmps33
  go_wp2_with (first
   | (go_at_call 34;refine (HPL.out _ (HM.out.below hm.below)).mono ?_;rintro e w' ⟨he,hb⟩;subst he;replace hm:=hm.call hb;clear hb)
   | ((with_reducible refine aa (some 4) (.alloc 75) ?_);refine ad _ aI hm ?_;clear hm;intro w2 g4 hm)
   | ((with_reducible refine aa none (.store 75 (.tmp 4) (.tmp 9)) ?_);refine af 0 (plv ks) hm rfl rfl rfl 3 au rfl rfl (by intro v hv;simp [plv] at hv;rcases hv with rfl|rfl|rfl<;>rfl) ?_;clear hm;intro w3 hm))
  refine am ?_
  refine ag (T:=fun W=>Mem w [] W [(g4,plv ks,75)]) (by kernel_rfl) hm ?_
  intro wc hbw hmw
  replace hm:Mem w [] wc [(g4,plv ks,75)]:=hmw
  clear hbw hmw
  refine aT 0 (v:=.bool false) rfl (by kernel_rfl) rfl (fun W _=>by go_simp) hm ?_
  go_simp
  refine aT 1 (v:=.bool true) rfl (by kernel_rfl) rfl (fun W _=>by go_simp) hm ?_
  go_simp
  refine aT 2 (v:=.bool true) rfl (by kernel_rfl) rfl (fun W _=>by go_simp) hm ?_
  go_simp
  refine aW 3 rfl (by kernel_rfl) (by kernel_rfl) (by kernel_rfl) rfl hm ?_
  go_simp
  refine aW 4 rfl (by kernel_rfl) (by kernel_rfl) (by kernel_rfl) rfl hm ?_
  go_simp
  refine aW 5 rfl (by kernel_rfl) (by kernel_rfl) (by kernel_rfl) rfl hm ?_
  go_simp
  refine aT 6 (v:=.bool true) rfl (by kernel_rfl) rfl (fun W _=>by go_simp) hm ?_
  go_simp
  refine wpAnyH_done (by kernel_rfl) ?_ _
  simp only [endsIn]
  go_wp2_with fail
  go_ret2
  exact ⟨by rw [(HP1.out ()).1,(HP1.out ()).2];rfl,hm.below⟩
 | true =>
  by_cases h0:ks=[]
  ·have HP1:Hid (∀_:Unit,parOk (bs s)=false∧parOf (bs s)=[]):=fun _=>parOk_nil (by rw [HKS.out (),h0];rfl)
   have HEQ:Hid (∀_:Unit,true=decide (ks=[])):=fun _=>by simp [h0]
   clear h0
   go_enter Tryd.func33,Tryd.ntmps33
   go_wp2_with (first
    | (go_at_call 34;refine (HPL.out _ (HM.out.below hm.below)).mono ?_;rintro e w' ⟨he,hb⟩;subst he;replace hm:=hm.call hb;clear hb)
    | ((with_reducible refine aa (some 4) (.alloc 75) ?_);refine ad _ aI hm ?_;clear hm;intro w2 g4 hm)
    | ((with_reducible refine aa none (.store 75 (.tmp 4) (.tmp 9)) ?_);refine af 0 (plv ks) hm rfl rfl rfl 3 au rfl rfl (by intro v hv;simp [plv] at hv;rcases hv with rfl|rfl|rfl<;>rfl) ?_;clear hm;intro w3 hm))
   refine am ?_
   refine ag (T:=fun W=>Mem w [] W [(g4,plv ks,75)]) (by kernel_rfl) hm ?_
   intro wc hbw hmw
   replace hm:Mem w [] wc [(g4,plv ks,75)]:=hmw
   clear hbw hmw
   refine aT 0 (v:=.bool true) rfl (by kernel_rfl) rfl (fun W _=>by go_simp) hm ?_
   go_simp
   refine aT 1 (v:=.bool false) rfl (by kernel_rfl) rfl (fun W _=>by go_simp) hm ?_
   go_simp
   refine aT 2 (v:=.bool false) rfl (by kernel_rfl) rfl (fun W _=>by go_simp) hm ?_
   go_simp
   refine aG 3 (v:=.agg (plv ks).toArray) rfl (by kernel_rfl) rfl (fun W hW=>ai 0 (plv ks) (Mem.get hW 0 rfl) rfl _ aK rfl 3 au (Nat.le_refl 3) rfl) hm ?_
   go_simp
   refine aO 4 (by kernel_rfl) rfl rfl ?_
   intro K hK
   go_wp2_with (go_at_call 42;refine (a7 _).mono ?_;rintro e w' ⟨he,hb⟩;subst he;replace hm:=hm.call hb;clear hb)
   refine hK _ _ hm ?_
   clear hK K
   go_simp
   refine aG 5 (v:=.bool true) rfl (by kernel_rfl) rfl (fun W _=>exec_eqP (HK.out ()) PlOk.nil true (HEQ.out ()) rfl rfl) hm ?_
   go_simp
   refine aT 6 (v:=.bool true) rfl (by kernel_rfl) rfl (fun W _=>by go_simp) hm ?_
   go_simp
   refine wpAnyH_done (by kernel_rfl) ?_ _
   simp only [endsIn]
   go_wp2_with fail
   go_ret2
   exact ⟨by rw [(HP1.out ()).1,(HP1.out ()).2];rfl,hm.below⟩
  ·have HP1:Hid (∀_:Unit,parOk (bs s)=true∧parOf (bs s)=jn 47 (ks.dropLast.map bs)):=fun _=>by
    have:=parOk_yes (HRR.out ()) (by rw [HKS.out ()];simpa using h0)
    rw [HKS.out (),←List.map_dropLast] at this
    exact this
   have HEQ:Hid (∀_:Unit,false=decide (ks=[])):=fun _=>by simp [h0]
   have HTX:Hid (∀W,Calls Tryd.prog 37 #[.agg (plv ks.dropLast).toArray] W fun e w'=>e=.returned (.string (mkS (parOf (bs s))))∧Below W.heap.size W w'):=fun W=>by rw [(HP1.out ()).2];exact text_any ((HK.out ()).drop) W
   clear h0
   go_enter Tryd.func33,Tryd.ntmps33
   go_wp2_with (first
    | (go_at_call 34;refine (HPL.out _ (HM.out.below hm.below)).mono ?_;rintro e w' ⟨he,hb⟩;subst he;replace hm:=hm.call hb;clear hb)
    | ((with_reducible refine aa (some 4) (.alloc 75) ?_);refine ad _ aI hm ?_;clear hm;intro w2 g4 hm)
    | ((with_reducible refine aa none (.store 75 (.tmp 4) (.tmp 9)) ?_);refine af 0 (plv ks) hm rfl rfl rfl 3 au rfl rfl (by intro v hv;simp [plv] at hv;rcases hv with rfl|rfl|rfl<;>rfl) ?_;clear hm;intro w3 hm))
   refine am ?_
   refine ag (T:=fun W=>Mem w [] W [(g4,plv ks,75)]) (by kernel_rfl) hm ?_
   intro wc hbw hmw
   replace hm:Mem w [] wc [(g4,plv ks,75)]:=hmw
   clear hbw hmw
   refine aT 0 (v:=.bool true) rfl (by kernel_rfl) rfl (fun W _=>by go_simp) hm ?_
   go_simp
   refine aT 1 (v:=.bool false) rfl (by kernel_rfl) rfl (fun W _=>by go_simp) hm ?_
   go_simp
   refine aT 2 (v:=.bool false) rfl (by kernel_rfl) rfl (fun W _=>by go_simp) hm ?_
   go_simp
   refine aG 3 (v:=.agg (plv ks).toArray) rfl (by kernel_rfl) rfl (fun W hW=>ai 0 (plv ks) (Mem.get hW 0 rfl) rfl _ aK rfl 3 au (Nat.le_refl 3) rfl) hm ?_
   go_simp
   refine aO 4 (by kernel_rfl) rfl rfl ?_
   intro K hK
   go_wp2_with (go_at_call 42;refine (a7 _).mono ?_;rintro e w' ⟨he,hb⟩;subst he;replace hm:=hm.call hb;clear hb)
   refine hK _ _ hm ?_
   clear hK K
   go_simp
   refine aG 5 (v:=.bool false) rfl (by kernel_rfl) rfl (fun W _=>exec_eqP (HK.out ()) PlOk.nil false (HEQ.out ()) rfl rfl) hm ?_
   go_simp
   refine aT 6 (v:=.bool false) rfl (by kernel_rfl) rfl (fun W _=>by go_simp) hm ?_
   go_simp
   refine wpAnyH_done (by kernel_rfl) ?_ _
   simp only [endsIn]
   go_wp2_with (first
    | ((with_reducible refine aa (some 18) (.load 75 (.tmp 4)) ?_);refine ak 0 hm rfl rfl _ aK rfl 3 au (by rfl) ?_)
    | (go_at_call 43;refine (c5 (HK.out ()) _).mono ?_;rintro e w' ⟨he,hb⟩;subst he;replace hm:=hm.call hb;clear hb)
    | (go_at_call 37;refine (HTX.out _).mono ?_;rintro e w' ⟨he,hb⟩;subst he;replace hm:=hm.call hb;clear hb))
   go_ret2
   exact ⟨by rw [(HP1.out ()).1];rfl,hm.below⟩
def undOf (a b:List UInt8):Bool:=isP a&&(isP b&&(segsOf b).isPrefixOf (segsOf a))
theorem abv_iff {ka kb:List ByteArray} (ha:PlOk ka) (hb:PlOk kb):(∃v,abv ka 0 (.agg (plv kb).toArray) v)↔(kb.map bs).isPrefixOf (ka.map bs)=true:=by
 rw [List.isPrefixOf_iff_prefix]
 constructor
 ·rintro ⟨v,_,n,_,hn,he⟩
  rw [plvA_inj hb (bN ha n) he,List.map_take]
  exact List.take_prefix _ _
 ·intro h
  have e:=List.prefix_iff_eq_take.1 h
  have hl:=h.length_le
  simp only [List.length_map] at e hl
  refine ⟨unitV,rfl,kb.length,by omega,hl,?_⟩
  have e2:kb=ka.take kb.length:=by
   have:=congrArg (List.map mkS) e
   rw [aU,←List.map_take,aU] at this
   exact this
  rw [←e2]
theorem look_abv {w:World} {m q:Nat} {ka kb:List ByteArray} (ha:PlOk ka) (hb:PlOk kb) (h:KM Tryd.prog 75 w m q (abv ka 0)) (r:Bool) (hr:r=(kb.map bs).isPrefixOf (ka.map bs)) :
  (Instr.lookup 87 (.map (some m)) (.agg (plv kb).toArray) true).run Tryd.prog w=.ok (.tuple #[unitV,.bool r]) w:=by
 obtain ⟨kl,hkl⟩:=pl_key hb
 have hi:=abv_iff ha hb
 cases r with
 | true =>
  obtain ⟨v,hv⟩:=hi.2 hr.symm
  have hv2:=hv.1
  subst hv2
  exact h.look pl_law un_set (zero_unit w) hkl hv
 | false =>
  refine h.lookNo pl_law un_set (zero_unit w) hkl (fun v hv=>?_)
  rw [hi.1 ⟨v,hv⟩] at hr
  cases hr
theorem under_any (a b:ByteArray) (w:World) (ha:a.size≤1000) (hb:b.size≤1000) (hM:MaxL w) :
  Calls Tryd.prog 32 #[.string a,.string b] w fun e w'=>e=.returned (.bool (undOf (bs a) (bs b)))∧Below w.heap.size w w':=by
 have hm:=Mem.start w
 have HM:Hid (MaxL w):=hM
 clear hM
 obtain ⟨ka,hka⟩:∃ks,ks=segsB a:=⟨_,rfl⟩
 obtain ⟨kb,hkb⟩:∃ks,ks=segsB b:=⟨_,rfl⟩
 obtain ⟨ra,hra⟩:∃r,r=isP (bs a):=⟨_,rfl⟩
 obtain ⟨rb,hrb⟩:∃r,r=isP (bs b):=⟨_,rfl⟩
 obtain ⟨rr,hrr⟩:∃r,r=(kb.map bs).isPrefixOf (ka.map bs):=⟨_,rfl⟩
 have HKA:Hid (∀_:Unit,PlOk ka):=fun _=>by rw [hka];exact a8 a
 have HKB:Hid (∀_:Unit,PlOk kb):=fun _=>by rw [hkb];exact a8 b
 have HU:Hid (∀_:Unit,undOf (bs a) (bs b)=(ra&&(rb&&rr))):=fun _=>by rw [undOf,hra,hrb,hrr,hka,hkb,bQ,bQ]
 have HRR:Hid (∀_:Unit,rr=(kb.map bs).isPrefixOf (ka.map bs)):=fun _=>hrr
 have HPA:Hid (∀W,MaxL W→Calls Tryd.prog 34 #[.string a] W fun e w'=>e=.returned (.tuple #[.agg (plv ka).toArray,.bool ra])∧Below W.heap.size W w'):=fun W hW=>by rw [hka,hra];exact bm a W ha hW
 have HPB:Hid (∀W,MaxL W→Calls Tryd.prog 34 #[.string b] W fun e w'=>e=.returned (.tuple #[.agg (plv kb).toArray,.bool rb])∧Below W.heap.size W w'):=fun W hW=>by rw [hkb,hrb];exact bm b W hb hW
 clear hka hkb hra hrb hrr ha hb
 have tk1:Nat:=0
 cases ra with
 | false =>
  go_enter Tryd.func32,Tryd.ntmps32
  go_wp2_with (first
   | (go_at_call 34;clear tk1;refine (HPA.out _ (HM.out.below hm.below)).mono ?_;rintro e w' ⟨he,hb⟩;subst he;replace hm:=hm.call hb;clear hb)
   | (go_at_call 34;refine (HPB.out _ (HM.out.below hm.below)).mono ?_;rintro e w' ⟨he,hb⟩;subst he;replace hm:=hm.call hb;clear hb)
   | ((with_reducible refine aa (some 5) (.alloc 75) ?_);refine ad _ aI hm ?_;clear hm;intro w2 g5 hm)
   | ((with_reducible refine aa none (.store 75 (.tmp 5) (.tmp 12)) ?_);refine af 0 (plv ka) hm rfl rfl rfl 3 au rfl rfl (by intro v hv;simp [plv] at hv;rcases hv with rfl|rfl|rfl<;>rfl) ?_;clear hm;intro w3 hm)
   | ((with_reducible refine aa (some 7) (.alloc 75) ?_);refine ad _ aI hm ?_;clear hm;intro w4 g7 hm)
   | ((with_reducible refine aa none (.store 75 (.tmp 7) (.tmp 17)) ?_);refine af 0 (plv kb) hm rfl rfl rfl 3 au rfl rfl (by intro v hv;simp [plv] at hv;rcases hv with rfl|rfl|rfl<;>rfl) ?_;clear hm;intro w5 hm))
  go_ret
  exact ⟨by rw [HU.out ()];rfl,hm.below⟩
 | true =>
  cases rb with
  | false =>
   go_enter Tryd.func32,Tryd.ntmps32
   go_wp2_with (first
    | (go_at_call 34;clear tk1;refine (HPA.out _ (HM.out.below hm.below)).mono ?_;rintro e w' ⟨he,hb⟩;subst he;replace hm:=hm.call hb;clear hb)
    | (go_at_call 34;refine (HPB.out _ (HM.out.below hm.below)).mono ?_;rintro e w' ⟨he,hb⟩;subst he;replace hm:=hm.call hb;clear hb)
    | ((with_reducible refine aa (some 5) (.alloc 75) ?_);refine ad _ aI hm ?_;clear hm;intro w2 g5 hm)
    | ((with_reducible refine aa none (.store 75 (.tmp 5) (.tmp 12)) ?_);refine af 0 (plv ka) hm rfl rfl rfl 3 au rfl rfl (by intro v hv;simp [plv] at hv;rcases hv with rfl|rfl|rfl<;>rfl) ?_;clear hm;intro w3 hm)
    | ((with_reducible refine aa (some 7) (.alloc 75) ?_);refine ad _ aI hm ?_;clear hm;intro w4 g7 hm)
    | ((with_reducible refine aa none (.store 75 (.tmp 7) (.tmp 17)) ?_);refine af 0 (plv kb) hm rfl rfl rfl 3 au rfl rfl (by intro v hv;simp [plv] at hv;rcases hv with rfl|rfl|rfl<;>rfl) ?_;clear hm;intro w5 hm))
   go_ret
   exact ⟨by rw [HU.out ()];rfl,hm.below⟩
  | true =>
   go_enter Tryd.func32,Tryd.ntmps32
   go_wp2_with (first
    | (go_at_call 34;clear tk1;refine (HPA.out _ (HM.out.below hm.below)).mono ?_;rintro e w' ⟨he,hb⟩;subst he;replace hm:=hm.call hb;clear hb)
    | (go_at_call 34;refine (HPB.out _ (HM.out.below hm.below)).mono ?_;rintro e w' ⟨he,hb⟩;subst he;replace hm:=hm.call hb;clear hb)
    | ((with_reducible refine aa (some 5) (.alloc 75) ?_);refine ad _ aI hm ?_;clear hm;intro w2 g5 hm)
    | ((with_reducible refine aa none (.store 75 (.tmp 5) (.tmp 12)) ?_);refine af 0 (plv ka) hm rfl rfl rfl 3 au rfl rfl (by intro v hv;simp [plv] at hv;rcases hv with rfl|rfl|rfl<;>rfl) ?_;clear hm;intro w3 hm)
    | ((with_reducible refine aa (some 7) (.alloc 75) ?_);refine ad _ aI hm ?_;clear hm;intro w4 g7 hm)
    | ((with_reducible refine aa none (.store 75 (.tmp 7) (.tmp 17)) ?_);refine af 0 (plv kb) hm rfl rfl rfl 3 au rfl rfl (by intro v hv;simp [plv] at hv;rcases hv with rfl|rfl|rfl<;>rfl) ?_;clear hm;intro w5 hm))
   refine am ?_
   refine ag (T:=fun W=>Mem w [] W [(g7,plv kb,75),(g5,plv ka,75)]) (by kernel_rfl) hm ?_
   intro wc hbw hmw
   replace hm:Mem w [] wc [(g7,plv kb,75),(g5,plv ka,75)]:=hmw
   clear hbw hmw
   refine aT 0 (v:=.agg (plv ka).toArray) rfl (by kernel_rfl) rfl (fun W hW=>ai 0 (plv ka) (Mem.get hW 1 rfl) rfl _ aK rfl 3 au (Nat.le_refl 3) rfl) hm ?_
   go_simp
   refine aT 2 (v:=.agg (plv kb).toArray) rfl (by kernel_rfl) rfl (fun W hW=>ai 0 (plv kb) (Mem.get hW 0 rfl) rfl _ aK rfl 3 au (Nat.le_refl 3) rfl) hm ?_
   go_simp
   refine aO 1 (by kernel_rfl) rfl rfl ?_
   intro K hK
   go_wp2_with (go_at_call 41;refine (above_any (HKA.out ()) _).mono ?_;rintro e w' ⟨m,he,hkm,hb⟩;subst he;have HKM:Hid (∃q,KM Tryd.prog 75 w' m q (abv ka 0)):=hkm;clear hkm;replace hm:=hm.call hb;clear hb)
   refine hK _ _ hm ?_
   clear hK K
   go_simp
   refine anyH_more (fun W=>Mem w [] W [(g7,plv kb,75),(g5,plv ka,75)]∧∃q,KM Tryd.prog 75 W m q (abv ka 0)) (fun _ h=>h.1) _ _ _ _ ?_
   replace hm:Mem w [] _ [(g7,plv kb,75),(g5,plv ka,75)]∧∃q,KM Tryd.prog 75 _ m q (abv ka 0):=⟨hm,HKM.out⟩
   refine aT 3 (v:=.tuple #[unitV,.bool rr]) rfl (by kernel_rfl) rfl (fun W hW=>by obtain ⟨q,hkm⟩:=hW.2;exact bH (look_abv (HKA.out ()) (HKB.out ()) hkm rr (HRR.out ())) rfl rfl) hm ?_
   go_simp
   refine aT 4 (v:=.tuple #[unitV,.bool rr]) rfl (by kernel_rfl) rfl (fun W _=>by go_simp) hm ?_
   go_simp
   refine aT 5 (v:=unitV) rfl (by kernel_rfl) rfl (fun W _=>by go_simp) hm ?_
   go_simp
   refine aT 6 (v:=.bool rr) rfl (by kernel_rfl) rfl (fun W _=>by go_simp) hm ?_
   go_simp
   refine aT 7 (v:=.bool rr) rfl (by kernel_rfl) rfl (fun W _=>by go_simp) hm ?_
   go_simp
   refine wpAnyH_done (by kernel_rfl) ?_ _
   simp only [endsIn]
   replace hm:=hm.1
   go_wp2_with fail
   go_ret
   exact ⟨by rw [HU.out ()];rfl,hm.below⟩
def decErr (l:List UInt8):Int:=if decOk l then 0 else 110
open Go Go.ChangeShapes Go.WideShapes Go.ChangeAt Go.RowKit
theorem own:ownKnob Tryd.prog.godebug=none:=by kernel_rfl
theorem cL:laidOutB Tryd.prog=true:=by kernel_rfl
theorem maxl_of {W:World} (h:W.ShapedOpen Tryd.prog):MaxL W :=
 cell_of_shapedOpen_int (P:=Tryd.prog) (g:=0) (t:=3) (zero:=#[.int .i64 0]) h (of_decide_eq_true (by kernel_rfl)) (by kernel_rfl) rfl (by kernel_rfl) (by kernel_rfl) Tryd.underlying3
open Go Go.RowKit
def leB (a b:List UInt8):Bool:=Op.bytesLess a b||a==b
section
variable {a:Act} {w:World} {dst:Option Tmp} {typ:TypeId} {pos:String} {aft:Array Edge} {gd:Option (Nat×Bool)}
end
open Go Go.RowKit
section
variable {P:Program} {ops:Array Oper} {rest:List Oper} {a:Act} {w w0:World} {Q:Exit→Act→World→Prop} {dst:Option Tmp} {typ:TypeId} {pos:String} {aft:Array Edge} {gd:Option (Nat×Bool)} {S:List Nat} {rows:List (Nat×List Value×TypeId)}
theorem run_bsl1 (w:World) {t elem:TypeId} (z v:Value) (hu:P.underlying t=some (.slice elem)) (hi:(P.info? elem).map (fun i=>(i.zero,i.size))=some (some z,1)) (hz:z.cells=#[z]) (hv:v.cells=#[v]) :
  (Instr.buildSlice t 1 #[(0,v)]).run P w=.ok (.slice (some ⟨w.heap.size,0,none⟩) 1 1) (w.alloc (.cells [v].toArray elem)):=by
 obtain ⟨hz1,hs1⟩:=zero_of_info hi
 cases hq:P.info? elem with
 | none=>simp [hq] at hi
 | some q =>
  have hs:q.size=1:=by simpa [hq] using hs1
  have e:Array.map (fun x=>([z][x % 1]?).getD default) (Array.range 1)=#[z]:=by
   apply Array.ext
   ·simp
   ·intro i h1 h2
    have h3:i=0:=by simpa using h2
    subst h3
    simp
  simp [Instr.buildSlice,run_underlying hu,sizeOf,typeInfo,hq,hs,hz1,hz,Instr.fill,hv,newRow,newObj]
  rw [e]
  rfl
theorem cV {t elem:TypeId} {x:Operand} (hw:Region.wanted {dst:=dst,op:=.buildSlice t 1 #[(0,x)],type:=typ,pos:=pos,after:=aft,guard:=gd} (yielded ops a.tmps)=true) (z v:Value) (hu:P.underlying t=some (.slice elem)) (hi:(P.info? elem).map (fun i=>(i.zero,i.size))=some (some z,1)) (hz:z.cells=#[z]) (hx:a.eval x=v) (hv:v.cells=#[v]) (hm:Mem w0 S w rows)
  (h:∀w' g,Below w.heap.size w w'→Mem w0 S w' ((g,[v],elem)::rows)→wpList P ops Q rest (a.put dst (.slice (some ⟨g,0,none⟩) 1 1)) w') :
  wpList P ops Q ({dst:=dst,op:=.buildSlice t 1 #[(0,x)],type:=typ,pos:=pos,after:=aft,guard:=gd}::rest) a w:=by
 refine wpList_step fun K hK=>?_
 rw [if_pos hw]
 have hh:=hK _ _ (h _ _ ((Below.refl _ _).alloc (Nat.le_refl _) _) (hm.alloc [v] elem))
 unfold Oper.wp execOp
 simp only [List.map_toArray,List.map_cons,List.map_nil,hx,run_bsl1 (P:=P) w z v hu hi hz hv,Sem.run_bind,Sem.run_pure,Result.andThen_ok]
 exact hh
end
open Go Go.RowKit
section
variable {a:Act} {w:World} {dst:Option Tmp} {typ:TypeId} {pos:String} {aft:Array Edge} {gd:Option (Nat×Bool)}
end
open Go Go.RowKit
def cutB (c:UInt8) (s:ByteArray):List ByteArray:=(cut c (bs s)).map mkS
open Go Go.RowKit
open Go Go.RowKit
theorem cutHi_some (g o cap:Nat):cutHi (some ⟨g,o,none⟩) cap=some ⟨g,o,none⟩:=by
 unfold cutHi
 split
 ·rfl
 ·simp [bO]
theorem exec_hiB {a:Act} {w:World} {dst:Option Tmp} {typ:TypeId} {pos:String} {aft:Array Edge} {gd:Option (Nat×Bool)} {x hi:Operand} {g o len cap:Nat} (m:Nat) {ih:Int} (hm:m≤cap) (hx:a.eval x=.slice (some ⟨g,o,none⟩) len cap) (hhi:a.eval hi=.int .i64 ih) (hih:ih=(m:Int)) :
  (execOp a.eval {dst:=dst,op:=.slice 53 x none (some hi) none,type:=typ,pos:=pos,after:=aft,guard:=gd}).run Tryd.prog w=.ok (.value (.slice (some ⟨g,o,none⟩) m cap)) w:=by
 have h:=exec_sHi (P:=Tryd.prog) (w:=w) (dst:=dst) (typ:=typ) (pos:=pos) (aft:=aft) (gd:=gd) bA b9 m hm hx hhi hih
 rw [cutHi_some] at h
 exact h
def jnk (c:UInt8) (xs:List ByteArray) (k:Nat):List UInt8:=jn c ((xs.take k).map bs)
open Go Go.RowKit
open Go Go.RowKit
def tx (ks:List ByteArray):ByteArray:=mkS (jn 47 (ks.map bs))
def cd (ks:List ByteArray):List UInt8:=codeOf (ks.map bs)
def undB (a b:List ByteArray):Bool:=(b.map bs).isPrefixOf (a.map bs)
theorem bs_tx (ks:List ByteArray):bs (tx ks)=jn 47 (ks.map bs):=bs_mkS _
theorem isP_tx {ks:List ByteArray} (h:PlOk ks):isP (bs (tx ks))=true:=by rw [bs_tx];exact (isP_jn h.to).1
theorem co {ks:List ByteArray} (h:PlOk ks):segsB (tx ks)=ks:=by
 unfold segsB
 rw [bs_tx,(isP_jn h.to).2,aU]
theorem tx_inj {a b:List ByteArray} (h:PlOk a) (h2:PlOk b) (e:tx a=tx b):a=b:=by rw [←co h,e,co h2]
theorem bd {ks:List ByteArray} (h:PlOk ks):(tx ks).size≤33:=by
 unfold tx
 rw [mkS_size]
 have h1:=jn_len 47 (ks:=ks.map bs) (fun k hk=>by
  obtain ⟨x,hx,rfl⟩:=List.mem_map.1 hk
  rw [aX];exact (h.size hx).2)
 have:=h.len
 rw [List.length_map] at h1
 omega
theorem tx_segs {s:ByteArray} (h:isP (bs s)=true):tx (segsB s)=s:=by
 unfold tx
 rw [bQ,jn_segsOf h,mkS_bs]
theorem und_tx {a b:List ByteArray} (h:PlOk a) (h2:PlOk b):undOf (bs (tx a)) (bs (tx b))=undB a b:=by
 unfold undOf undB
 rw [isP_tx h,isP_tx h2,bs_tx,bs_tx,(isP_jn h.to).2,(isP_jn h2.to).2,Bool.true_and,Bool.true_and]
theorem map_bs_inj {a b:List ByteArray} (h:a.map bs=b.map bs):a=b:=by
 rw [←aU a,h,aU]
theorem no0 {ks:List ByteArray} (h:PlOk ks):∀k∈ks.map bs,0 ∉ k:=fun k hk=>seg_ne0 ((bM h.to).2 k hk)
theorem cd_inj {a b:List ByteArray} (h:PlOk a) (h2:PlOk b) (e:cd a=cd b):a=b:=map_bs_inj (codeOf_inj (no0 h) (no0 h2) e)
theorem aA {a b:List ByteArray}:undB a b=true↔b <+: a:=by
 unfold undB
 rw [List.isPrefixOf_iff_prefix]
 constructor
 ·rintro ⟨t,ht⟩
  refine ⟨t.map mkS,?_⟩
  have:=congrArg (List.map mkS) ht
  rw [List.map_append,aU,aU] at this
  exact this
 ·rintro ⟨t,rfl⟩
  exact ⟨t.map bs,by rw [List.map_append]⟩
def lastS (ks:List ByteArray):ByteArray:=ks.getLast?.getD noStr
def pvv (ks:List ByteArray):List Value:=[.string (tx ks.dropLast),.string (lastS ks)]
theorem lastS_nil:lastS []=noStr:=rfl
theorem lastS_ne {ks:List ByteArray} (h:PlOk ks) (h0:ks≠[]):lastS ks≠noStr:=by
 intro e
 unfold lastS at e
 rw [List.getLast?_eq_some_getLast h0] at e
 have h1:=(h.size (List.getLast_mem h0)).1
 rw [show ks.getLast h0=noStr from e] at h1
 exact absurd h1 (by decide)
theorem ck {ks:List ByteArray} (h0:ks≠[]):ks.dropLast++[lastS ks]=ks:=by
 unfold lastS
 rw [List.getLast?_eq_some_getLast h0]
 exact List.dropLast_concat_getLast h0
theorem pvv_inj {a b:List ByteArray} (h:PlOk a) (h2:PlOk b) (e:pvv a=pvv b):a=b:=by
 simp only [pvv,List.cons.injEq,Value.string.injEq,and_true] at e
 have e1:=tx_inj h.drop h2.drop e.1
 by_cases ha:a=[]
 ·by_cases hb:b=[]
  ·rw [ha,hb]
  ·exact absurd (by rw [←e.2,ha,lastS_nil]) (lastS_ne h2 hb)
 ·by_cases hb:b=[]
  ·exact absurd (by rw [e.2,hb,lastS_nil]) (lastS_ne h ha)
  ·rw [←ck ha,←ck hb,e1,e.2]
theorem aH (ks:List ByteArray):∀v∈pvv ks,v.oneCell'=true:=by intro v hv;simp [pvv] at hv;rcases hv with rfl|rfl<;>rfl
theorem bG {ks qs:List ByteArray} (h:PlOk ks) (h2:PlOk qs) (he:Value.agg (pvv ks).toArray=.agg (pvv qs).toArray):ks=qs :=
 pvv_inj h h2 (by simpa using he)
theorem plOf_self {ks:List ByteArray} (h:PlOk ks):plOf ks=ks:=by unfold plOf;rw [if_pos h.to]
theorem plOf_empty:plOf [noStr]=[]:=by decide +kernel
theorem lt_le {a b c:List UInt8} (h:a<b) (h2:b≤c):a<c:=by
 by_cases h3:a<c
 ·exact h3
 ·exact absurd h (List.not_lt.2 (List.le_trans h2 (List.not_lt.1 h3)))
theorem le_ne {a b:List UInt8} (h:a≤b) (hn:a≠b):a<b:=by
 by_cases h3:a<b
 ·exact h3
 ·exact absurd (List.le_antisymm h (List.not_lt.1 h3)) hn
abbrev Sp:=List ByteArray×Int×Int×Int×Int×Int×Int
abbrev Nms:=List Sp
def spc (ks:List ByteArray) (b e:Int):List Value:=[.string (tx ks),.int .i64 b,.int .i64 e,.int .i64 0,.int .i64 0]
def spv (x:Sp):List Value:=[.string (tx x.1),.int .i64 x.2.1,.int .i64 x.2.2.1,.int .i64 x.2.2.2.1,.int .i64 x.2.2.2.2.1]
def spw (x:Sp):List Value:=spv x++[.int .i64 x.2.2.2.2.2.1,.int .i64 x.2.2.2.2.2.2]
theorem ba (ks:List ByteArray) (b e:Int):∀v∈spc ks b e,v.oneCell'=true:=by intro v hv;simp [spc] at hv;rcases hv with rfl|rfl|rfl|rfl<;>rfl
def NmK (p:Nms):Value→Value→Prop:=fun k v=>∃x,x∈p∧k=.agg (pvv x.1).toArray∧v=.agg (spw x).toArray
structure NmOk (p:Nms):Prop where
 ok:∀x∈p,PlOk x.1
 srt:p.Pairwise fun x y=>cd x.1<cd y.1
def hasN (p:Nms) (ks:List ByteArray):Bool:=p.any fun x=>decide (x.1=ks)
def getN (p:Nms) (ks:List ByteArray):Option Sp:=p.find? fun x=>decide (x.1=ks)
def kidsN (p:Nms) (s:ByteArray):List ByteArray:=(p.filter fun x=>decide (tx x.1.dropLast=s) && !decide (x.1=[])).map fun x=>lastS x.1
def undN (p:Nms) (ks:List ByteArray):Nms:=p.filter fun x=>undB x.1 ks
def addN (p:Nms) (x:Sp):Nms:=(p.filter fun y=>decide (cd y.1<cd x.1))++x::p.filter fun y => !decide (cd y.1<cd x.1)
def delN (p:Nms) (ks:List ByteArray):Nms:=p.filter fun x => !undB x.1 ks
def limOk (b e:Int):Bool:=decide (0≤b∧b≤1000000)&&decide (0≤e∧e≤1000000)
def addE (p:Nms) (s:ByteArray) (b e:Int):Int :=
 if isP (bs s)=false then 110 else if segsB s=[] then 110 else if limOk b e=false then 12 else if hasN p (segsB s)=true then 101 else
 if hasN p (segsB s).dropLast=false then 100 else if 2≤(kidsN p (tx (segsB s).dropLast)).length then 102 else 0
def remE (p:Nms) (s:ByteArray):Int :=
 if isP (bs s)=false then 110 else if segsB s=[] then 110 else if hasN p (segsB s)=false then 100 else 0
def heldI (x:Int):Int:=max 0 (min x 1000000)
def newN (b e:Int):Nms:=[([],heldI b,heldI e,0,0,0,0)]
theorem NmOk.new (b e:Int):NmOk (newN b e):=⟨fun x hx=>by rw [List.mem_singleton.1 hx];exact PlOk.nil,List.pairwise_singleton _ _⟩
theorem NmOk.sub {p q:Nms} (h:NmOk p) (hs:q.Sublist p):NmOk q:=⟨fun x hx=>h.ok x (hs.mem hx),h.srt.sublist hs⟩
theorem ar {p:Nms} {ks:List ByteArray}:hasN p ks=true↔∃x∈p,x.1=ks:=by
 unfold hasN
 rw [List.any_eq_true]
 exact ⟨fun ⟨x,hx,h⟩=>⟨x,hx,of_decide_eq_true h⟩,fun ⟨x,hx,h⟩=>⟨x,hx,decide_eq_true h⟩⟩
theorem NmOk.uniq {p:Nms} (h:NmOk p) {x y:Sp} (hx:x∈p) (hy:y∈p) (e:x.1=y.1):x=y:=by
 have hp:=h.srt
 clear h
 induction p with
 | nil=>cases hx
 | cons z p ih =>
  rw [List.pairwise_cons] at hp
  rcases List.mem_cons.1 hx with h1|h1
  ·rcases List.mem_cons.1 hy with h2|h2
   ·rw [h1,h2]
   ·have:=hp.1 y h2
    rw [←h1,e] at this
    exact absurd this (List.lt_irrefl _)
  ·rcases List.mem_cons.1 hy with h2|h2
   ·have:=hp.1 x h1
    rw [←h2,e] at this
    exact absurd this (List.lt_irrefl _)
   ·exact ih h1 h2 hp.2
theorem bb {p:Nms} {ks:List ByteArray} {x:Sp} (h:getN p ks=some x):x∈p∧x.1=ks :=
 ⟨List.mem_of_find?_eq_some h,of_decide_eq_true (List.find?_some (p:=fun x:Sp=>decide (x.1=ks)) h)⟩
theorem getN_none {p:Nms} {ks:List ByteArray} (h:getN p ks=none):hasN p ks=false:=by
 unfold hasN
 rw [List.any_eq_false]
 intro x hx
 exact (List.find?_eq_none.1 h) x hx
theorem getN_has {p:Nms} {ks:List ByteArray}:hasN p ks=(getN p ks).isSome:=by
 cases h:getN p ks with
 | none=>exact getN_none h
 | some x=>exact ar.2 ⟨x,(bb h).1,(bb h).2⟩
theorem NmOk.add {p:Nms} (h:NmOk p) {x:Sp} (hx:PlOk x.1) (hn:hasN p x.1=false):NmOk (addN p x):=by
 have hne:∀y∈p,cd y.1≠cd x.1:=fun y hy e=>by
  have:=ar.2 ⟨y,hy,cd_inj (h.ok y hy) hx e⟩
  rw [hn] at this;cases this
 unfold addN
 refine ⟨fun y hy=>?_,?_⟩
 ·rcases List.mem_append.1 hy with h1|h1
  ·exact h.ok y ((List.mem_filter.1 h1).1)
  ·rcases List.mem_cons.1 h1 with rfl|h1
   ·exact hx
   ·exact h.ok y ((List.mem_filter.1 h1).1)
 ·rw [List.pairwise_append,List.pairwise_cons]
  refine ⟨h.srt.sublist List.filter_sublist,⟨fun y hy=>?_,h.srt.sublist List.filter_sublist⟩,fun y hy z hz=>?_⟩
  ·obtain ⟨hy1,hy2⟩:=List.mem_filter.1 hy
   have h3:¬cd y.1<cd x.1:=by simpa using hy2
   exact le_ne (List.not_lt.1 h3) (fun e=>hne y hy1 e.symm)
  ·obtain ⟨hy1,hy2⟩:=List.mem_filter.1 hy
   have h3:cd y.1<cd x.1:=by simpa using hy2
   rcases List.mem_cons.1 hz with rfl|hz
   ·exact h3
   ·obtain ⟨hz1,hz2⟩:=List.mem_filter.1 hz
    have h4:¬cd z.1<cd x.1:=by simpa using hz2
    exact lt_le h3 (List.not_lt.1 h4)
theorem bu {p:Nms} {x y:Sp}:y∈addN p x↔y=x∨y∈p:=by
 unfold addN
 rw [List.mem_append,List.mem_cons,List.mem_filter,List.mem_filter]
 by_cases h:cd y.1<cd x.1
 ·simp [h]
  exact ⟨fun h=>h.elim Or.inr Or.inl,fun h=>h.elim Or.inr Or.inl⟩
 ·simp [h]
theorem NmOk.del {p:Nms} (h:NmOk p) (ks:List ByteArray):NmOk (delN p ks):=h.sub List.filter_sublist
open Go Go.RowKit Go.Maps
theorem aF:Tryd.prog.underlying 42=some (.struct (Tryd.prog.fieldsOf 42)):=by kernel_rfl
theorem info_np:(Tryd.prog.info? 42).map (fun i=>(i.zero,i.size))=some (some (.agg (pvv []).toArray),2):=by kernel_rfl
theorem aD:∀w,(zeroValue 42).run Tryd.prog w=.ok (.agg (pvv []).toArray) w:=(zero_of_info info_np).1
theorem ao:(Tryd.prog.info? 42).map (·.size)=some 2:=(zero_of_info info_np).2
def spZ:List Value:=[.string noStr,.int .i64 0,.int .i64 0,.int .i64 0,.int .i64 0]
theorem bj:Tryd.prog.underlying 32=some (.struct (Tryd.prog.fieldsOf 32)):=by kernel_rfl
theorem info_sp:(Tryd.prog.info? 32).map (fun i=>(i.zero,i.size))=some (some (.agg spZ.toArray),5):=by kernel_rfl
theorem aN:∀w,(zeroValue 32).run Tryd.prog w=.ok (.agg spZ.toArray) w:=(zero_of_info info_sp).1
theorem aJ:(Tryd.prog.info? 32).map (·.size)=some 5:=(zero_of_info info_sp).2
def swZ:List Value:=spZ++[.int .i64 0,.int .i64 0]
theorem un_sw:Tryd.prog.underlying 45=some (.struct (Tryd.prog.fieldsOf 45)):=by kernel_rfl
theorem info_sw:(Tryd.prog.info? 45).map (fun i=>(i.zero,i.size))=some (some (.agg swZ.toArray),7):=by kernel_rfl
theorem aR:∀w,(zeroValue 45).run Tryd.prog w=.ok (.agg swZ.toArray) w:=(zero_of_info info_sw).1
theorem bq:(Tryd.prog.info? 45).map (·.size)=some 7:=(zero_of_info info_sw).2
theorem bR:∀w,(isAgg 46).run Tryd.prog w=.ok false w:=by intro w;simp [go_sem]
theorem bp:Tryd.prog.underlying 46=some (.map 42 45):=Tryd.underlying46
theorem np_laid:laidOutB Tryd.prog=true:=by kernel_rfl
theorem np_row:(42:TypeId)<Tryd.prog.types.size:=of_decide_eq_true (by kernel_rfl)
theorem np_wide:(match Tryd.prog.underlying 42 with|some (.array _ _)|some (.struct _)=>true|_=>false)=true:=by kernel_rfl
theorem ax:Keyed Tryd.prog 42:=Keyed.of_law (deep_law_laid np_laid (m:=2) (by omega) np_row (by kernel_rfl) np_wide)
theorem np_type:Tryd.prog.keyType 42=true:=by kernel_rfl
theorem np_cells:Tryd.prog.cellsOf 42=2:=by kernel_rfl
theorem np_strc:Tryd.prog.cellsOf 9=1:=by kernel_rfl
theorem np_some:∃n,Tryd.prog.types.size=n+1:=⟨Tryd.prog.types.size - 1,by have h:(42:Nat)<Tryd.prog.types.size:=np_row;omega⟩
theorem np_lit (n:Nat) (s:ByteArray) (h:s.size≤1000):∃ls,Tryd.prog.keyLits (n+1) 9 [.string s]=some ls:=by
 unfold Program.keyLits
 simp only [bW]
 exact ⟨_,if_pos (by simp [maxLen];omega)⟩
theorem lastS_size {ks:List ByteArray} (h:PlOk ks):(lastS ks).size≤10:=by
 unfold lastS
 by_cases h0:ks=[]
 ·subst h0;decide
 ·rw [List.getLast?_eq_some_getLast h0]
  exact (h.size (List.getLast_mem h0)).2
theorem cD {ks:List ByteArray} (h:PlOk ks):∃kl,keyOf Tryd.prog 42 (.agg (pvv ks).toArray)=some kl:=by
 obtain ⟨d,hd⟩:=np_some
 have hf:(Value.agg (pvv ks).toArray).formed Tryd.prog 42=true:=by
  simp [Value.formed,np_cells,pvv]
 obtain ⟨l0,h0⟩:=np_lit d (tx ks.dropLast) (by have:=bd h.drop;omega)
 obtain ⟨l1,h1⟩:=np_lit d (lastS ks) (by have:=lastS_size h;omega)
 have hk:∃ls,Tryd.prog.keyLits (Tryd.prog.types.size+1) 42 (pvv ks)=some ls:=by
  unfold Program.keyLits
  simp only [Tryd.underlying42]
  rw [if_pos ⟨by rw [np_cells];rfl,by kernel_rfl⟩]
  simp only [np_strc,hd,List.mapM_cons,List.mapM_nil,pvv,List.drop,List.take]
  rw [h0,h1]
  exact ⟨_,rfl⟩
 obtain ⟨ls,hls⟩:=hk
 unfold keyOf
 rw [Tryd.underlying42]
 simp only
 rw [if_pos (by rw [np_type,hf];rfl)]
 exact ⟨_,by rw [show (Value.agg (pvv ks).toArray).cells.toList=pvv ks from rfl,hls];rfl⟩
theorem eg_np:Tryd.prog.eqGuardType Tryd.prog.depth 42=false:=by kernel_rfl
theorem eg_sp:Tryd.prog.eqGuardType Tryd.prog.depth 32=false:=by kernel_rfl
theorem equal_two (k v k' v':ByteArray) (w:World):(Op.equalIn 10000 42 (.agg #[.string k,.string v]) (.agg #[.string k',.string v'])).run Tryd.prog w=.ok (k.toList==k'.toList&&v.toList==v'.toList) w:=by
 have u3:=Tryd.underlying9
 have a3:=Tryd.isAgg9
 have z3:=Tryd.sizeOf9
 have hS:Tryd.prog.underlying 42=some (.struct (Tryd.prog.fieldsOf 42)):=by kernel_rfl
 have hp:Tryd.prog.stoodInHeld 42=false:=by kernel_rfl
 rw [show (10000:Nat)=9999+1 from rfl,run_equalIn_agg w 9999 42 _ _ hS hp]
 simp only [Program.fieldsOf,Tryd.underlying42]
 go_simp
 by_cases h1:k.toList=k'.toList<;>by_cases h2:v.toList=v'.toList<;>simp [h1,h2]
theorem eq_np (w:World) {ks qs:List ByteArray} (h:PlOk ks) (h2:PlOk qs) (b:Bool) (hb:b=decide (ks=qs)):(Op.equalIn 10000 42 (.agg (pvv ks).toArray) (.agg (pvv qs).toArray)).run Tryd.prog w=.ok b w:=by
 have h3:=equal_two (tx ks.dropLast) (lastS ks) (tx qs.dropLast) (lastS qs) w
 refine h3.trans ?_
 congr 1
 rw [←beq_toListBytes,←beq_toListBytes,bP,bP,hb,Bool.eq_iff_iff,Bool.and_eq_true,decide_eq_true_iff,decide_eq_true_iff,decide_eq_true_iff]
 constructor
 ·rintro ⟨e1,e2⟩;exact pvv_inj h h2 (by unfold pvv;rw [e1,e2])
 ·rintro rfl;exact ⟨rfl,rfl⟩
theorem equal_five (s s':ByteArray) (a b c d a' b' c' d':Int) (w:World):(Op.equalIn 10000 32 (.agg #[.string s,.int .i64 a,.int .i64 b,.int .i64 c,.int .i64 d]) (.agg #[.string s',.int .i64 a',.int .i64 b',.int .i64 c',.int .i64 d'])).run Tryd.prog w=.ok (s.toList==s'.toList&&(a==a'&&(b==b'&&(c==c'&&d==d')))) w:=by
 have u3:=Tryd.underlying9
 have a3:=Tryd.isAgg9
 have z3:=Tryd.sizeOf9
 have u4:=Tryd.underlying3
 have a4:=Tryd.isAgg3
 have z4:=Tryd.sizeOf3
 have hS:Tryd.prog.underlying 32=some (.struct (Tryd.prog.fieldsOf 32)):=by kernel_rfl
 have hp:Tryd.prog.stoodInHeld 32=false:=by kernel_rfl
 rw [show (10000:Nat)=9999+1 from rfl,run_equalIn_agg w 9999 32 _ _ hS hp]
 simp only [Program.fieldsOf,Tryd.underlying32]
 go_simp
 by_cases h1:s.toList=s'.toList<;>by_cases h2:a=a'<;>by_cases h3:b=b'<;>by_cases h4:c=c'<;>by_cases h5:d=d'<;>simp [h1,h2,h3,h4,h5]
theorem eq_sp (w:World) (ks qs:List ByteArray) (x y x' y':Int) (r:Bool) (hr:r=(decide (tx ks=tx qs)&&(decide (x=x')&&decide (y=y')))):(Op.equalIn 10000 32 (.agg (spc ks x y).toArray) (.agg (spc qs x' y').toArray)).run Tryd.prog w=.ok r w:=by
 refine (equal_five (tx ks) (tx qs) x y 0 0 x' y' 0 0 w).trans ?_
 congr 1
 rw [←beq_toListBytes,bP,hr,show ((0:Int)==0)=true from rfl,Bool.and_true,Bool.and_true]
 rfl
section
variable {a:Act} {w:World} {dst:Option Tmp} {typ:TypeId} {pos:String} {aft:Array Edge} {gd:Option (Nat×Bool)}
theorem exec_neN {x y:Operand} {rt:TypeId} {ks qs:List ByteArray} (h:PlOk ks) (h2:PlOk qs) (b:Bool) (hb:b=decide (ks=qs)) (hx:a.eval x=.agg (pvv ks).toArray) (hy:a.eval y=.agg (pvv qs).toArray) :
  (execOp a.eval {dst:=dst,op:=.binOp .neq 42 x y rt,type:=typ,pos:=pos,after:=aft,guard:=gd}).run Tryd.prog w=.ok (.value (.bool (!b))) w:=by
 unfold execOp
 simp only [hx,hy,Sem.run_bind,run_eqGuard_agg w .neq 42 x y _ _ eg_np,Sem.run_pure,Result.andThen_ok,run_neq_struct,eq_np w h h2 b hb]
theorem bJ {x y:Operand} {rt:TypeId} {ks qs:List ByteArray} (h:PlOk ks) (h2:PlOk qs) (b:Bool) (hb:b=decide (ks=qs)) (hx:a.eval x=.agg (pvv ks).toArray) (hy:a.eval y=.agg (pvv qs).toArray) :
  (execOp a.eval {dst:=dst,op:=.binOp .eql 42 x y rt,type:=typ,pos:=pos,after:=aft,guard:=gd}).run Tryd.prog w=.ok (.value (.bool b)) w:=by
 unfold execOp
 simp only [hx,hy,Sem.run_bind,run_eqGuard_agg w .eql 42 x y _ _ eg_np,Sem.run_pure,Result.andThen_ok,run_eql_struct,eq_np w h h2 b hb]
theorem bE {x y:Operand} {rt:TypeId} (ks qs:List ByteArray) (u v u' v':Int) (r:Bool) (hr:r=(decide (tx ks=tx qs)&&(decide (u=u')&&decide (v=v')))) (hx:a.eval x=.agg (spc ks u v).toArray) (hy:a.eval y=.agg (spc qs u' v').toArray) :
  (execOp a.eval {dst:=dst,op:=.binOp .neq 32 x y rt,type:=typ,pos:=pos,after:=aft,guard:=gd}).run Tryd.prog w=.ok (.value (.bool (!r))) w:=by
 unfold execOp
 simp only [hx,hy,Sem.run_bind,run_eqGuard_agg w .neq 32 x y _ _ eg_sp,Sem.run_pure,Result.andThen_ok,run_neq_struct,eq_sp w ks qs u v u' v' r hr]
end
open Go Go.RowKit Go.Maps
def cfB (x y:ByteArray):Int:=Lib.compareBytes (bs x) (bs y)
theorem Row.bel {w w':World} {g:Nat} {l:List Value} {t:TypeId} (hr:Row w g l t) (hb:Below w.heap.size w w'):Row w' g l t:=(hb.block g (Row.lt hr)).trans hr
theorem br (w:World) :
  Calls Tryd.prog 15 #[] w fun e w'=>e=.returned (.agg (pvv []).toArray)∧Below w.heap.size w w':=by
 have hm:=Mem.start w
 go_enter Tryd.func15,Tryd.ntmps15
 go_wp2_with (first
  | ((with_reducible refine aa (some 0) (.alloc 42) ?_);refine ad _ aD hm ?_;clear hm;intro w1 g0 hm)
  | ((with_reducible refine aa (some 1) (.build 42 #[]) ?_);refine an (pvv []) [] rfl (by kernel_rfl) ?_)
  | ((with_reducible refine aa none (.store 42 (.tmp 0) (.tmp 1)) ?_);refine af 0 (pvv []) hm rfl rfl rfl 2 ao rfl rfl (aH _) ?_;clear hm;intro w2 hm))
 refine bv 0 hm rfl Tryd.results15 rfl _ aF rfl 2 ao rfl rfl ?_
 exact ⟨rfl,hm.below⟩
theorem Mem.grownB {w0 w w':World} {rows:List (Nat×List Value×TypeId)} {base:Nat} {e:TypeId} {K:Nat} {v:Value} {n:Nat} {cs:List Value} (hm:Mem w0 [] w rows) (hg:w.grownBy w' v.ownBlock) (ho:w.ownsRow base e K v n cs) (hlow:∀r∈rows,r.1<base) (hw:w0.heap.size≤base):Mem w0 [] w' rows:=by
 have hne:∀k,k<base→some k≠v.ownBlock:=fun k hk e=>by have:=(World.ownsRow.lt ho k e.symm).1;omega
 refine ⟨hg.os.trans hm.os,hg.tape.trans hm.tape,hg.output.trans hm.output,Nat.le_trans hm.size hg.size,fun k hk hn=>?_,fun r hr=>?_,hm.nodup,hm.fresh⟩
 ·exact (hg.block k (Nat.lt_of_lt_of_le hk hm.size) (hne k (by omega))).trans (hm.block k hk hn)
 ·have h1:=hm.row r hr
  exact (hg.block r.1 (Row.lt h1) (hne _ (hlow r hr))).trans h1
theorem one_str (x:ByteArray):∀u∈[Value.string x],u.oneCell'=true:=by
 intro u hu
 rw [List.mem_singleton.1 hu];rfl
theorem join_dl {ks:List ByteArray} (h:PlOk ks):mkS (jn 47 ((plOf (ks.dropLast++[lastS ks])).map bs))=tx ks:=by
 by_cases h0:ks=[]
 ·subst h0
  rw [show ([]:List ByteArray).dropLast++[lastS []]=[noStr] from rfl,plOf_empty];rfl
 ·rw [ck h0,plOf_self h];rfl
theorem bZ {ks:List ByteArray} (h:PlOk ks) (w:World) (hM:MaxL w) :
  Calls Tryd.prog 17 #[.agg (pvv ks).toArray] w fun e w'=>e=.returned (.string (tx ks))∧Below w.heap.size w w':=by
 have hm:=Mem.start w
 have HM:Hid (MaxL w):=hM
 obtain ⟨ds,hds⟩:∃x,x=ks.dropLast:=⟨_,rfl⟩
 obtain ⟨x,hx⟩:∃x,x=lastS ks:=⟨_,rfl⟩
 obtain ⟨n,hn⟩:∃n,n=ds.length:=⟨_,rfl⟩
 have hn3:n≤3:=by rw [hn,hds];exact h.drop.len
 have HC0:Hid ((pvv ks)[0]?=some (.string (tx ds))):=by rw [hds];rfl
 have HC1:Hid ((pvv ks)[1]?=some (.string x)):=by rw [hx];rfl
 have HSP:Hid (∀W,MaxL W→Calls Tryd.prog 27 #[.string (tx ds)] W fun e w'=>∃v,e=.returned v∧w'.ownsRow W.heap.size 9 1 v n (strs ds)∧Below W.heap.size W w'):=fun W hW=>by
  have h1:=cw (tx ks.dropLast) W (by have:=bd h.drop;omega) hW
  rw [co h.drop] at h1
  rw [hn,hds];exact h1
 have HJ:Hid (∀(W:World) (v:Value) (b:Nat),W.ownsRow b 9 1 v (n+1) (strs ds++[.string x])→Calls Tryd.prog 29 #[v] W fun e w'=>e=.returned (.string (tx ks))∧Below W.heap.size W w'):=fun W v b hv=>by
  have h1:=joinP_any (ks.dropLast++[lastS ks]) v W (by
   have h2:=own_sl hv
   rw [hn,hds,hx] at h2
   unfold SlS
   rw [show strs (ks.dropLast++[lastS ks])=strs ks.dropLast++[.string (lastS ks)] by unfold strs;rw [List.map_append];rfl,List.length_append]
   exact h2)
  rw [join_dl h] at h1
  exact h1
 clear h hM hds hx hn
 go_enter Tryd.func17,Tryd.ntmps17
 go_wp2_with (first
  | ((with_reducible refine aa (some 1) (.box 42 (.tmp 0)) ?_);refine aE (pvv ks) rfl hm ?_;clear hm;intro w1 g1 hm))
 have HROW:Hid (Row w1 g1 (pvv ks) 42):=hm.get 0 rfl
 have HB1:Hid (Below w.heap.size w w1):=hm.below
 have hz1:=hm.size
 replace HM:Hid (MaxL w1):=HM.out.below HB1.out
 clear hm
 have hm:=Mem.start w1
 refine am ?_
 refine ag (T:=fun W=>∃l,Mem w1 [] W l) (by kernel_rfl) hm ?_
 intro wc hbw hmw
 clear hm
 have hm:=hmw
 clear hbw hmw
 refine aT 0 (v:=.pointer (some ⟨g1,0,none⟩)) rfl (by kernel_rfl) rfl (fun W _=>by go_simp) ⟨_,hm⟩ ?_
 go_simp
 refine aT 1 (v:=.string (tx ds)) rfl (by kernel_rfl) rfl (fun W hW=>by obtain ⟨l,hW⟩:=hW;exact ae 0 (.string (tx ds)) (Row.bel HROW.out hW.below) rfl az HC0.out) ⟨_,hm⟩ ?_
 go_simp
 refine aT 3 (v:=.pointer (some ⟨g1,1,none⟩)) rfl (by kernel_rfl) rfl (fun W _=>by go_simp) ⟨_,hm⟩ ?_
 go_simp
 refine aT 4 (v:=.string x) rfl (by kernel_rfl) rfl (fun W hW=>by obtain ⟨l,hW⟩:=hW;exact ae 1 (.string x) (Row.bel HROW.out hW.below) rfl az HC1.out) ⟨_,hm⟩ ?_
 go_simp
 refine wpAnyH_all (rs:=[2,5]) (by kernel_rfl) (by simp) ?_
 intro i hi
 simp only [List.mem_cons,List.not_mem_nil,or_false] at hi
 rcases hi with rfl|rfl
 ·refine bU 2 rfl rfl ?_
  intro Kc hK
  go_wp2_with (go_at_call 27;refine (HSP.out _ (HM.out.below hm.below)).mono ?_;rintro e w' ⟨v,he,ho,hb⟩;subst he;have HO:Hid (w'.ownsRow w1.heap.size 9 1 v n (strs ds)):=ct hm.size ho;clear ho;replace hm:=hm.call hb;clear hb)
  refine hK _ _ ⟨_,hm⟩ ?_
  clear hK Kc
  go_simp
  refine aO 5 (by kernel_rfl) rfl rfl ?_
  intro K hK
  refine cV rfl (.string noStr) (.string x) bA c3 rfl rfl rfl hm ?_
  clear hm
  intro w6 g8 hb6 hm
  replace HO:Hid (w6.ownsRow w1.heap.size 9 1 v n (strs ds)):=cu HO.out hb6
  clear hb6
  have HG8:Hid (Row w6 g8 [.string x] 9):=hm.get 0 rfl
  refine wpList_nil ?_
  refine hK _ _ ⟨_,hm⟩ ?_
  clear hK K
  go_simp
  refine aO 6 (by kernel_rfl) rfl rfl ?_
  intro K hK
  refine c7 (.string noStr) 1 16 rfl bA cm rfl (by omega) (by omega) HO.out hm.size rfl rfl (Row.bel HG8.out (Below.refl _ _)) rfl (one_str x) (by omega) ?_
  intro v9 w9 ho9 hg9 hl9
  replace hm:=(hm.sub (List.nil_sublist _)).grownB hg9 HO.out (by simp) (Nat.le_refl _)
  clear HO
  have HO:Hid (w9.ownsRow w1.heap.size 9 1 v9 (n+1) (strs ds++[.string x])):=ho9
  clear ho9 hg9 hl9
  refine wpList_nil ?_
  refine hK _ _ ⟨_,hm⟩ ?_
  clear hK K
  go_simp
  refine aO 7 (by kernel_rfl) rfl rfl ?_
  intro K hK
  go_wp2_with (go_at_call 29;refine (HJ.out _ _ _ HO.out).mono ?_;rintro e w' ⟨he,hb⟩;subst he;replace hm:=hm.call hb;clear hb)
  refine hK _ _ ⟨_,hm⟩ ?_
  clear hK K
  go_simp
  refine aT 8 (v:=.string (tx ks)) rfl (by kernel_rfl) rfl (fun W _=>by go_simp) ⟨_,hm⟩ ?_
  go_simp
  refine wpAnyH_done (by kernel_rfl) ?_ _
  simp only [endsIn]
  go_wp2_with fail
  go_ret
  exact ⟨rfl,HB1.out.trans (hm.below.mono hz1)⟩
 ·refine bU 5 rfl rfl ?_
  intro Kc hK
  refine cV rfl (.string noStr) (.string x) bA c3 rfl rfl rfl hm ?_
  clear hm
  intro w6 g8 hb6 hm
  clear hb6
  have HG8:Hid (Row w6 g8 [.string x] 9):=hm.get 0 rfl
  refine wpList_nil ?_
  refine hK _ _ ⟨_,hm⟩ ?_
  clear hK Kc
  go_simp
  refine aO 2 (by kernel_rfl) rfl rfl ?_
  intro K hK
  go_wp2_with (go_at_call 27;refine (HSP.out _ (HM.out.below hm.below)).mono ?_;rintro e w' ⟨v,he,ho,hb⟩;subst he;have HO:Hid (w'.ownsRow w1.heap.size 9 1 v n (strs ds)):=ct hm.size ho;clear ho;replace HG8:Hid (Row w' g8 [.string x] 9):=Row.bel HG8.out hb;replace hm:=hm.call hb;clear hb)
  refine hK _ _ ⟨_,hm⟩ ?_
  clear hK K
  go_simp
  refine aO 6 (by kernel_rfl) rfl rfl ?_
  intro K hK
  refine c7 (.string noStr) 1 16 rfl bA cm rfl (by omega) (by omega) HO.out hm.size rfl rfl HG8.out rfl (one_str x) (by omega) ?_
  intro v9 w9 ho9 hg9 hl9
  replace hm:=(hm.sub (List.nil_sublist _)).grownB hg9 HO.out (by simp) (Nat.le_refl _)
  clear HO
  have HO:Hid (w9.ownsRow w1.heap.size 9 1 v9 (n+1) (strs ds++[.string x])):=ho9
  clear ho9 hg9 hl9
  refine wpList_nil ?_
  refine hK _ _ ⟨_,hm⟩ ?_
  clear hK K
  go_simp
  refine aO 7 (by kernel_rfl) rfl rfl ?_
  intro K hK
  go_wp2_with (go_at_call 29;refine (HJ.out _ _ _ HO.out).mono ?_;rintro e w' ⟨he,hb⟩;subst he;replace hm:=hm.call hb;clear hb)
  refine hK _ _ ⟨_,hm⟩ ?_
  clear hK K
  go_simp
  refine aT 8 (v:=.string (tx ks)) rfl (by kernel_rfl) rfl (fun W _=>by go_simp) ⟨_,hm⟩ ?_
  go_simp
  refine wpAnyH_done (by kernel_rfl) ?_ _
  simp only [endsIn]
  go_wp2_with fail
  go_ret
  exact ⟨rfl,HB1.out.trans (hm.below.mono hz1)⟩
end Go.Proofs.YtdmohffogfbnbaaDoor
