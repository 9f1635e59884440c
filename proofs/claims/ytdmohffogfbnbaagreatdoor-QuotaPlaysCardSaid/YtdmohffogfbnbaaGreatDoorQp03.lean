import Derived.Test.YtdmohffogfbnbaaGreatDoorQp01
import Derived.Test.YtdmohffogfbnbaaGreatDoorQp02
import Derived.Test.YtdmohffogfbnbaaGreatDoorChecked
import Derived.Maps.OwnSet
import Derived.Maps.OwnOps
import Derived.DeepKeys4
import Derived.Test.YtdmohffogfbnbaaGreatDoorQp00
import Derived.Laws.StructEq
import Derived.Deep.LoopGhost
set_option maxRecDepth 100000
set_option maxHeartbeats 4000000
namespace Go.Proofs.YtdmohffogfbnbaaGreatDoor
open Go Go.RowKit
def MaxL (w:World):Prop:=∃m,w.cell? ⟨0,0,none⟩=some (.int .i64 m)
theorem MaxL.below {w w':World} (h:MaxL w) (hb:Below w.heap.size w w'):MaxL w':=by
 obtain ⟨m,hm⟩:=h
 exact ⟨m,by rw [hb.cell (p:=⟨0,0,none⟩) (block_lt_of_cell hm)];exact hm⟩
theorem SlS.of_row {w:World} {g n cap:Nat} {xs:List ByteArray} {r:List Value} {t:TypeId} (h:Row w g (strs xs++r) t) (hn:xs.length=n) (hc:n≤cap):SlS w (.slice (some ⟨g,0,none⟩) n cap) xs:=by
 subst hn
 refine ⟨_,cap,rfl,hc,by simp [strs],fun _=>⟨g,0,rfl,fun j u hu=>?_⟩⟩
 rw [Nat.zero_add,h.cell j,List.getElem?_append_left (List.getElem?_eq_some_iff.1 hu).1]
 exact hu
theorem splitn_any (c:UInt8) (s:ByteArray) (w:World) (hs:s.size≤1000) (hM:MaxL w) :
  Calls Tryz.prog 82 #[.string s,.string ⟨#[c]⟩,.int .i64 4] w fun e w'=>∃v,e=.returned v∧SlS w' v (Lib.splitB (mkS [c]) 0 (min 4 (s.size+1) - 1) s)∧Below w.heap.size w w':=by
 obtain ⟨m,hm⟩:=hM
 have hle:=Lib.splitB_length_le (mkS [c]) 0 (min 4 (s.size+1) - 1) s
 refine (Any.strings_SplitN splitA bD s (mkS [c]) 4 m w (by omega) hm (by rw [bx];simp) (by omega) (by omega)).mono ?_
 rintro e w' ⟨rfl,rfl⟩
 refine ⟨_,rfl,?_,Below.alloc (Below.refl _ _) (Nat.le_refl _) _⟩
 refine SlS.of_row (t:=9) (r:=List.replicate (min 4 (s.size+1) - (Lib.splitB (mkS [c]) 0 (min 4 (s.size+1) - 1) s).length) (Value.string ByteArray.empty)) ?_ rfl (by omega)
 exact Row.new w _ _
theorem sclone_any (s:ByteArray) (w:World) (hs:s.size≤1000):Calls Tryz.prog 81 #[.string s] w fun e w'=>e=.returned (.string s)∧Below w.heap.size w w':=by
 go_enter Tryz.func81,Tryz.ntmps81
 go_wp2_with (first|(go_at_call 109;refine (AnyPu.stringslite_Clone scloneA s _ (by omega)).mono ?_;rintro e w' ⟨he,hb⟩;subst he))
 go_ret
 exact ⟨rfl,hb⟩
theorem plv_cell {w:World} {g:Nat} {ks:List ByteArray} {t:TypeId} (hr:Row w g (plv ks) t):∀j,j<[ks.getD 0 noStr,ks.getD 1 noStr,ks.getD 2 noStr].length→w.cell? ⟨g,0+j,none⟩=some (.string ([ks.getD 0 noStr,ks.getD 1 noStr,ks.getD 2 noStr].getD j ByteArray.empty)):=by
 intro j hj
 rw [Nat.zero_add,hr.cell j]
 simp only [List.length_cons,List.length_nil] at hj
 rcases (show j=0∨j=1∨j=2 by omega) with rfl|rfl|rfl<;>rfl
theorem idx_any {ks:List ByteArray} (h:PlOk ks) {g:Nat} {t:TypeId} (w:World) (hr:Row w g (plv ks) t) :
  Calls Tryz.prog 83 #[.slice (some ⟨g,0,none⟩) 3 3,.string ⟨#[]⟩] w fun e w'=>e=.returned (.int .i64 (if ks.length=3 then -1 else (ks.length:Int)))∧w'=w:=by
 rw [←idx_pl h]
 exact Any.slices_Index_string indexA g 0 3 3 [ks.getD 0 noStr,ks.getD 1 noStr,ks.getD 2 noStr] noStr w (by simp) (by omega) (plv_cell hr)
theorem take3 {ks:List ByteArray} (h:ks.length≤3):[ks.getD 0 noStr,ks.getD 1 noStr,ks.getD 2 noStr].take ks.length=ks:=by
 match ks,h with
 | [],_=>rfl
 | [a],_=>rfl
 | [a,b],_=>rfl
 | [a,b,c],_=>rfl
theorem clone_any {ks:List ByteArray} (h:PlOk ks) {g n cap:Nat} {t:TypeId} (hn:n=ks.length) (w:World) (hr:Row w g (plv ks) t) :
  Calls Tryz.prog 87 #[.slice (some ⟨g,0,none⟩) n cap] w fun e w'=>∃v,e=.returned v∧w'.ownsRow w.heap.size 9 1 v n (strs ks)∧Below w.heap.size w w':=by
 subst hn
 have hl:=h.len
 have c:=Any.slices_Clone_string cloneA g 0 ks.length cap [ks.getD 0 noStr,ks.getD 1 noStr,ks.getD 2 noStr] w (by simpa using hl) (by omega) (plv_cell hr)
 rw [take3 hl] at c
 refine c.mono ?_
 rintro e w' ⟨v,he,ho,_,hb⟩
 exact ⟨v,he,ho,hb⟩
theorem bex:Builder.Extra Tryz.prog joinA_ren:={sizeBuilder:=by kernel_rfl,liesBuilder:=by kernel_rfl,t5:=Tryz.underlying5,a5:=Tryz.isAgg5,z5:=Tryz.sizeOf5,v5:=Tryz.zeroValue5,infoByte:=by kernel_rfl,cellsByte:=by kernel_rfl,sizeByte:=by kernel_rfl,neB5:=by decide}
theorem join_any (xs:List ByteArray) (v:Value) (w:World) (hv:SlS w v xs) (hl:xs.length≤10) (hs:∀x∈xs,x.size≤10) :
  Calls Tryz.prog 68 #[v,.string ⟨#[47]⟩] w fun e w'=>e=.returned (.string (mkS (jn 47 (xs.map bs))))∧Below w.heap.size w w':=by
 obtain ⟨p,cap,rfl,hcap,_,hseg⟩:=hv
 by_cases h0:xs=[]
 ·subst h0
  refine (Any.strings_Join_none joinA bex p cap ⟨#[47]⟩ w).mono ?_
  rintro e w' ⟨rfl,rfl⟩
  exact ⟨rfl,Below.refl _ _⟩
 ·obtain ⟨b,off,rfl,hc⟩:=hseg (List.length_pos_iff.2 h0)
  have hcells:∀(j:Nat) x,xs[j]?=some x→w.cell? ⟨b,off+j,none⟩=some (.string x):=fun j x hx=>hc j _ (by simp [strs,hx])
  have hb:b<w.heap.size:=by
   have:=hcells 0 (xs[0]'(List.length_pos_iff.2 h0)) (by simp)
   exact block_lt_of_cell this
  have hlen:(Lib.join (xs.map (·.data.toList)) [47]).length≤140737488355328:=by
   have:=jn_len 47 (ks:=xs.map bs) (fun k hk=>by obtain ⟨x,hx,rfl⟩:=List.mem_map.1 hk;rw [aV];exact hs x hx)
   rw [List.length_map] at this
   show (jn 47 (xs.map bs)).length≤_
   omega
  exact Any.strings_Join joinA bex b off cap xs ⟨#[47]⟩ w hcells hb (by omega) hcap hlen
def last0 (l:List UInt8):Bool:=decide (l.getLast?=some 0)
open Go Go.RowKit
section
variable {P:Program} {ops:Array Oper} {rest:List Oper} {a:Act} {w w0:World} {Q:Exit→Act→World→Prop} {S:List Nat} {rows:List (Nat×List Value×TypeId)}
theorem ce {fn:Func} {R:Ending→World→Prop} {p u:Tmp} {ty:TypeId} (i:Nat) {g:Nat} {l:List Value} {t:TypeId} (v:Value) (hm:Mem w0 S w rows) (hi:rows[i]?=some (g,l,t))
  (hres:fn.results=#[.cell p ty,.tmp u]) (hp:a.tmps.getD p undef=.pointer (some ⟨g,0,none⟩)) (hv:a.tmps.getD u undef=v) (d:TypeDesc) (hu:P.underlying ty=some d) (hd:(match d with | .struct _ | .array _ _=>true|_=>false)=true)
  (n:Nat) (hs:(P.info? ty).map (·.size)=some n) (hn:l.length=n) (hd0:a.defers=[]) (hR:R (.returned (.tuple #[.agg l.toArray,v])) w):bodyPost P fn R .ret a w:=by
 refine bodyPost_ret ?_ hd0 hR
 rw [results_cell_tmp hres,hp,hv]
 have hl:=run_loadVar_row (P:=P) w g t ty l.toArray (0,0) d (hm.get i hi) hu hd (by rw [hs];simp [hn])
 simp [asAddr,hl]
end
def plOf (xs:List ByteArray):List ByteArray:=if okSegs (xs.map bs) then xs else []
theorem plOf_ok (xs:List ByteArray):PlOk (plOf xs):=by
 unfold plOf
 split
 ·next h=>exact PlOk.of h
 ·exact PlOk.nil
theorem ec {xs:List ByteArray} {x:ByteArray} (hx:x∈xs) (h:seg (bs x)=false):okSegs (xs.map bs)=false:=by
 unfold okSegs
 rw [show (xs.map bs).all seg=false from List.all_eq_false.2 ⟨bs x,List.mem_map_of_mem hx,by simp [h]⟩,Bool.and_false]
theorem dd {xs:List ByteArray} (h:3<xs.length):okSegs (xs.map bs)=false:=by
 unfold okSegs
 rw [List.length_map,decide_eq_false (by omega)];rfl
theorem dI {xs:List ByteArray} (hl:xs.length≤3) (h:(xs.take xs.length).all (fun x=>seg (bs x))=true):okSegs (xs.map bs)=true:=by
 rw [List.take_length] at h
 unfold okSegs
 rw [List.length_map,decide_eq_true hl,List.all_map];exact h
theorem fo {xs:List ByteArray} {k:Nat} (hk:k<xs.length) (h:(xs.take k).all (fun x=>seg (bs x))=true) (hs:seg (bs (xs.getD k noStr))=true):(xs.take (k+1)).all (fun x=>seg (bs x))=true:=by
 have e:xs[k]?=some (xs.getD k noStr):=by simp [hk]
 rw [List.take_add_one,e]
 simp only [List.all_append,h,Option.toList_some,List.all_cons,hs,List.all_nil,Bool.and_self]
theorem placeAt_many (n cap:Nat) (p:Option Addr) (w:World) (hn:3<n) :
  Calls Tryz.prog 65 #[.slice p n cap] w fun e w'=>e=.returned (.tuple #[.agg (plv []).toArray,.bool false])∧Below w.heap.size w w':=by
 have h3:(3:Int)<(n:Int):=by omega
 have hm:=Mem.start w
 go_enter Tryz.func65,Tryz.ntmps65
 go_wp2_with (first
  | ((with_reducible refine ab (some 2) (.alloc 93) ?_);refine ae _ a8 hm ?_;clear hm;intro w1 g1 hm)
  | (go_at_call 50;refine (bC _).mono ?_;rintro e w' ⟨he,hb⟩;subst he;replace hm:=hm.call hb;clear hb)
  | ((with_reducible refine ab none (.store 93 (.tmp 2) (.tmp 10)) ?_);refine af 0 (plv []) hm rfl rfl rfl 3 aK rfl rfl (by decide) ?_;clear hm;intro w2 hm))
 refine ce 0 (.bool false) hm rfl Tryz.results65 rfl rfl _ bc rfl 3 aK rfl rfl ?_
 exact ⟨rfl,hm.below⟩
theorem placeAt_few (xs:List ByteArray) (n cap:Nat) (p:Option Addr) (w:World) (hn:xs.length=n) (h3n:n≤3) (hv:SlS w (.slice p n cap) xs) :
  Calls Tryz.prog 65 #[.slice p n cap] w fun e w'=>e=.returned (.tuple #[.agg (plv (plOf xs)).toArray,.bool (okSegs (xs.map bs))])∧Below w.heap.size w w':=by
 have h3:¬(3:Int)<(n:Int):=by omega
 have hm:=Mem.start w
 have HV:Hid (SlS w (.slice p n cap) xs):=hv
 have HN:Hid (∀_:Unit,xs.length=n):=fun _=>hn
 clear hv hn
 go_enter Tryz.func65,Tryz.ntmps65
 go_wp2_with (first
  | ((with_reducible refine ab (some 2) (.alloc 93) ?_);refine ae _ a8 hm ?_;clear hm;intro w1 g1 hm)
  | ((with_reducible refine ab (some 4) (.alloc 93) ?_);refine ae _ a8 hm ?_;clear hm;intro w2 g2 hm))
 go_loopw [13] (fun vi wr=>∃k:Nat,k≤n∧vi=.int .i64 (k:Int)∧Hid ((xs.take k).all (fun x=>seg (bs x))=true)∧Hid (Mem w [] wr [(g2,plk xs k,93),(g1,[.string ByteArray.empty,.string ByteArray.empty,.string ByteArray.empty],93)])) (fun vi _=>n - (intOf vi).toNat)
 case atStart=>exact ⟨0,by omega,rfl,rfl,hm⟩
 case round =>
  clear hm
  obtain ⟨k,hk,rfl,HA,HM⟩:=hrel
  have hm:=HM.out
  clear HM
  by_cases hlt:k<n
  ·have hki:(k:Int)<(n:Int):=by omega
   obtain ⟨b,off,hp⟩:=SlS.at HV.out (HN.out ()) (by omega)
   subst hp
   obtain ⟨x,hx⟩:∃x,x=xs.getD k noStr:=⟨_,rfl⟩
   have HC:Hid (wr.cell? ⟨b,off+k,none⟩=some (.string x)):=by
    rw [hx]
    exact SlS.cells (HN.out ()) (SlV.below HV.out hm.below) k hlt
   have HX:Hid (∀_:Unit,x=xs.getD k noStr):=fun _=>hx
   clear hx
   obtain ⟨r,hr⟩:∃r,seg (bs x)=r:=⟨_,rfl⟩
   have HR:Hid (∀_:Unit,seg (bs x)=r):=fun _=>hr
   clear hr
   cases r with
   | true =>
    have HS:Hid (∀_:Unit,x.size≤1000):=fun _=>by have:=(cK (HR.out ())).2.1;rw [aV] at this;omega
    go_wp2_with (first
     | ((with_reducible refine ab (some 17) (.load 9 (.tmp 16)) ?_);go_must (refine aa (.string x) rfl (ar (.string x) (HC.out) rfl aj) ?_))
     | (go_at_call 80;refine (ew x _).mono ?_;rintro e w' ⟨he,hw⟩;rw [HR.out ()] at he;subst he;subst hw)
     | (go_at_call 81;refine (sclone_any x _ (HS.out ())).mono ?_;rintro e w' ⟨he,hb⟩;subst he;replace hm:=hm.call hb;clear hb)
     | ((with_reducible refine ab none (.store 9 (.tmp 25) (.tmp 24)) ?_);refine bi 0 k (.string x) hm rfl (by go_simp) rfl cG (by show k<3;omega) rfl rfl ?_;clear hm;intro w6 hm))
    go_roundw
    case rel =>
     refine ⟨k+1,by omega,by go_num,fo (by rw [HN.out ()];exact hlt) HA.out (by rw [←HX.out ()];exact HR.out ()),?_⟩
     have e:=plk_set xs k (by rw [HN.out ()];exact hlt) (by rw [HN.out ()];exact h3n)
     rw [←HX.out ()] at e
     rw [←e]
     exact hm
    case measure=>simp [intOf];omega
   | false =>
    go_wp2_with (first
     | ((with_reducible refine ab (some 17) (.load 9 (.tmp 16)) ?_);go_must (refine aa (.string x) rfl (ar (.string x) (HC.out) rfl aj) ?_))
     | (go_at_call 80;refine (ew x _).mono ?_;rintro e w' ⟨he,hw⟩;rw [HR.out ()] at he;subst he;subst hw)
     | (go_at_call 50;refine (bC _).mono ?_;rintro e w' ⟨he,hb⟩;subst he;replace hm:=hm.call hb;clear hb)
     | ((with_reducible refine ab none (.store 93 (.tmp 2) (.tmp 21)) ?_);refine af 1 (plv []) hm rfl rfl rfl 3 aK rfl rfl (by decide) ?_;clear hm;intro w6 hm))
    refine ce 1 (.bool false) hm rfl Tryz.results65 rfl rfl _ bc rfl 3 aK rfl rfl ?_
    have e:okSegs (xs.map bs)=false:=ec (x:=x) (by rw [HX.out (),List.getD_eq_getElem?_getD,List.getElem?_eq_getElem (by rw [HN.out ()];exact hlt)];exact List.getElem_mem _) (HR.out ())
    refine ⟨?_,hm.below⟩
    rw [plOf,e]
    rfl
  ·have hki:¬(k:Int)<(n:Int):=by omega
   have e:okSegs (xs.map bs)=true:=by
    refine dI (by rw [HN.out ()];exact h3n) ?_
    have:=HA.out
    rw [show k=xs.length by rw [HN.out ()];omega] at this
    exact this
   have e2:plk xs k=plv (plOf xs):=by
    rw [plOf,e,plk,List.take_of_length_le (by rw [HN.out ()];omega)];rfl
   have HE:Hid (∀_:Unit,okSegs (xs.map bs)=true):=fun _=>e
   rw [e2] at hm
   clear e e2
   go_wp2_with (first
    | ((with_reducible refine ab (some 27) (.load 93 (.tmp 4)) ?_);refine av 0 hm rfl rfl _ bc rfl 3 aK (by rfl) ?_)
    | ((with_reducible refine ab none (.store 93 (.tmp 2) (.tmp 27)) ?_);refine af 1 (plv (plOf xs)) hm rfl rfl rfl 3 aK rfl rfl (by intro v hv;simp [plv] at hv;rcases hv with rfl|rfl|rfl<;>rfl) ?_;clear hm;intro w6 hm))
   refine ce 1 (.bool true) hm rfl Tryz.results65 rfl rfl _ bc rfl 3 aK rfl rfl ?_
   refine ⟨?_,hm.below⟩
   rw [HE.out ()]
theorem ep (xs:List ByteArray) (v:Value) (w:World) (hv:SlS w v xs) :
  Calls Tryz.prog 65 #[v] w fun e w'=>e=.returned (.tuple #[.agg (plv (plOf xs)).toArray,.bool (okSegs (xs.map bs))])∧Below w.heap.size w w':=by
 obtain ⟨p,cap,rfl,hc⟩:=SlV.len hv
 by_cases h:3<xs.length
 ·rw [plOf,dd h]
  exact placeAt_many xs.length cap p w h
 ·exact placeAt_few xs xs.length cap p w rfl (by omega) hv
open Go Go.RowKit
theorem cv {a b:ByteArray} (h:a≠b):(a==b)=false:=by
 cases hc:(a==b) with
 | false=>rfl
 | true =>
  refine absurd ?_ h
  rw [beq_toListBytes,beq_iff_eq,ByteArray.toList_eq,ByteArray.toList_eq] at hc
  exact bs_inj hc
theorem ci (a:ByteArray):(a==a)=true:=beq_self_str a
theorem de (a b:ByteArray):(a==b)=decide (a=b):=by
 by_cases h:a=b
 ·subst h;rw [ci];simp
 ·rw [cv h];simp [h]
def segsB (s:ByteArray):List ByteArray:=(segsOf (bs s)).map mkS
theorem bm (s:ByteArray):(segsB s).map bs=segsOf (bs s):=fb _
theorem aR (s:ByteArray):PlOk (segsB s):=PlOk.of (by rw [bm];exact segsOf_ok _)
theorem parts_any (c:UInt8) (s:ByteArray) (w:World) (hs:s.size≤1000) (hM:MaxL w) :
  Calls Tryz.prog 66 #[.string s,.string ⟨#[c]⟩] w fun e w'=>∃v,e=.returned v∧SlS w' v (Lib.splitB (mkS [c]) 0 (min 4 (s.size+1) - 1) s)∧Below w.heap.size w w':=by
 go_enter Tryz.func66,Tryz.ntmps66
 go_wp2_with (first|(go_at_call 82;refine (splitn_any c s _ hs hM).mono ?_;rintro e w' ⟨v,he,hv,hb⟩;subst he;have HV:Hid (SlS w' v (Lib.splitB (mkS [c]) 0 (min 4 (s.size+1) - 1) s)):=hv;clear hv))
 go_ret
 exact ⟨_,rfl,HV.out,hb⟩
theorem bI (s:ByteArray) (w:World) (hs:s.size≤1000) (hM:MaxL w) :
  Calls Tryz.prog 49 #[.string s] w fun e w'=>e=.returned (.tuple #[.agg (plv (segsB s)).toArray,.bool (isP (bs s))])∧Below w.heap.size w w':=by
 have hm:=Mem.start w
 have HM:Hid (MaxL w):=hM
 clear hM
 by_cases h0:s=⟨#[]⟩
 ·subst h0
  go_enter Tryz.func49,Tryz.ntmps49
  go_wp2_with (first
   | ((with_reducible refine ab (some 2) (.alloc 93) ?_);refine ae _ a8 hm ?_;clear hm;intro w1 g1 hm)
   | ((with_reducible refine ab (some 5) (.binOp .eql 9 (.tmp 4) (.const (.string {data:=#[]})) 9) ?_);go_must (refine aa (.bool true) rfl (aM ⟨#[]⟩ ⟨#[]⟩ true rfl rfl (ci _)) ?_))
   | (go_at_call 50;refine (bC _).mono ?_;rintro e w' ⟨he,hb⟩;subst he;replace hm:=hm.call hb;clear hb)
   | ((with_reducible refine ab none (.store 93 (.tmp 2) (.tmp 6)) ?_);refine af 0 (plv []) hm rfl rfl rfl 3 aK rfl rfl (by intro v hv;simp [plv] at hv;rcases hv with rfl|rfl|rfl<;>rfl) ?_;clear hm;intro w2 hm))
  refine ce 0 (.bool true) hm rfl Tryz.results49 rfl rfl _ bc rfl 3 aK rfl rfl ?_
  exact ⟨rfl,hm.below⟩
 ·have HE:Hid (∀_:Unit,¬s=⟨#[]⟩):=fun _=>h0
  clear h0
  obtain ⟨X,hX⟩:∃X,X=Lib.splitB (mkS [47]) 0 (min 4 (s.size+1) - 1) s:=⟨_,rfl⟩
  have HP:Hid (∀_:Unit,(plOf X=segsB s∧okSegs (X.map bs)=isP (bs s))):=fun _=>by
   have hne:bs s≠[]:=fun h=>HE.out () (by rw [←cp s,h];rfl)
   have hemp:(bs s).isEmpty=false:=by
    cases h:bs s with
    | nil=>exact absurd h hne
    | cons _ _=>rfl
   obtain ⟨p1,p2⟩:=parts_ok 47 s
   rw [←hX] at p1 p2
   have e2:okSegs (X.map bs)=isP (bs s):=by rw [p1,isP,hemp,Bool.false_or]
   refine ⟨?_,e2⟩
   unfold plOf segsB
   cases hok:okSegs (X.map bs) with
   | false =>
    rw [hok] at e2
    rw [dm e2.symm];rfl
   | true =>
    rw [hok] at e2 p1
    rw [bU e2.symm hne,←p2 p1.symm,bo];rfl
  have HX:Hid (∀_:Unit,X=Lib.splitB (mkS [47]) 0 (min 4 (s.size+1) - 1) s):=fun _=>hX
  clear hX
  go_enter Tryz.func49,Tryz.ntmps49
  go_wp2_with (first
   | ((with_reducible refine ab (some 2) (.alloc 93) ?_);refine ae _ a8 hm ?_;clear hm;intro w1 g1 hm)
   | ((with_reducible refine ab (some 5) (.binOp .eql 9 (.tmp 4) (.const (.string {data:=#[]})) 9) ?_);go_must (refine aa (.bool false) rfl (aM s ⟨#[]⟩ false rfl rfl (cv (HE.out ()))) ?_))
   | (go_at_call 66;refine (parts_any 47 s _ hs (HM.out.below hm.below)).mono ?_;rintro e w' ⟨v,he,hv,hb⟩;subst he;rw [←HX.out ()] at hv;have HV:Hid (SlS w' v X):=hv;clear hv;replace hm:=hm.call hb;clear hb)
   | (go_at_call 65;refine (ep X _ _ HV.out).mono ?_;rintro e w' ⟨he,hb⟩;rw [(HP.out ()).1,(HP.out ()).2] at he;subst he;replace hm:=hm.call hb;clear hb)
   | ((with_reducible refine ab none (.store 93 (.tmp 2) (.tmp 10)) ?_);refine af 0 (plv (segsB s)) hm rfl rfl rfl 3 aK rfl rfl (by intro v hv;simp [plv] at hv;rcases hv with rfl|rfl|rfl<;>rfl) ?_;clear hm;intro w2 hm))
  refine ce 0 (.bool (isP (bs s))) hm rfl Tryz.results49 rfl rfl _ bc rfl 3 aK rfl rfl ?_
  exact ⟨rfl,hm.below⟩
theorem depth_any {ks:List ByteArray} (h:PlOk ks) (w:World) :
  Calls Tryz.prog 67 #[.agg (plv ks).toArray] w fun e w'=>e=.returned (.int .i64 (ks.length:Int))∧Below w.heap.size w w':=by
 have hm:=Mem.start w
 have HK:Hid (∀_:Unit,PlOk ks):=fun _=>h
 obtain ⟨n,hn⟩:∃n,n=ks.length:=⟨_,rfl⟩
 have hn3:n≤3:=by rw [hn];exact h.len
 rw [←hn]
 have HN:Hid (∀_:Unit,n=ks.length):=fun _=>hn
 clear h hn
 by_cases h3:n=3
 ·have HI:Hid (∀_:Unit,(if ks.length=3 then (-1:Int) else (ks.length:Int)) = -1):=fun _=>by rw [←HN.out (),if_pos h3]
  subst h3
  go_enter Tryz.func67,Tryz.ntmps67
  go_wp2_with (first
   | ((with_reducible refine ab (some 1) (.box 93 (.tmp 0)) ?_);refine aU (plv ks) rfl hm ?_;clear hm;intro w1 g1 hm)
   | ((with_reducible refine ab (some 4) (.slice 93 (.tmp 1) none none none) ?_);refine wpl_sla 3 bc cG 0 3 (by omega) (by omega) rfl (Or.inr ⟨rfl,rfl⟩) (Or.inr ⟨rfl,rfl⟩) ?_)
   | (go_at_call 83;refine (idx_any (HK.out ()) _ (hm.get 0 rfl)).mono ?_;rintro e w' ⟨he,hw⟩;rw [HI.out ()] at he;subst he;subst hw))
  go_ret
  exact ⟨rfl,hm.below⟩
 ·have HI:Hid (∀_:Unit,(if ks.length=3 then (-1:Int) else (ks.length:Int))=(n:Int)):=fun _=>by rw [←HN.out (),if_neg h3]
  have hneg:¬(n:Int)<0:=by omega
  go_enter Tryz.func67,Tryz.ntmps67
  go_wp2_with (first
   | ((with_reducible refine ab (some 1) (.box 93 (.tmp 0)) ?_);refine aU (plv ks) rfl hm ?_;clear hm;intro w1 g1 hm)
   | ((with_reducible refine ab (some 4) (.slice 93 (.tmp 1) none none none) ?_);refine wpl_sla 3 bc cG 0 3 (by omega) (by omega) rfl (Or.inr ⟨rfl,rfl⟩) (Or.inr ⟨rfl,rfl⟩) ?_)
   | (go_at_call 83;refine (idx_any (HK.out ()) _ (hm.get 0 rfl)).mono ?_;rintro e w' ⟨he,hw⟩;rw [HI.out ()] at he;subst he;subst hw))
  go_ret
  exact ⟨rfl,hm.below⟩
theorem dZ {w:World} {B B':Nat} {e:TypeId} {K:Nat} {v:Value} {n:Nat} {cs:List Value} (hB:B'≤B) (h:w.ownsRow B e K v n cs):w.ownsRow B' e K v n cs:=by
 obtain ⟨hl,h2⟩:=h
 refine ⟨hl,?_⟩
 rcases h2 with h3|⟨g,cap,cur,hv,hb,r⟩
 ·exact Or.inl h3
 ·exact Or.inr ⟨g,cap,cur,hv,Nat.le_trans hB hb,r⟩
theorem cW {ks:List ByteArray} (h:PlOk ks) (w:World) :
  Calls Tryz.prog 69 #[.agg (plv ks).toArray] w fun e w'=>∃v,e=.returned v∧w'.ownsRow w.heap.size 9 1 v ks.length (strs ks)∧Below w.heap.size w w':=by
 have hm:=Mem.start w
 have HK:Hid (∀_:Unit,PlOk ks):=fun _=>h
 obtain ⟨n,hn⟩:∃n,n=ks.length:=⟨_,rfl⟩
 have hn3:n≤3:=by rw [hn];exact h.len
 rw [←hn]
 have HN:Hid (∀_:Unit,n=ks.length):=fun _=>hn
 have HD:Hid (∀W,Calls Tryz.prog 67 #[.agg (plv ks).toArray] W fun e w'=>e=.returned (.int .i64 (n:Int))∧Below W.heap.size W w'):=fun W=>by rw [hn];exact depth_any h W
 clear h hn
 go_enter Tryz.func69,Tryz.ntmps69
 go_wp2_with (first
  | ((with_reducible refine ab (some 1) (.box 93 (.tmp 0)) ?_);refine aU (plv ks) rfl hm ?_;clear hm;intro w1 g1 hm)
  | ((with_reducible refine ab (some 3) (.load 93 (.tmp 1)) ?_);refine av 0 hm rfl rfl _ bc rfl 3 aK (by rfl) ?_)
  | (go_at_call 67;refine (HD.out _).mono ?_;rintro e w' ⟨he,hb⟩;subst he;replace hm:=hm.call hb;clear hb)
  | ((with_reducible refine ab (some 5) (.slice 93 (.tmp 1) none (some (.tmp 4)) none) ?_);refine wpl_sla 3 bc cG 0 n (by omega) (by omega) rfl (Or.inr ⟨rfl,rfl⟩) (Or.inl (int_at _ rfl (by simp))) ?_)
  | (go_at_call 87;refine (clone_any (HK.out ()) (HN.out ()) _ (hm.get 0 rfl)).mono ?_;rintro e w' ⟨v,he,ho,hb⟩;subst he;have HO:Hid (w'.ownsRow _ 9 1 v n (strs ks)):=ho;clear ho;have hm2:=hm.call hb;clear hb))
 go_ret
 exact ⟨_,rfl,dZ hm.size HO.out,hm2.below⟩
theorem text_any {ks:List ByteArray} (h:PlOk ks) (w:World) :
  Calls Tryz.prog 52 #[.agg (plv ks).toArray] w fun e w'=>e=.returned (.string (mkS (jn 47 (ks.map bs))))∧Below w.heap.size w w':=by
 have hm:=Mem.start w
 have HK:Hid (∀_:Unit,PlOk ks):=fun _=>h
 clear h
 obtain ⟨r,hr⟩:∃r,r=mkS (jn 47 (ks.map bs)):=⟨_,rfl⟩
 rw [←hr]
 have HR:Hid (∀_:Unit,r=mkS (jn 47 (ks.map bs))):=fun _=>hr
 clear hr
 go_enter Tryz.func52,Tryz.ntmps52
 go_wp2_with (first
  | ((with_reducible refine ab (some 1) (.box 93 (.tmp 0)) ?_);refine aU (plv ks) rfl hm ?_;clear hm;intro w1 g1 hm)
  | ((with_reducible refine ab (some 3) (.load 93 (.tmp 1)) ?_);refine av 0 hm rfl rfl _ bc rfl 3 aK (by rfl) ?_)
  | (go_at_call 69;refine (cW (HK.out ()) _).mono ?_;rintro e w' ⟨v,he,ho,hb⟩;subst he;have HO:Hid (SlS w' v ks):=ej ho;clear ho;replace hm:=hm.call hb;clear hb)
  | (go_at_call 68;refine (join_any ks _ _ HO.out (by have:=(HK.out ()).len;omega) (fun x hx=>((HK.out ()).size hx).2)).mono ?_;rintro e w' ⟨he,hb⟩;rw [←HR.out ()] at he;subst he;replace hm:=hm.call hb;clear hb))
 go_ret
 exact ⟨rfl,hm.below⟩
open Go Go.RowKit Go.Maps
def rdV (v:Value):Option (DataW Value×List MemPlace):=some (.held v,[])
theorem eF {v:Value} {D:DataW Value} {ps:List MemPlace} (h:rdV v=some (D,ps)):D=.held v:=by
 unfold rdV at h
 simp only [Option.some.injEq,Prod.mk.injEq] at h
 exact h.1.symm
theorem aB {w:World} {g m:Nat} {l:List Value} {t:TypeId} {es:Array MapEntry} {c:Nat} (hr:Row w g l t) (hm:w.heap[m]?=some (.map es c)):g≠m:=by
 rintro rfl
 unfold Row at hr
 rw [hr] at hm
 cases hm
theorem Mem.updO {w0 w w':World} {S:List Nat} {rows:List (Nat×List Value×TypeId)} {m:Nat} {es:Array MapEntry} {c:Nat} (hm:Mem w0 S w rows) (hmap:w.heap[m]?=some (.map es c)) (hS:m∈S∨w0.heap.size≤m) (hu:Upd m w w'):Mem w0 S w' rows:=by
 refine ⟨hu.os.trans hm.os,hu.tape.trans hm.tape,hu.output.trans hm.output,Nat.le_trans hm.size hu.size,fun k hk hn=>?_,fun r hr=>hu.row (hm.row r hr) (aB (hm.row r hr) hmap),hm.nodup,hm.fresh⟩
 refine (hu.block k (Nat.lt_of_lt_of_le hk hm.size) ?_).trans (hm.block k hk hn)
 rintro rfl
 rcases hS with h|h
 ·exact hn h
 ·omega
def KM (P:Program) (kT:TypeId) (w:World) (m q:Nat) (p:Value→Value→Prop):Prop :=
 ∃D,w.ownsMap P kT rdV m q D∧(∀k kl,keyOf P kT k=some kl→(Maps.has D kl=true↔∃v,p k v))∧(∀k kl v z,keyOf P kT k=some kl→p k v→D.atKey kl z=.held v)
def putK (p:Value→Value→Prop) (key val:Value):Value→Value→Prop:=fun k v=>(k=key∧v=val)∨(k≠key∧p k v)
section
variable {P:Program} {kT:TypeId} {w w':World} {m q:Nat} {p:Value→Value→Prop}
theorem KM.isMap (h:KM P kT w m q p):∃es c,w.heap[m]?=some (.map es c):=by
 obtain ⟨D,⟨es,c,hb,_⟩,_⟩:=h
 exact ⟨es,c,hb⟩
theorem KM.lt (h:KM P kT w m q p):m<w.heap.size:=by
 obtain ⟨D,ho,_⟩:=h
 exact ho.lt
theorem KM.keep (h:KM P kT w m q p) (hk:w'.heap[m]?=w.heap[m]?):KM P kT w' m q p:=by
 obtain ⟨D,⟨es,c,hb,F,hs,hD⟩,pm⟩:=h
 exact ⟨D,⟨es,c,by rw [hk];exact hb,F,hs,hD⟩,pm⟩
theorem KM.below (h:KM P kT w m q p) (hb:Below w.heap.size w w'):KM P kT w' m q p:=h.keep (hb.block m h.lt)
theorem KM.upd {g:Nat} (h:KM P kT w m q p) (hu:Upd g w w') (hg:g≠m):KM P kT w' m q p:=h.keep (hu.block m h.lt (fun e=>hg e.symm))
theorem KM.new (h:w.heap[m]?=some (.map #[] 0)):KM P kT w m 0 (fun _ _=>False) :=
 ⟨.map [],⟨#[],0,h,⟨by simp,MapKept.stamped_empty 0,by simp⟩,Nat.le_refl _,rfl⟩,fun k kl _=>by simp [Maps.has],fun _ _ _ _ _ h=>h.elim⟩
theorem KM.same {p':Value→Value→Prop} (h:KM P kT w m q p) (hp:∀k v,p k v↔p' k v):KM P kT w m q p':=by
 obtain ⟨D,ho,h1,h2⟩:=h
 exact ⟨D,ho,fun k kl hk=>(h1 k kl hk).trans ⟨fun ⟨v,hv⟩=>⟨v,(hp k v).1 hv⟩,fun ⟨v,hv⟩=>⟨v,(hp k v).2 hv⟩⟩,fun k kl v z hk hv=>h2 k kl v z hk ((hp k v).2 hv)⟩
theorem KM.look (h:KM P kT w m q p) (K:Keyed P kT) {t e:TypeId} (ht:P.underlying t=some (.map kT e)) {z:Value} (hz:(zeroValue e).run P w=.ok z w) {key v:Value} {kl:Lit} (hk:keyOf P kT key=some kl) (hp:p key v) :
  (Instr.lookup t (.map (some m)) key true).run P w=.ok (.tuple #[v,.bool true]) w:=by
 obtain ⟨D,ho,h1,h2⟩:=h
 obtain ⟨u,ps,hr,hv⟩:=ho.look_ok K ht hz (show rdV z=some (.held z,[]) from rfl) hk
 have e1:=eF hv
 rw [h2 key kl v _ hk hp] at e1
 simp only [DataW.held.injEq] at e1
 rw [hr,e1,(h1 key kl hk).2 ⟨v,hp⟩]
theorem KM.lookNo (h:KM P kT w m q p) (K:Keyed P kT) {t e:TypeId} (ht:P.underlying t=some (.map kT e)) {z:Value} (hz:(zeroValue e).run P w=.ok z w) {key:Value} {kl:Lit} (hk:keyOf P kT key=some kl) (hp:∀v,¬p key v) :
  (Instr.lookup t (.map (some m)) key true).run P w=.ok (.tuple #[z,.bool false]) w:=by
 obtain ⟨D,ho,h1,h2⟩:=h
 obtain ⟨u,ps,hr,hv⟩:=ho.look_ok K ht hz (show rdV z=some (.held z,[]) from rfl) hk
 have e1:=eF hv
 have hn:Maps.has D kl=false:=by
  cases hh:Maps.has D kl with
  | false=>rfl
  | true=>obtain ⟨v,hv⟩:=(h1 key kl hk).1 hh;exact absurd hv (hp v)
 rw [atKey_of_not_has hn] at e1
 simp only [DataW.held.injEq] at e1
 rw [hr,←e1,hn]
theorem KM.look1 (h:KM P kT w m q p) (K:Keyed P kT) {t e:TypeId} (ht:P.underlying t=some (.map kT e)) {z:Value} (hz:(zeroValue e).run P w=.ok z w) {key v:Value} {kl:Lit} (hk:keyOf P kT key=some kl) (hp:p key v) :
  (Instr.lookup t (.map (some m)) key false).run P w=.ok v w:=by
 obtain ⟨D,ho,h1,h2⟩:=h
 obtain ⟨u,ps,hr,hv⟩:=ho.lookup K ht hz (show rdV z=some (.held z,[]) from rfl) hk
 have e1:=eF hv
 rw [h2 key kl v _ hk hp] at e1
 simp only [DataW.held.injEq] at e1
 rw [hr,e1]
theorem KM.putRun (h:KM P kT w m q p) (K:Keyed P kT) {t e:TypeId} (ht:P.underlying t=some (.map kT e)) (hq:q<1000000) {key:Value} {kl:Lit} (hk:keyOf P kT key=some kl) (val:Value) :
  ∃w',(Instr.mapUpdate t (.map (some m)) key val).run P w=.ok () w'∧KM P kT w' m (q+1) (putK p key val)∧Upd m w w':=by
 obtain ⟨D,ho,h1,h2⟩:=h
 obtain ⟨w',hr,ho2,hg⟩:=ho.update K ht (by unfold maxLen;omega) hk (d:=.held val) (ps:=[]) (val:=val) rfl
 refine ⟨w',hr,⟨_,ho2,fun k kl' hk'=>?_,fun k kl' v z hk' hv=>?_⟩,⟨hg.os,hg.tape,hg.output,hg.size,fun k hk hne=>hg.block k hk (by simpa using hne)⟩⟩
 ·by_cases he:kl'=kl
  ·subst he
   rw [has_put_same ho.isMap (K.key hk)]
   have e2:k=key:=K.inj hk' hk
   exact ⟨fun _=>⟨val,Or.inl ⟨e2,rfl⟩⟩,fun _=>rfl⟩
  ·have e2:k≠key:=fun e=>he (by subst e;exact Option.some.inj (hk'.symm.trans hk))
   rw [has_put_other he,h1 k kl' hk']
   constructor
   ·rintro ⟨v,hv⟩;exact ⟨v,Or.inr ⟨e2,hv⟩⟩
   ·rintro ⟨v,hv⟩
    rcases hv with ⟨e3,_⟩|⟨_,hv⟩
    ·exact absurd e3 e2
    ·exact ⟨v,hv⟩
 ·by_cases he:kl'=kl
  ·subst he
   have e2:k=key:=K.inj hk' hk
   rw [atKey_put_same ho.isMap (K.key hk)]
   rcases hv with ⟨_,e3⟩|⟨e3,_⟩
   ·rw [e3]
   ·exact absurd e2 e3
  ·have e2:k≠key:=fun e=>he (by subst e;exact Option.some.inj (hk'.symm.trans hk))
   rw [atKey_put_other he]
   rcases hv with ⟨e3,_⟩|⟨_,hv⟩
   ·exact absurd e3 e2
   ·exact h2 k kl' v z hk' hv
end
section
variable {P:Program} {kT:TypeId} {ops:Array Oper} {rest:List Oper} {a:Act} {w w0 w':World} {Q:Exit→Act→World→Prop} {dst:Option Tmp} {typ:TypeId} {pos:String} {aft:Array Edge} {gd:Option (Nat×Bool)} {S:List Nat} {rows:List (Nat×List Value×TypeId)} {m q:Nat} {p:Value→Value→Prop}
theorem dw {ty:TypeId} (hm:Mem w0 S w rows) (h:∀w' m,w'.heap[m]?=some (.map #[] 0)→w0.heap.size≤m→Mem w0 S w' rows→wpList P ops Q rest (a.put dst (.map (some m))) w') :
  wpList P ops Q ({dst:=dst,op:=.makeMap ty none,type:=typ,pos:=pos,after:=aft,guard:=none}::rest) a w:=by
 refine wpList_plain rfl fun K hK=>?_
 have hh:=hK _ _ (h (w.alloc (.map #[] 0)) w.heap.size (heap_alloc_new w _) hm.size (hm.allocO _))
 unfold Oper.wp execOp
 simp only [Option.map_none,run_makeMap,Sem.run_bind,Sem.run_pure,Result.andThen_ok]
 exact hh
theorem ed {x k y:Operand} {t e:TypeId} {key val:Value} {kl:Lit} (st:KM P kT w m q p) (K:Keyed P kT) (ht:P.underlying t=some (.map kT e)) (hq:q<1000000) (hkey:keyOf P kT key=some kl) (hx:a.eval x=.map (some m)) (hk:a.eval k=key) (hy:a.eval y=val)
  (h:∀w',KM P kT w' m (q+1) (putK p key val)→Upd m w w'→wpList P ops Q rest (a.put dst undef) w') :
  wpList P ops Q ({dst:=dst,op:=.mapUpdate t x k y,type:=typ,pos:=pos,after:=aft,guard:=none}::rest) a w:=by
 obtain ⟨w',hr,h1,h2⟩:=st.putRun K ht hq hkey val
 refine wpList_plain rfl fun K' hK'=>?_
 have hh:=hK' _ _ (h w' h1 h2)
 unfold Oper.wp
 simp [execOp,hx,hk,hy,hr,Result.andThen]
 exact hh
theorem d8 {x k y:Operand} {t e:TypeId} {key val:Value} {kl:Lit} (st:KM P kT w m q p) (K:Keyed P kT) (ht:P.underlying t=some (.map kT e)) (hq:q<1000000) (hkey:keyOf P kT key=some kl) (hx:a.eval x=.map (some m)) (hk:a.eval k=key) (hy:a.eval y=val)
  (h:∀w',KM P kT w' m (q+1) (putK p key val)→Upd m w w'→wpList P ops Q rest (a.put dst undef) w') :
  wpList P ops Q ({dst:=dst,op:=.insert t x k y,type:=typ,pos:=pos,after:=aft,guard:=none}::rest) a w:=by
 obtain ⟨w',hr,h1,h2⟩:=st.putRun K ht hq hkey val
 refine wpList_plain rfl fun K' hK'=>?_
 have hh:=hK' _ _ (h w' h1 h2)
 unfold Oper.wp
 simp [execOp,hx,hk,hy,hr,Result.andThen]
 exact hh
theorem co {x k:Operand} {t:TypeId} {b:Bool} {key r:Value} (hr:(Instr.lookup t (.map (some m)) key b).run P w=.ok r w) (hx:a.eval x=.map (some m)) (hk:a.eval k=key) :
  (execOp a.eval {dst:=dst,op:=.lookup t x k b,type:=typ,pos:=pos,after:=aft,guard:=gd}).run P w=.ok (.value r) w:=by
 unfold execOp
 simp only [hx,hk,hr,Sem.run_bind,Sem.run_pure,Result.andThen_ok]
end
open Go Go.RowKit Go.Maps
theorem pl_laid:laidOutB Tryz.prog=true:=by kernel_rfl
theorem pl_row:(93:TypeId)<Tryz.prog.types.size:=of_decide_eq_true (by kernel_rfl)
theorem pl_wide:(match Tryz.prog.underlying 93 with|some (.array _ _)|some (.struct _)=>true|_=>false)=true:=by kernel_rfl
theorem pl_law:Keyed Tryz.prog 93:=Keyed.of_law (deep_law_laid pl_laid (m:=2) (by omega) pl_row (by kernel_rfl) pl_wide)
theorem pl_type:Tryz.prog.keyType 93=true:=by kernel_rfl
theorem pl_cells:Tryz.prog.cellsOf 93=3:=by kernel_rfl
theorem str_cells:Tryz.prog.cellsOf 9=1:=by kernel_rfl
theorem un_set:Tryz.prog.underlying 114=some (.map 93 111):=Tryz.underlying114
theorem zero_unit:∀w,(zeroValue 111).run Tryz.prog w=.ok (.agg [].toArray) w:=(zero_of_info (show (Tryz.prog.info? 111).map (fun i=>(i.zero,i.size))=some (some (.agg [].toArray),0) by kernel_rfl)).1
theorem types_some:∃n,Tryz.prog.types.size=n+1:=⟨Tryz.prog.types.size - 1,by have h:(93:Nat)<Tryz.prog.types.size:=pl_row;omega⟩
theorem str_lit (n:Nat) (s:ByteArray) (h:s.size≤1000):∃ls,Tryz.prog.keyLits (n+1) 9 [.string s]=some ls:=by
 unfold Program.keyLits
 simp only [aF]
 exact ⟨_,if_pos (by simp [maxLen];omega)⟩
theorem pl_key {ks:List ByteArray} (h:PlOk ks):∃kl,keyOf Tryz.prog 93 (.agg (plv ks).toArray)=some kl:=by
 obtain ⟨n,hn⟩:=types_some
 have hf:(Value.agg (plv ks).toArray).formed Tryz.prog 93=true:=by
  simp [Value.formed,pl_cells,plv]
 have hz:∀i,(ks.getD i noStr).size≤1000:=by
  intro i
  by_cases hi:i<ks.length
  ·have e:ks.getD i noStr=ks[i]:=by simp [hi]
   rw [e]
   have:=(h.size (List.getElem_mem hi)).2
   omega
  ·have e:ks.getD i noStr=noStr:=by simp [List.getElem?_eq_none (show ks.length≤i by omega)]
   rw [e];decide
 obtain ⟨l0,h0⟩:=str_lit n _ (hz 0)
 obtain ⟨l1,h1⟩:=str_lit n _ (hz 1)
 obtain ⟨l2,h2⟩:=str_lit n _ (hz 2)
 have hk:∃ls,Tryz.prog.keyLits (Tryz.prog.types.size+1) 93 (plv ks)=some ls:=by
  unfold Program.keyLits
  simp only [bc]
  rw [if_pos (by rw [pl_cells];rfl)]
  refine ⟨[l0,l1,l2].flatten,?_⟩
  simp only [str_cells,Nat.mul_one,hn,List.range,List.range.loop,List.mapM_cons,List.mapM_nil]
  simp only [plv,List.drop,List.take]
  rw [h0,h1,h2]
  rfl
 obtain ⟨ls,hls⟩:=hk
 unfold keyOf
 rw [bc]
 simp only
 rw [if_pos (by rw [pl_type,hf];rfl)]
 exact ⟨_,by rw [show (Value.agg (plv ks).toArray).cells.toList=plv ks from rfl,hls];rfl⟩
theorem plvA_inj {ks qs:List ByteArray} (h:PlOk ks) (h2:PlOk qs) (he:Value.agg (plv ks).toArray=.agg (plv qs).toArray):ks=qs :=
 plv_inj h h2 (by simpa using he)
theorem eg_pl:Tryz.prog.eqGuardType Tryz.prog.depth 93=false:=by kernel_rfl
theorem run_eqS {P:Program} (w:World) (d:Nat) (t e:TypeId) (n:Nat) (ht:P.underlying t=some (.array n e)) (he:P.underlying e=some .string) (hs:(P.info? e).map (·.size)=some 1) (xs ys:List ByteArray) (hx:xs.length=n) (hy:ys.length=n) :
  (Op.equalIn (d+2) t (.agg (xs.map Value.string).toArray) (.agg (ys.map Value.string).toArray)).run P w=.ok (decide (xs=ys)) w:=by
 have hsz:(sizeOf e).run P w=.ok 1 w:=by
  cases hq:P.info? e with
  | none=>simp [hq] at hs
  | some q =>
   have hs1:q.size=1:=by simpa [hq] using hs
   simp [sizeOf,typeInfo,hq,hs1]
 have hp:∀(zs:List ByteArray) (i:Nat) (z:ByteArray),zs[i]?=some z→(part e (zs.map Value.string).toArray (i * 1)).run P w=.ok (.string z) w:=by
  intro zs i z hz
  simp [part,isAgg,run_underlying he,hz]
 rw [Op.equalIn]
 simp only [Sem.run_bind,run_underlying ht,Result.andThen_ok,hsz,Std.Legacy.Range.forIn_eq_forIn_range',Std.Legacy.Range.size,Nat.sub_zero,Nat.add_sub_cancel,Nat.div_one]
 have hd0:decide (xs=ys)=decide (xs.drop 0=ys.drop 0):=by simp
 rw [hd0]
 obtain ⟨m,hmn⟩:∃m,m=n:=⟨n,rfl⟩
 have hle:0+m=n:=by omega
 rw [show List.range' 0 n 1=List.range' 0 m 1 by rw [hmn]]
 clear hmn hd0
 generalize 0=i at hle ⊢
 induction m generalizing i with
 | zero =>
  rw [List.drop_of_length_le (by omega),List.drop_of_length_le (by omega)]
  simp
 | succ m ih =>
  have h1:i<xs.length:=by omega
  have h2:i<ys.length:=by omega
  have hdec:xs.drop i=ys.drop i↔(xs[i]=ys[i]∧xs.drop (i+1)=ys.drop (i+1)):=by
   rw [List.drop_eq_getElem_cons h1,List.drop_eq_getElem_cons h2,List.cons.injEq]
  have hdec2:decide (xs.drop i=ys.drop i)=(decide (xs[i]=ys[i])&&decide (xs.drop (i+1)=ys.drop (i+1))):=by
   rw [Bool.eq_iff_iff,Bool.and_eq_true,decide_eq_true_iff,decide_eq_true_iff,decide_eq_true_iff]
   exact hdec
  rw [List.range'_succ,hdec2]
  simp only [List.forIn_cons,Sem.run_bind,hp xs i xs[i] (by simp [h1]),hp ys i ys[i] (by simp [h2]),run_equalIn_string w d e _ _ he,Result.andThen_ok]
  by_cases hb:xs[i]=ys[i]
  ·simp only [hb,beq_self_eq_true,Bool.not_true,Bool.false_eq_true,if_false,Sem.run_pure,Result.andThen_ok]
   rw [ih (i+1) (by omega)]
   simp only [decide_true,Bool.true_and]
  ·have hb':(xs[i].toList==ys[i].toList)=false:=by
    rw [←beq_toListBytes];exact cv hb
   simp only [hb',hb,decide_false,Bool.false_and,Bool.not_false,if_true,Sem.run_pure,Result.andThen_ok]
theorem eB (ks:List ByteArray):plv ks=[ks.getD 0 noStr,ks.getD 1 noStr,ks.getD 2 noStr].map Value.string:=rfl
theorem eq_pl (w:World) {ks qs:List ByteArray} (h:PlOk ks) (h2:PlOk qs) (b:Bool) (hb:b=decide (ks=qs)):(Op.equalIn 10000 93 (.agg (plv ks).toArray) (.agg (plv qs).toArray)).run Tryz.prog w=.ok b w:=by
 rw [eB ks,eB qs,run_eqS w 9998 93 9 3 bc aF cG _ _ rfl rfl,hb]
 congr 1
 rw [Bool.eq_iff_iff,decide_eq_true_iff,decide_eq_true_iff]
 constructor
 ·intro he;exact plv_inj h h2 (by rw [eB,eB,he])
 ·rintro rfl;rfl
section
variable {a:Act} {w:World} {dst:Option Tmp} {typ:TypeId} {pos:String} {aft:Array Edge} {gd:Option (Nat×Bool)}
theorem dY {x y:Operand} {rt:TypeId} {ks qs:List ByteArray} (h:PlOk ks) (h2:PlOk qs) (b:Bool) (hb:b=decide (ks=qs)) (hx:a.eval x=.agg (plv ks).toArray) (hy:a.eval y=.agg (plv qs).toArray) :
  (execOp a.eval {dst:=dst,op:=.binOp .neq 93 x y rt,type:=typ,pos:=pos,after:=aft,guard:=gd}).run Tryz.prog w=.ok (.value (.bool (!b))) w:=by
 unfold execOp
 simp only [hx,hy,Sem.run_bind,run_eqGuard_agg w .neq 93 x y _ _ eg_pl,Sem.run_pure,Result.andThen_ok,run_neq_struct,eq_pl w h h2 b hb]
theorem exec_eqP {x y:Operand} {rt:TypeId} {ks qs:List ByteArray} (h:PlOk ks) (h2:PlOk qs) (b:Bool) (hb:b=decide (ks=qs)) (hx:a.eval x=.agg (plv ks).toArray) (hy:a.eval y=.agg (plv qs).toArray) :
  (execOp a.eval {dst:=dst,op:=.binOp .eql 93 x y rt,type:=typ,pos:=pos,after:=aft,guard:=gd}).run Tryz.prog w=.ok (.value (.bool b)) w:=by
 unfold execOp
 simp only [hx,hy,Sem.run_bind,run_eqGuard_agg w .eql 93 x y _ _ eg_pl,Sem.run_pure,Result.andThen_ok,run_eql_struct,eq_pl w h h2 b hb]
end
open Go Go.RowKit Go.Maps
theorem ag {P:Program} {R:Act→World→Prop} {T:World→Prop} {a:Act} {w w0:World} {S:List Nat} {rows:List (Nat×List Value×TypeId)} {id:Nat} {l:List Oper} (hmix:P.follows .mixedOrders=true) (hm:Mem w0 S w rows)
  (h:∀w',Below w.heap.size w w'→Mem w0 S w' rows→wpAnyH P .any l.toArray (endsIn R) T l.toArray.size (Array.replicate l.toArray.size false) a w'):(Code.region id l.toArray true).wp P (endsIn R) a w :=
 wp_region_held hmix (h _ ⟨rfl,rfl,rfl,Nat.le_refl _,fun _ _=>rfl⟩ hm.drew)
theorem anyH_more {P:Program} {md:Region.Mode} {ops:Array Oper} {Q:Exit→Act→World→Prop} {S:World→Prop} (S':World→Prop) (hS:∀w,S' w→S w):∀(fuel:Nat) (listed:Array Bool) (a:Act) (w:World),wpAnyH P md ops Q S' fuel listed a w→wpAnyH P md ops Q S fuel listed a w
 | 0,_,_,_,h=>h
 | fuel+1,_,_,_,h=>⟨h.1,fun i hi=>wpOp_mono (fun a' w' h'=>⟨hS _ h'.1,anyH_more S' hS fuel _ a' w' h'.2⟩) (h.2 i hi)⟩
section
variable {P:Program} {ops:Array Oper} {rest:List Oper} {a:Act} {w:World} {typ:TypeId} {pos:String} {aft:Array Edge}
theorem wpl_stwU {Q:Exit→Act→World→Prop} {w0:World} {S:List Nat} {rows:List (Nat×List Value×TypeId)} {ty:TypeId} {x y:Operand} (i:Nat) {g:Nat} {l:List Value} {t:TypeId} (l':List Value) (hm:Mem w0 S w rows) (hi:rows[i]?=some (g,l,t)) (hx:a.eval x=.pointer (some ⟨g,0,none⟩))
  (hy:a.eval y=.agg l'.toArray) (n:Nat) (hs:(P.info? ty).map (·.size)=some n) (hn:l.length=n) (hn':l'.length=n) (h1:∀v∈l',v.oneCell'=true)
  (h:∀w',Upd g w w'→Mem w0 S w' (rows.set i (g,l',t))→wpList P ops Q rest a w') :
  wpList P ops Q ({dst:=none,op:=.store ty x y,type:=typ,pos:=pos,after:=aft,guard:=none}::rest) a w:=by
 refine wpList_plain rfl fun K hK=>?_
 have hr:=hm.get i hi
 have hh:=hK _ _ (h _ (Upd.setRow g w l'.toArray) (hm.upd i hi (Upd.setRow g w l'.toArray) (hr.setRow l')))
 unfold Oper.wp execOp
 simp only [hx,hy,Instr.storeAt,Instr.sureAddr,Sem.run_bind,Sem.run_pure,Result.andThen_ok,
  run_storeVar_row w g t ty l.toArray l'.toArray hr (by rw [hs];simp [hn']) (by simp [hn,hn']) (by simpa using h1)]
 exact hh
end
theorem plv_one (ks:List ByteArray):∀v∈plv ks,v.oneCell'=true:=by intro v hv;simp [plv] at hv;rcases hv with rfl|rfl|rfl<;>rfl
theorem parent_root (w:World) :
  Calls Tryz.prog 51 #[.agg (plv []).toArray] w fun e w'=>e=.returned (.agg (plv []).toArray)∧Below w.heap.size w w':=by
 have hm:=Mem.start w
 go_enter Tryz.func51,Tryz.ntmps51
 go_wp2_with (first
  | ((with_reducible refine ab (some 1) (.box 93 (.tmp 0)) ?_);refine aU (plv []) rfl hm ?_;clear hm;intro w1 g1 hm)
  | ((with_reducible refine ab (some 2) (.alloc 93) ?_);refine ae _ a8 hm ?_;clear hm;intro w2 g2 hm))
 refine am ?_
 refine ag (T:=fun W=>Mem w [] W [(g2,[.string ByteArray.empty,.string ByteArray.empty,.string ByteArray.empty],93),(g1,plv [],93)]) (by kernel_rfl) hm ?_
 intro wc hbw hmw
 replace hm:Mem w [] wc [(g2,[.string ByteArray.empty,.string ByteArray.empty,.string ByteArray.empty],93),(g1,plv [],93)]:=hmw
 clear hbw hmw
 refine aT 0 (v:=.agg (plv []).toArray) rfl (by kernel_rfl) rfl (fun W hW=>al 0 (plv []) (Mem.get hW 1 rfl) rfl _ bc rfl 3 aK (Nat.le_refl 3) rfl) hm ?_
 go_simp
 refine aO 1 (by kernel_rfl) rfl rfl ?_
 intro K hK
 go_wp2_with (go_at_call 50;refine (bC _).mono ?_;rintro e w' ⟨he,hb⟩;subst he;replace hm:=hm.call hb;clear hb)
 refine hK _ _ hm ?_
 clear hK K
 go_simp
 refine aT 2 (v:=.bool false) rfl (by kernel_rfl) rfl (fun W _=>dY PlOk.nil PlOk.nil true (by decide) rfl rfl) hm ?_
 go_simp
 refine wpAnyH_done (by kernel_rfl) ?_ _
 simp only [endsIn]
 go_wp2_with (first
  | ((with_reducible refine ab (some 10) (.load 93 (.tmp 1)) ?_);refine av 1 hm rfl rfl _ bc rfl 3 aK (by rfl) ?_)
  | ((with_reducible refine ab none (.store 93 (.tmp 2) (.tmp 10)) ?_);refine af 0 (plv []) hm rfl rfl rfl 3 aK rfl rfl (by intro v hv;simp [plv] at hv;rcases hv with rfl|rfl|rfl<;>rfl) ?_;clear hm;intro w6 hm))
 refine ct 0 hm rfl Tryz.results51 rfl _ bc rfl 3 aK rfl rfl ?_
 exact ⟨rfl,hm.below⟩
theorem parent_more {ks:List ByteArray} (h:PlOk ks) (h0:ks≠[]) (w:World) :
  Calls Tryz.prog 51 #[.agg (plv ks).toArray] w fun e w'=>e=.returned (.agg (plv ks.dropLast).toArray)∧Below w.heap.size w w':=by
 have hm:=Mem.start w
 have HK:Hid (∀_:Unit,PlOk ks):=fun _=>h
 obtain ⟨n,hn⟩:∃n,ks.length=n+1:=⟨ks.length - 1,by have:=List.length_pos_iff.2 h0;omega⟩
 have hn3:n<3:=by have:=h.len;omega
 have HD:Hid (∀W,Calls Tryz.prog 67 #[.agg (plv ks).toArray] W fun e w'=>e=.returned (.int .i64 ((n:Int)+1))∧Below W.heap.size W w'):=fun W=>by have:=depth_any h W;rw [hn] at this;exact this
 have HS:Hid (∀_:Unit,(plv ks).set n (.string noStr)=plv ks.dropLast):=fun _=>by have:=plv_drop h.len h0;rw [hn] at this;exact this
 have HNE:Hid (∀_:Unit,false=decide (ks=[])):=fun _=>by simp [h0]
 have hw:IntKind.i64.wrap ((n:Int)+1 - 1)=(n:Int):=(bO _ (by omega) (by omega)).trans (by omega)
 have hni:(n:Int)<3:=by omega
 have hn0:(0:Int)≤(n:Int):=by omega
 clear h h0 hn
 go_enter Tryz.func51,Tryz.ntmps51
 go_wp2_with (first
  | ((with_reducible refine ab (some 1) (.box 93 (.tmp 0)) ?_);refine aU (plv ks) rfl hm ?_;clear hm;intro w1 g1 hm)
  | ((with_reducible refine ab (some 2) (.alloc 93) ?_);refine ae _ a8 hm ?_;clear hm;intro w2 g2 hm))
 refine am ?_
 refine ag (T:=fun W=>Mem w [] W [(g2,[.string ByteArray.empty,.string ByteArray.empty,.string ByteArray.empty],93),(g1,plv ks,93)]) (by kernel_rfl) hm ?_
 intro wc hbw hmw
 replace hm:Mem w [] wc [(g2,[.string ByteArray.empty,.string ByteArray.empty,.string ByteArray.empty],93),(g1,plv ks,93)]:=hmw
 clear hbw hmw
 refine aT 0 (v:=.agg (plv ks).toArray) rfl (by kernel_rfl) rfl (fun W hW=>al 0 (plv ks) (Mem.get hW 1 rfl) rfl _ bc rfl 3 aK (Nat.le_refl 3) rfl) hm ?_
 go_simp
 refine aO 1 (by kernel_rfl) rfl rfl ?_
 intro K hK
 go_wp2_with (go_at_call 50;refine (bC _).mono ?_;rintro e w' ⟨he,hb⟩;subst he;replace hm:=hm.call hb;clear hb)
 refine hK _ _ hm ?_
 clear hK K
 go_simp
 refine aT 2 (v:=.bool true) rfl (by kernel_rfl) rfl (fun W _=>dY (HK.out ()) PlOk.nil false (HNE.out ()) rfl rfl) hm ?_
 go_simp
 refine wpAnyH_done (by kernel_rfl) ?_ _
 simp only [endsIn]
 go_wp2_with (first
  | ((with_reducible refine ab (some 6) (.load 93 (.tmp 1)) ?_);refine av 1 hm rfl rfl _ bc rfl 3 aK (by rfl) ?_)
  | ((with_reducible refine ab (some 10) (.load 93 (.tmp 1)) ?_);refine av 1 hm rfl rfl _ bc rfl 3 aK (by rfl) ?_)
  | (go_at_call 67;refine (HD.out _).mono ?_;rintro e w' ⟨he,hb⟩;subst he;replace hm:=hm.call hb;clear hb)
  | ((with_reducible refine ab none (.store 9 (.tmp 9) (.const (.string {data:=#[]}))) ?_);refine bi 1 n (.string noStr) hm rfl (by go_simp) rfl cG (by show n<3;omega) rfl rfl ?_;clear hm;intro w6 hm;replace hm:Mem w [] w6 [(g2,[.string ByteArray.empty,.string ByteArray.empty,.string ByteArray.empty],93),(g1,plv ks.dropLast,93)]:=by rw [←HS.out ()];exact hm)
  | ((with_reducible refine ab none (.store 93 (.tmp 2) (.tmp 10)) ?_);refine af 0 (plv ks.dropLast) hm rfl rfl rfl 3 aK rfl rfl (by intro v hv;simp [plv] at hv;rcases hv with rfl|rfl|rfl<;>rfl) ?_;clear hm;intro w7 hm))
 refine ct 0 hm rfl Tryz.results51 rfl _ bc rfl 3 aK rfl rfl ?_
 exact ⟨rfl,hm.below⟩
theorem fc {ks:List ByteArray} (h:PlOk ks) (w:World) :
  Calls Tryz.prog 51 #[.agg (plv ks).toArray] w fun e w'=>e=.returned (.agg (plv ks.dropLast).toArray)∧Below w.heap.size w w':=by
 by_cases h0:ks=[]
 ·subst h0;exact parent_root w
 ·exact parent_more h h0 w
def unitV:Value:=.agg [].toArray
def abv (ks:List ByteArray) (k:Nat):Value→Value→Prop:=fun x v=>v=unitV∧∃n,(n=0∨k<n)∧n≤ks.length∧x=.agg (plv (ks.take n)).toArray
structure Abv (w0 w:World) (ks:List ByteArray) (m k:Nat) (rows:List (Nat×List Value×TypeId)):Prop where
 mem:Mem w0 [] w rows
 map:∃q,q+k≤10∧KM Tryz.prog 93 w m q (abv ks k)
 new:w0.heap.size≤m
theorem Abv.call {w0 w w':World} {ks:List ByteArray} {m k:Nat} {rows:List (Nat×List Value×TypeId)} (h:Abv w0 w ks m k rows) (hb:Below w.heap.size w w'):Abv w0 w' ks m k rows:=by
 obtain ⟨q,hq,hk⟩:=h.map
 exact ⟨h.mem.call hb,⟨q,hq,hk.below hb⟩,h.new⟩
theorem ch {ks:List ByteArray} (h:PlOk ks) (n:Nat):PlOk (ks.take n):=⟨by have:=h.len;simp;omega,fun k hk=>h.seg k (List.mem_of_mem_take hk)⟩
theorem take_dl {ks:List ByteArray} {n:Nat} (hn:n+1≤ks.length):(ks.take (n+1)).dropLast=ks.take n:=by
 rw [List.dropLast_eq_take,List.length_take,Nat.min_eq_left hn,List.take_take,Nat.add_sub_cancel,Nat.min_eq_left (by omega)]
theorem abv_put {ks:List ByteArray} {n:Nat} (hn:n+1≤ks.length) (h:PlOk ks) (x v:Value):putK (abv ks (n+1)) (.agg (plv (ks.take (n+1))).toArray) unitV x v↔abv ks n x v:=by
 constructor
 ·rintro (⟨rfl,rfl⟩|⟨_,rfl,j,hj,hl,rfl⟩)
  ·exact ⟨rfl,n+1,Or.inr (by omega),hn,rfl⟩
  ·exact ⟨rfl,j,by omega,hl,rfl⟩
 ·rintro ⟨rfl,j,hj,hl,rfl⟩
  by_cases hjn:j=n+1
  ·subst hjn;exact Or.inl ⟨rfl,rfl⟩
  ·refine Or.inr ⟨fun he=>hjn ?_,rfl,j,by omega,hl,rfl⟩
   have:=congrArg List.length (plvA_inj (ch h j) (ch h (n+1)) he)
   simp at this
   omega
theorem abv_one {ks:List ByteArray} (x v:Value):putK (fun _ _=>False) (.agg (plv []).toArray) unitV x v↔abv ks ks.length x v:=by
 constructor
 ·rintro (⟨rfl,rfl⟩|⟨_,h⟩)
  ·exact ⟨rfl,0,Or.inl rfl,by omega,rfl⟩
  ·exact h.elim
 ·rintro ⟨rfl,j,hj,hl,rfl⟩
  have:j=0:=by omega
  subst this
  exact Or.inl ⟨rfl,rfl⟩
theorem above_any {ks:List ByteArray} (h:PlOk ks) (w:World) :
  Calls Tryz.prog 73 #[.agg (plv ks).toArray] w fun e w'=>∃m,e=.returned (.map (some m))∧(∃q,KM Tryz.prog 93 w' m q (abv ks 0))∧Below w.heap.size w w':=by
 have hm:=Mem.start w
 have HK:Hid (∀_:Unit,PlOk ks):=fun _=>h
 have HL:Hid (∀_:Unit,ks.length≤3):=fun _=>h.len
 have HT:Hid (∀_:Unit,ks.take ks.length=ks):=fun _=>List.take_length
 clear h
 go_enter Tryz.func73,Tryz.ntmps73
 go_wp2_with (first
  | ((with_reducible refine ab (some 1) (.box 93 (.tmp 0)) ?_);refine aU (plv ks) rfl hm ?_;clear hm;intro w1 g1 hm)
  | ((with_reducible refine ab (some 4) (.makeMap 114 none) ?_);go_must (refine dw hm ?_);clear hm;intro w5 m hmap hnew hm;have HM0:Hid (KM Tryz.prog 93 w5 m 0 (fun _ _=>False)):=KM.new hmap;clear hmap;have HNW:Hid (w.heap.size≤m):=hnew;clear hnew)
  | (go_at_call 50;refine (bC _).mono ?_;rintro e w' ⟨he,hb⟩;subst he;replace hm:=hm.call hb;replace HM0:Hid (KM Tryz.prog 93 w' m 0 (fun _ _=>False)):=HM0.out.below hb;clear hb)
  | ((with_reducible refine ab (some 6) (.build 111 #[]) ?_);refine az [] [] rfl (by kernel_rfl) ?_)
  | ((with_reducible refine ab none (.insert 114 (.tmp 4) (.tmp 5) (.tmp 6)) ?_);obtain ⟨kl0,hkl0⟩:=pl_key PlOk.nil;go_must (refine d8 HM0.out pl_law un_set (by omega) hkl0 rfl rfl rfl ?_);clear hkl0;intro w7 st hu;obtain ⟨es,cc,hmp⟩:=HM0.out.isMap;replace hm:=hm.updO hmp (Or.inr HNW.out) hu;have HST:Hid (Abv w w7 ks m ks.length [(g1,plv (ks.take ks.length),93)]):=⟨by rw [HT.out ()];exact hm,⟨1,by have:=HL.out ();omega,st.same abv_one⟩,HNW.out⟩;clear st hu hmp HM0 hm))
 go_loopg [10] ks.length (fun gq _ wr=>∃gk,gk=gq∧gk≤ks.length∧Hid (Abv w wr ks m gk [(g1,plv (ks.take gk),93)]))
 case atStart=>exact ⟨_,rfl,Nat.le_refl _,HST.out⟩
 case round =>
  obtain ⟨gk,rfl,hgk,HA⟩:=hrel
  clear HST
  have hst:=HA.out
  have hm:=hst.mem
  clear HA
  cases gk with
  | zero =>
   have HNE:Hid (∀_:Unit,true=decide (ks.take 0=[])):=fun _=>by simp
   go_wp2_with fail
   refine am ?_
   refine ag (T:=fun W=>Abv w W ks m 0 [(g1,plv (ks.take 0),93)]) (by kernel_rfl) hm ?_
   intro wc hbw hmw
   replace hm:Abv w wc ks m 0 [(g1,plv (ks.take 0),93)]:=hst.call hbw
   clear hbw hmw
   refine aT 0 (v:=.agg (plv (ks.take 0)).toArray) rfl (by kernel_rfl) rfl (fun W hW=>al 0 (plv (ks.take 0)) (hW.mem.get 0 rfl) rfl _ bc rfl 3 aK (Nat.le_refl 3) rfl) hm ?_
   go_simp
   refine aO 1 (by kernel_rfl) rfl rfl ?_
   intro K hK
   go_wp2_with (go_at_call 50;refine (bC _).mono ?_;rintro e w' ⟨he,hb⟩;subst he;replace hm:=hm.call hb;clear hb)
   refine hK _ _ hm ?_
   clear hK K
   go_simp
   refine aT 2 (v:=.bool false) rfl (by kernel_rfl) rfl (fun W _=>dY (ch (HK.out ()) 0) PlOk.nil true (HNE.out ()) rfl rfl) hm ?_
   go_simp
   refine wpAnyH_done (by kernel_rfl) ?_ _
   simp only [endsIn]
   clear hst
   go_wp2_with fail
   go_ret
   obtain ⟨q,_,hq⟩:=hm.map
   exact ⟨m,rfl,⟨q,hq⟩,hm.mem.below⟩
  | succ gk =>
   have HNE:Hid (∀_:Unit,false=decide (ks.take (gk+1)=[])):=fun _=>by
    rw [decide_eq_false]
    intro h
    have:=congrArg List.length h
    rw [List.length_take,List.length_nil] at this
    omega
   have HDL:Hid (∀_:Unit,(ks.take (gk+1)).dropLast=ks.take gk):=fun _=>take_dl hgk
   go_wp2_with fail
   refine am ?_
   refine ag (T:=fun W=>Abv w W ks m (gk+1) [(g1,plv (ks.take (gk+1)),93)]) (by kernel_rfl) hm ?_
   intro wc hbw hmw
   replace hm:Abv w wc ks m (gk+1) [(g1,plv (ks.take (gk+1)),93)]:=hst.call hbw
   clear hbw hmw
   refine aT 0 (v:=.agg (plv (ks.take (gk+1))).toArray) rfl (by kernel_rfl) rfl (fun W hW=>al 0 (plv (ks.take (gk+1))) (hW.mem.get 0 rfl) rfl _ bc rfl 3 aK (Nat.le_refl 3) rfl) hm ?_
   go_simp
   refine aO 1 (by kernel_rfl) rfl rfl ?_
   intro K hK
   go_wp2_with (go_at_call 50;refine (bC _).mono ?_;rintro e w' ⟨he,hb⟩;subst he;replace hm:=hm.call hb;clear hb)
   refine hK _ _ hm ?_
   clear hK K
   go_simp
   refine aT 2 (v:=.bool true) rfl (by kernel_rfl) rfl (fun W _=>dY (ch (HK.out ()) (gk+1)) PlOk.nil false (HNE.out ()) rfl rfl) hm ?_
   go_simp
   refine wpAnyH_done (by kernel_rfl) ?_ _
   simp only [endsIn]
   clear hst
   have hst:=hm
   replace hm:=hst.mem
   go_wp2_with (first
    | ((with_reducible refine ab (some 12) (.load 93 (.tmp 1)) ?_);refine av 0 hm rfl rfl _ bc rfl 3 aK (by rfl) ?_)
    | ((with_reducible refine ab (some 13) (.build 111 #[]) ?_);refine az [] [] rfl (by kernel_rfl) ?_)
    | ((with_reducible refine ab none (.mapUpdate 114 (.tmp 11) (.tmp 12) (.tmp 13)) ?_);obtain ⟨kl1,hkl1⟩:=pl_key (ch (HK.out ()) (gk+1));obtain ⟨q,hq,hkm⟩:=hst.map;go_must (refine ed hkm pl_law un_set (by omega) hkl1 rfl rfl rfl ?_);clear hkl1;intro w7 st hu;obtain ⟨es,cc,hmp⟩:=hkm.isMap;replace hm:=hm.updO hmp (Or.inr hst.new) hu;have HST:Hid (∃q,q+gk≤10∧KM Tryz.prog 93 w7 m q (abv ks gk)):=⟨q+1,by omega,st.same (abv_put hgk (HK.out ()))⟩;have HNW2:Hid (w.heap.size≤m):=hst.new;clear st hu hmp hkm hq hst)
    | ((with_reducible refine ab (some 14) (.load 93 (.tmp 1)) ?_);refine av 0 hm rfl rfl _ bc rfl 3 aK (by rfl) ?_)
    | (go_at_call 51;refine (fc (ch (HK.out ()) (gk+1)) _).mono ?_;rintro e w' ⟨he,hb⟩;rw [HDL.out ()] at he;subst he;replace hm:=hm.call hb;replace HST:Hid (∃q,q+gk≤10∧KM Tryz.prog 93 w' m q (abv ks gk)):=by {obtain ⟨q,hq,hkm⟩:=HST.out;exact ⟨q,hq,hkm.below hb⟩};clear hb)
    | ((with_reducible refine ab none (.store 93 (.tmp 1) (.tmp 15)) ?_);obtain ⟨q,hq,hkm⟩:=HST.out;obtain ⟨es,cc,hmp⟩:=hkm.isMap;refine wpl_stwU 0 (plv (ks.take gk)) hm rfl rfl rfl 3 aK rfl rfl (plv_one _) ?_;have hne:=aB (hm.get 0 rfl) hmp;clear hm;intro w8 hu hm;have HST2:Hid (Abv w w8 ks m gk [(g1,plv (ks.take gk),93)]):=⟨hm,⟨q,hq,hkm.upd hu hne⟩,HNW2.out⟩;clear hkm hmp hq hu HST))
   go_roundg gk
   case measure=>omega
   case rel=>exact ⟨_,rfl,by omega,HST2.out⟩
end Go.Proofs.YtdmohffogfbnbaaGreatDoor
