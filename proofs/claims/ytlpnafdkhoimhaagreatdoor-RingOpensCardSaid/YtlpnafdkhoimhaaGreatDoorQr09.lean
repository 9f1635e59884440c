import Derived.Test.YtlpnafdkhoimhaaGreatDoorQr07
import Derived.Test.YtlpnafdkhoimhaaGreatDoorQr08
import Derived.Test.YtlpnafdkhoimhaaGreatDoorChecked
set_option maxRecDepth 100000
set_option maxHeartbeats 4000000
namespace Go.Proofs.YtlpnafdkhoimhaaGreatDoor
open Go Go.RowKit
def MaxL (w:World):Prop:=∃m,w.cell? ⟨1,0,none⟩=some (.int .i64 m)
theorem MaxL.below {w w':World} (h:MaxL w) (hb:Below w.heap.size w w'):MaxL w':=by
 obtain ⟨m,hm⟩:=h
 exact ⟨m,by rw [hb.cell (p:=⟨1,0,none⟩) (block_lt_of_cell hm)];exact hm⟩
theorem SlS.of_row {w:World} {g n cap:Nat} {xs:List ByteArray} {r:List Value} {t:TypeId} (h:Row w g (strs xs++r) t) (hn:xs.length=n) (hc:n≤cap):SlS w (.slice (some ⟨g,0,none⟩) n cap) xs:=by
 subst hn
 refine ⟨_,cap,rfl,hc,by simp [strs],fun _=>⟨g,0,rfl,fun j u hu=>?_⟩⟩
 rw [Nat.zero_add,h.cell j,List.getElem?_append_left (List.getElem?_eq_some_iff.1 hu).1]
 exact hu
theorem splitn_any (c:UInt8) (s:ByteArray) (w:World) (hs:s.size≤1000) (hM:MaxL w) :
  Calls Tryz.prog 175 #[.string s,.string ⟨#[c]⟩,.int .i64 4] w fun e w'=>∃v,e=.returned v∧SlS w' v (Lib.splitB (mkS [c]) 0 (min 4 (s.size+1) - 1) s)∧Below w.heap.size w w':=by
 obtain ⟨m,hm⟩:=hM
 have hle:=Lib.splitB_length_le (mkS [c]) 0 (min 4 (s.size+1) - 1) s
 refine (Any.strings_SplitN splitA made_str s (mkS [c]) 4 m w (by omega) hm (by rw [mkS_size];simp) (by omega) (by omega)).mono ?_
 rintro e w' ⟨rfl,rfl⟩
 refine ⟨_,rfl,?_,Below.alloc (Below.refl _ _) (Nat.le_refl _) _⟩
 refine SlS.of_row (t:=9) (r:=List.replicate (min 4 (s.size+1) - (Lib.splitB (mkS [c]) 0 (min 4 (s.size+1) - 1) s).length) (Value.string ByteArray.empty)) ?_ rfl (by omega)
 exact Row.new w _ _
theorem sclone_any (s:ByteArray) (w:World) (hs:s.size≤1000):Calls Tryz.prog 136 #[.string s] w fun e w'=>e=.returned (.string s)∧Below w.heap.size w w':=by
 go_enter Tryz.func136,Tryz.ntmps136
 go_wp2_with (first|(go_at_call 171;refine (AnyPu.stringslite_Clone scloneA s _ (by omega)).mono ?_;rintro e w' ⟨he,hb⟩;subst he))
 go_ret
 exact ⟨rfl,hb⟩
theorem plv_cell {w:World} {g:Nat} {ks:List ByteArray} {t:TypeId} (hr:Row w g (plv ks) t):∀j,j<[ks.getD 0 noStr,ks.getD 1 noStr,ks.getD 2 noStr].length→w.cell? ⟨g,0+j,none⟩=some (.string ([ks.getD 0 noStr,ks.getD 1 noStr,ks.getD 2 noStr].getD j ByteArray.empty)):=by
 intro j hj
 rw [Nat.zero_add,hr.cell j]
 simp only [List.length_cons,List.length_nil] at hj
 rcases (show j=0∨j=1∨j=2 by omega) with rfl|rfl|rfl<;>rfl
theorem idx_any {ks:List ByteArray} (h:PlOk ks) {g:Nat} {t:TypeId} (w:World) (hr:Row w g (plv ks) t) :
  Calls Tryz.prog 176 #[.slice (some ⟨g,0,none⟩) 3 3,.string ⟨#[]⟩] w fun e w'=>e=.returned (.int .i64 (if ks.length=3 then -1 else (ks.length:Int)))∧w'=w:=by
 rw [←idx_pl h]
 exact Any.slices_Index_string indexA g 0 3 3 [ks.getD 0 noStr,ks.getD 1 noStr,ks.getD 2 noStr] noStr w (by simp) (by omega) (plv_cell hr)
theorem take3 {ks:List ByteArray} (h:ks.length≤3):[ks.getD 0 noStr,ks.getD 1 noStr,ks.getD 2 noStr].take ks.length=ks:=by
 match ks,h with
 | [],_=>rfl
 | [a],_=>rfl
 | [a,b],_=>rfl
 | [a,b,c],_=>rfl
theorem clone_any {ks:List ByteArray} (h:PlOk ks) {g n cap:Nat} {t:TypeId} (hn:n=ks.length) (w:World) (hr:Row w g (plv ks) t) :
  Calls Tryz.prog 139 #[.slice (some ⟨g,0,none⟩) n cap] w fun e w'=>∃v,e=.returned v∧w'.ownsRow w.heap.size 9 1 v n (strs ks)∧Below w.heap.size w w':=by
 subst hn
 have hl:=h.len
 have c:=Any.slices_Clone_string cloneA g 0 ks.length cap [ks.getD 0 noStr,ks.getD 1 noStr,ks.getD 2 noStr] w (by simpa using hl) (by omega) (plv_cell hr)
 rw [take3 hl] at c
 refine c.mono ?_
 rintro e w' ⟨v,he,ho,_,hb⟩
 exact ⟨v,he,ho,hb⟩
theorem bex:Builder.Extra Tryz.prog joinA_ren:={sizeBuilder:=by kernel_rfl,liesBuilder:=by kernel_rfl,t5:=Tryz.underlying5,a5:=Tryz.isAgg5,z5:=Tryz.sizeOf5,v5:=Tryz.zeroValue5,infoByte:=by kernel_rfl,cellsByte:=by kernel_rfl,sizeByte:=by kernel_rfl,neB5:=by decide}
theorem join_any (xs:List ByteArray) (v:Value) (w:World) (hv:SlS w v xs) (hl:xs.length≤10) (hs:∀x∈xs,x.size≤10) :
  Calls Tryz.prog 137 #[v,.string ⟨#[47]⟩] w fun e w'=>e=.returned (.string (mkS (jn 47 (xs.map bs))))∧Below w.heap.size w w':=by
 obtain ⟨p,cap,rfl,hcap,_,hseg⟩:=hv
 by_cases h0:xs=[]
 ·subst h0
  refine (Any.strings_Join_none joinA bex p cap ⟨#[47]⟩ w).mono ?_
  rintro e w' ⟨rfl,rfl⟩
  exact ⟨rfl,Below.refl _ _⟩
 ·obtain ⟨b,off,rfl,hc⟩:=hseg (List.length_pos_iff.2 h0)
  have hcells:∀(j:Nat) x,xs[j]?=some x→w.cell? ⟨b,off+j,none⟩=some (.string x):=fun j x hx=>hc j _ (by simp [strs,hx])
  have hb:b<w.heap.size:=by
   have:=hcells 0 (xs[0]'(List.length_pos_iff.2 h0)) (by simp)
   exact block_lt_of_cell this
  have hlen:(Lib.join (xs.map (·.data.toList)) [47]).length≤140737488355328:=by
   have:=jn_len 47 (ks:=xs.map bs) (fun k hk=>by obtain ⟨x,hx,rfl⟩:=List.mem_map.1 hk;rw [dg];exact hs x hx)
   rw [List.length_map] at this
   show (jn 47 (xs.map bs)).length≤_
   omega
  exact Any.strings_Join joinA bex b off cap xs ⟨#[47]⟩ w hcells hb (by omega) hcap hlen
def last0 (l:List UInt8):Bool:=decide (l.getLast?=some 0)
open Go Go.RowKit
section
variable {P:Program} {ops:Array Oper} {rest:List Oper} {a:Act} {w w0:World} {Q:Exit→Act→World→Prop} {S:List Nat} {rows:List (Nat×List Value×TypeId)}
theorem br {fn:Func} {R:Ending→World→Prop} {p u:Tmp} {ty:TypeId} (i:Nat) {g:Nat} {l:List Value} {t:TypeId} (v:Value) (hm:Mem w0 S w rows) (hi:rows[i]?=some (g,l,t))
  (hres:fn.results=#[.cell p ty,.tmp u]) (hp:a.tmps.getD p undef=.pointer (some ⟨g,0,none⟩)) (hv:a.tmps.getD u undef=v) (d:TypeDesc) (hu:P.underlying ty=some d) (hd:(match d with | .struct _ | .array _ _=>true|_=>false)=true)
  (n:Nat) (hs:(P.info? ty).map (·.size)=some n) (hn:l.length=n) (hd0:a.defers=[]) (hR:R (.returned (.tuple #[.agg l.toArray,v])) w):bodyPost P fn R .ret a w:=by
 refine bodyPost_ret ?_ hd0 hR
 rw [results_cell_tmp hres,hp,hv]
 have hl:=run_loadVar_row (P:=P) w g t ty l.toArray (0,0) d (hm.get i hi) hu hd (by rw [hs];simp [hn])
 simp [asAddr,hl]
end
def plOf (xs:List ByteArray):List ByteArray:=if okSegs (xs.map bs) then xs else []
theorem plOf_ok (xs:List ByteArray):PlOk (plOf xs):=by
 unfold plOf
 split
 ·next h=>exact PlOk.of h
 ·exact PlOk.nil
theorem okSegs_no {xs:List ByteArray} {x:ByteArray} (hx:x∈xs) (h:seg (bs x)=false):okSegs (xs.map bs)=false:=by
 unfold okSegs
 rw [show (xs.map bs).all seg=false from List.all_eq_false.2 ⟨bs x,List.mem_map_of_mem hx,by simp [h]⟩,Bool.and_false]
theorem okSegs_many {xs:List ByteArray} (h:3<xs.length):okSegs (xs.map bs)=false:=by
 unfold okSegs
 rw [List.length_map,decide_eq_false (by omega)];rfl
theorem okSegs_yes {xs:List ByteArray} (hl:xs.length≤3) (h:(xs.take xs.length).all (fun x=>seg (bs x))=true):okSegs (xs.map bs)=true:=by
 rw [List.take_length] at h
 unfold okSegs
 rw [List.length_map,decide_eq_true hl,List.all_map];exact h
theorem all_next {xs:List ByteArray} {k:Nat} (hk:k<xs.length) (h:(xs.take k).all (fun x=>seg (bs x))=true) (hs:seg (bs (xs.getD k noStr))=true):(xs.take (k+1)).all (fun x=>seg (bs x))=true:=by
 have e:xs[k]?=some (xs.getD k noStr):=by simp [hk]
 rw [List.take_add_one,e]
 simp only [List.all_append,h,Option.toList_some,List.all_cons,hs,List.all_nil,Bool.and_self]
theorem placeAt_many (n cap:Nat) (p:Option Addr) (w:World) (hn:3<n) :
  Calls Tryz.prog 97 #[.slice p n cap] w fun e w'=>e=.returned (.tuple #[.agg (plv []).toArray,.bool false])∧Below w.heap.size w w':=by
 have h3:(3:Int)<(n:Int):=by omega
 have hm:=Mem.start w
 go_enter Tryz.func97,Tryz.ntmps97
 go_wp2_with (first
  | ((with_reducible refine ae (some 2) (.alloc 161) ?_);refine ag _ ec hm ?_;clear hm;intro w1 g1 hm)
  | (go_at_call 134;refine (kp _).mono ?_;rintro e w' ⟨he,hb⟩;subst he;replace hm:=hm.call hb;clear hb)
  | ((with_reducible refine ae none (.store 161 (.tmp 2) (.tmp 10)) ?_);refine ah 0 (plv []) hm rfl rfl rfl 3 de rfl rfl (by decide) ?_;clear hm;intro w2 hm))
 refine br 0 (.bool false) hm rfl Tryz.results97 rfl rfl _ eM rfl 3 de rfl rfl ?_
 exact ⟨rfl,hm.below⟩
theorem placeAt_few (xs:List ByteArray) (n cap:Nat) (p:Option Addr) (w:World) (hn:xs.length=n) (h3n:n≤3) (hv:SlS w (.slice p n cap) xs) :
  Calls Tryz.prog 97 #[.slice p n cap] w fun e w'=>e=.returned (.tuple #[.agg (plv (plOf xs)).toArray,.bool (okSegs (xs.map bs))])∧Below w.heap.size w w':=by
 have h3:¬(3:Int)<(n:Int):=by omega
 have hm:=Mem.start w
 have HV:Hid (SlS w (.slice p n cap) xs):=hv
 have HN:Hid (∀_:Unit,xs.length=n):=fun _=>hn
 clear hv hn
 go_enter Tryz.func97,Tryz.ntmps97
 go_wp2_with (first
  | ((with_reducible refine ae (some 2) (.alloc 161) ?_);refine ag _ ec hm ?_;clear hm;intro w1 g1 hm)
  | ((with_reducible refine ae (some 4) (.alloc 161) ?_);refine ag _ ec hm ?_;clear hm;intro w2 g2 hm))
 go_loopw [13] (fun vi wr=>∃k:Nat,k≤n∧vi=.int .i64 (k:Int)∧Hid ((xs.take k).all (fun x=>seg (bs x))=true)∧Hid (Mem w [] wr [(g2,plk xs k,161),(g1,[.string ByteArray.empty,.string ByteArray.empty,.string ByteArray.empty],161)])) (fun vi _=>n - (intOf vi).toNat)
 case atStart=>exact ⟨0,by omega,rfl,rfl,hm⟩
 case round =>
  clear hm
  obtain ⟨k,hk,rfl,HA,HM⟩:=hrel
  have hm:=HM.out
  clear HM
  by_cases hlt:k<n
  ·have hki:(k:Int)<(n:Int):=by omega
   obtain ⟨b,off,hp⟩:=SlS.at HV.out (HN.out ()) (by omega)
   subst hp
   obtain ⟨x,hx⟩:∃x,x=xs.getD k noStr:=⟨_,rfl⟩
   have HC:Hid (wr.cell? ⟨b,off+k,none⟩=some (.string x)):=by
    rw [hx]
    exact SlS.cells (HN.out ()) (SlV.below HV.out hm.below) k hlt
   have HX:Hid (∀_:Unit,x=xs.getD k noStr):=fun _=>hx
   clear hx
   obtain ⟨r,hr⟩:∃r,seg (bs x)=r:=⟨_,rfl⟩
   have HR:Hid (∀_:Unit,seg (bs x)=r):=fun _=>hr
   clear hr
   cases r with
   | true =>
    have HS:Hid (∀_:Unit,x.size≤1000):=fun _=>by have:=(seg_parts (HR.out ())).2.1;rw [dg] at this;omega
    go_wp2_with (first
     | ((with_reducible refine ae (some 17) (.load 9 (.tmp 16)) ?_);go_must (refine aj (.string x) rfl (fd (.string x) (HC.out) rfl fJ) ?_))
     | (go_at_call 135;refine (jI x _).mono ?_;rintro e w' ⟨he,hw⟩;rw [HR.out ()] at he;subst he;subst hw)
     | (go_at_call 136;refine (sclone_any x _ (HS.out ())).mono ?_;rintro e w' ⟨he,hb⟩;subst he;replace hm:=hm.call hb;clear hb)
     | ((with_reducible refine ae none (.store 9 (.tmp 25) (.tmp 24)) ?_);refine bj 0 k (.string x) hm rfl (by go_simp) rfl dE (by show k<3;omega) rfl rfl ?_;clear hm;intro w6 hm))
    go_roundw
    case rel =>
     refine ⟨k+1,by omega,by go_num,all_next (by rw [HN.out ()];exact hlt) HA.out (by rw [←HX.out ()];exact HR.out ()),?_⟩
     have e:=plk_set xs k (by rw [HN.out ()];exact hlt) (by rw [HN.out ()];exact h3n)
     rw [←HX.out ()] at e
     rw [←e]
     exact hm
    case measure=>simp [intOf];omega
   | false =>
    go_wp2_with (first
     | ((with_reducible refine ae (some 17) (.load 9 (.tmp 16)) ?_);go_must (refine aj (.string x) rfl (fd (.string x) (HC.out) rfl fJ) ?_))
     | (go_at_call 135;refine (jI x _).mono ?_;rintro e w' ⟨he,hw⟩;rw [HR.out ()] at he;subst he;subst hw)
     | (go_at_call 134;refine (kp _).mono ?_;rintro e w' ⟨he,hb⟩;subst he;replace hm:=hm.call hb;clear hb)
     | ((with_reducible refine ae none (.store 161 (.tmp 2) (.tmp 21)) ?_);refine ah 1 (plv []) hm rfl rfl rfl 3 de rfl rfl (by decide) ?_;clear hm;intro w6 hm))
    refine br 1 (.bool false) hm rfl Tryz.results97 rfl rfl _ eM rfl 3 de rfl rfl ?_
    have e:okSegs (xs.map bs)=false:=okSegs_no (x:=x) (by rw [HX.out (),List.getD_eq_getElem?_getD,List.getElem?_eq_getElem (by rw [HN.out ()];exact hlt)];exact List.getElem_mem _) (HR.out ())
    refine ⟨?_,hm.below⟩
    rw [plOf,e]
    rfl
  ·have hki:¬(k:Int)<(n:Int):=by omega
   have e:okSegs (xs.map bs)=true:=by
    refine okSegs_yes (by rw [HN.out ()];exact h3n) ?_
    have:=HA.out
    rw [show k=xs.length by rw [HN.out ()];omega] at this
    exact this
   have e2:plk xs k=plv (plOf xs):=by
    rw [plOf,e,plk,List.take_of_length_le (by rw [HN.out ()];omega)];rfl
   have HE:Hid (∀_:Unit,okSegs (xs.map bs)=true):=fun _=>e
   rw [e2] at hm
   clear e e2
   go_wp2_with (first
    | ((with_reducible refine ae (some 27) (.load 161 (.tmp 4)) ?_);refine av 0 hm rfl rfl _ eM rfl 3 de (by rfl) ?_)
    | ((with_reducible refine ae none (.store 161 (.tmp 2) (.tmp 27)) ?_);refine ah 1 (plv (plOf xs)) hm rfl rfl rfl 3 de rfl rfl (by intro v hv;simp [plv] at hv;rcases hv with rfl|rfl|rfl<;>rfl) ?_;clear hm;intro w6 hm))
   refine br 1 (.bool true) hm rfl Tryz.results97 rfl rfl _ eM rfl 3 de rfl rfl ?_
   refine ⟨?_,hm.below⟩
   rw [HE.out ()]
theorem jx (xs:List ByteArray) (v:Value) (w:World) (hv:SlS w v xs) :
  Calls Tryz.prog 97 #[v] w fun e w'=>e=.returned (.tuple #[.agg (plv (plOf xs)).toArray,.bool (okSegs (xs.map bs))])∧Below w.heap.size w w':=by
 obtain ⟨p,cap,rfl,hc⟩:=SlV.len hv
 by_cases h:3<xs.length
 ·rw [plOf,okSegs_many h]
  exact placeAt_many xs.length cap p w h
 ·exact placeAt_few xs xs.length cap p w rfl (by omega) hv
open Go Go.RowKit
theorem eqs_no {a b:ByteArray} (h:a≠b):(a==b)=false:=by
 cases hc:(a==b) with
 | false=>rfl
 | true =>
  refine absurd ?_ h
  rw [beq_toListBytes,beq_iff_eq,ByteArray.toList_eq,ByteArray.toList_eq] at hc
  exact jm hc
theorem eqs_yes (a:ByteArray):(a==a)=true:=beq_self_str a
def segsB (s:ByteArray):List ByteArray:=(segsOf (bs s)).map mkS
theorem segsB_bs (s:ByteArray):(segsB s).map bs=segsOf (bs s):=map_bs_mkS _
theorem cX (s:ByteArray):PlOk (segsB s):=PlOk.of (by rw [segsB_bs];exact segsOf_ok _)
theorem parts_any (c:UInt8) (s:ByteArray) (w:World) (hs:s.size≤1000) (hM:MaxL w) :
  Calls Tryz.prog 138 #[.string s,.string ⟨#[c]⟩] w fun e w'=>∃v,e=.returned v∧SlS w' v (Lib.splitB (mkS [c]) 0 (min 4 (s.size+1) - 1) s)∧Below w.heap.size w w':=by
 go_enter Tryz.func138,Tryz.ntmps138
 go_wp2_with (first|(go_at_call 175;refine (splitn_any c s _ hs hM).mono ?_;rintro e w' ⟨v,he,hv,hb⟩;subst he;have HV:Hid (SlS w' v (Lib.splitB (mkS [c]) 0 (min 4 (s.size+1) - 1) s)):=hv;clear hv))
 go_ret
 exact ⟨_,rfl,HV.out,hb⟩
theorem jG (s:ByteArray) (w:World) (hs:s.size≤1000) (hM:MaxL w) :
  Calls Tryz.prog 99 #[.string s] w fun e w'=>e=.returned (.tuple #[.agg (plv (segsB s)).toArray,.bool (isP (bs s))])∧Below w.heap.size w w':=by
 have hm:=Mem.start w
 have HM:Hid (MaxL w):=hM
 clear hM
 by_cases h0:s=⟨#[]⟩
 ·subst h0
  go_enter Tryz.func99,Tryz.ntmps99
  go_wp2_with (first
   | ((with_reducible refine ae (some 2) (.alloc 161) ?_);refine ag _ ec hm ?_;clear hm;intro w1 g1 hm)
   | ((with_reducible refine ae (some 5) (.binOp .eql 9 (.tmp 4) (.const (.string {data:=#[]})) 9) ?_);go_must (refine aj (.bool true) rfl (exec_eqsB ⟨#[]⟩ ⟨#[]⟩ true rfl rfl (eqs_yes _)) ?_))
   | (go_at_call 134;refine (kp _).mono ?_;rintro e w' ⟨he,hb⟩;subst he;replace hm:=hm.call hb;clear hb)
   | ((with_reducible refine ae none (.store 161 (.tmp 2) (.tmp 6)) ?_);refine ah 0 (plv []) hm rfl rfl rfl 3 de rfl rfl (by intro v hv;simp [plv] at hv;rcases hv with rfl|rfl|rfl<;>rfl) ?_;clear hm;intro w2 hm))
  refine br 0 (.bool true) hm rfl Tryz.results99 rfl rfl _ eM rfl 3 de rfl rfl ?_
  exact ⟨rfl,hm.below⟩
 ·have HE:Hid (∀_:Unit,¬s=⟨#[]⟩):=fun _=>h0
  clear h0
  obtain ⟨X,hX⟩:∃X,X=Lib.splitB (mkS [47]) 0 (min 4 (s.size+1) - 1) s:=⟨_,rfl⟩
  have HP:Hid (∀_:Unit,(plOf X=segsB s∧okSegs (X.map bs)=isP (bs s))):=fun _=>by
   have hne:bs s≠[]:=fun h=>HE.out () (by rw [←mkS_bs s,h];rfl)
   have hemp:(bs s).isEmpty=false:=by
    cases h:bs s with
    | nil=>exact absurd h hne
    | cons _ _=>rfl
   obtain ⟨p1,p2⟩:=parts_okP 47 s
   rw [←hX] at p1 p2
   have e2:okSegs (X.map bs)=isP (bs s):=by rw [p1,isP,hemp,Bool.false_or]
   refine ⟨?_,e2⟩
   unfold plOf segsB
   cases hok:okSegs (X.map bs) with
   | false =>
    rw [hok] at e2
    rw [segsOf_no e2.symm];rfl
   | true =>
    rw [hok] at e2 p1
    rw [segsOf_path e2.symm hne,←p2 p1.symm,map_mkS_bs];rfl
  have HX:Hid (∀_:Unit,X=Lib.splitB (mkS [47]) 0 (min 4 (s.size+1) - 1) s):=fun _=>hX
  clear hX
  go_enter Tryz.func99,Tryz.ntmps99
  go_wp2_with (first
   | ((with_reducible refine ae (some 2) (.alloc 161) ?_);refine ag _ ec hm ?_;clear hm;intro w1 g1 hm)
   | ((with_reducible refine ae (some 5) (.binOp .eql 9 (.tmp 4) (.const (.string {data:=#[]})) 9) ?_);go_must (refine aj (.bool false) rfl (exec_eqsB s ⟨#[]⟩ false rfl rfl (eqs_no (HE.out ()))) ?_))
   | (go_at_call 138;refine (parts_any 47 s _ hs (HM.out.below hm.below)).mono ?_;rintro e w' ⟨v,he,hv,hb⟩;subst he;rw [←HX.out ()] at hv;have HV:Hid (SlS w' v X):=hv;clear hv;replace hm:=hm.call hb;clear hb)
   | (go_at_call 97;refine (jx X _ _ HV.out).mono ?_;rintro e w' ⟨he,hb⟩;rw [(HP.out ()).1,(HP.out ()).2] at he;subst he;replace hm:=hm.call hb;clear hb)
   | ((with_reducible refine ae none (.store 161 (.tmp 2) (.tmp 10)) ?_);refine ah 0 (plv (segsB s)) hm rfl rfl rfl 3 de rfl rfl (by intro v hv;simp [plv] at hv;rcases hv with rfl|rfl|rfl<;>rfl) ?_;clear hm;intro w2 hm))
  refine br 0 (.bool (isP (bs s))) hm rfl Tryz.results99 rfl rfl _ eM rfl 3 de rfl rfl ?_
  exact ⟨rfl,hm.below⟩
theorem depth_any {ks:List ByteArray} (h:PlOk ks) (w:World) :
  Calls Tryz.prog 140 #[.agg (plv ks).toArray] w fun e w'=>e=.returned (.int .i64 (ks.length:Int))∧Below w.heap.size w w':=by
 have hm:=Mem.start w
 have HK:Hid (∀_:Unit,PlOk ks):=fun _=>h
 obtain ⟨n,hn⟩:∃n,n=ks.length:=⟨_,rfl⟩
 have hn3:n≤3:=by rw [hn];exact h.len
 rw [←hn]
 have HN:Hid (∀_:Unit,n=ks.length):=fun _=>hn
 clear h hn
 by_cases h3:n=3
 ·have HI:Hid (∀_:Unit,(if ks.length=3 then (-1:Int) else (ks.length:Int)) = -1):=fun _=>by rw [←HN.out (),if_pos h3]
  subst h3
  go_enter Tryz.func140,Tryz.ntmps140
  go_wp2_with (first
   | ((with_reducible refine ae (some 1) (.box 161 (.tmp 0)) ?_);refine az (plv ks) rfl hm ?_;clear hm;intro w1 g1 hm)
   | ((with_reducible refine ae (some 4) (.slice 161 (.tmp 1) none none none) ?_);refine ed 3 eM dE 0 3 (by omega) (by omega) rfl (Or.inr ⟨rfl,rfl⟩) (Or.inr ⟨rfl,rfl⟩) ?_)
   | (go_at_call 176;refine (idx_any (HK.out ()) _ (hm.get 0 rfl)).mono ?_;rintro e w' ⟨he,hw⟩;rw [HI.out ()] at he;subst he;subst hw))
  go_ret
  exact ⟨rfl,hm.below⟩
 ·have HI:Hid (∀_:Unit,(if ks.length=3 then (-1:Int) else (ks.length:Int))=(n:Int)):=fun _=>by rw [←HN.out (),if_neg h3]
  have hneg:¬(n:Int)<0:=by omega
  go_enter Tryz.func140,Tryz.ntmps140
  go_wp2_with (first
   | ((with_reducible refine ae (some 1) (.box 161 (.tmp 0)) ?_);refine az (plv ks) rfl hm ?_;clear hm;intro w1 g1 hm)
   | ((with_reducible refine ae (some 4) (.slice 161 (.tmp 1) none none none) ?_);refine ed 3 eM dE 0 3 (by omega) (by omega) rfl (Or.inr ⟨rfl,rfl⟩) (Or.inr ⟨rfl,rfl⟩) ?_)
   | (go_at_call 176;refine (idx_any (HK.out ()) _ (hm.get 0 rfl)).mono ?_;rintro e w' ⟨he,hw⟩;rw [HI.out ()] at he;subst he;subst hw))
  go_ret
  exact ⟨rfl,hm.below⟩
theorem kj {w:World} {B B':Nat} {e:TypeId} {K:Nat} {v:Value} {n:Nat} {cs:List Value} (hB:B'≤B) (h:w.ownsRow B e K v n cs):w.ownsRow B' e K v n cs:=by
 obtain ⟨hl,h2⟩:=h
 refine ⟨hl,?_⟩
 rcases h2 with h3|⟨g,cap,cur,hv,hb,r⟩
 ·exact Or.inl h3
 ·exact Or.inr ⟨g,cap,cur,hv,Nat.le_trans hB hb,r⟩
theorem iD {ks:List ByteArray} (h:PlOk ks) (w:World) :
  Calls Tryz.prog 100 #[.agg (plv ks).toArray] w fun e w'=>∃v,e=.returned v∧w'.ownsRow w.heap.size 9 1 v ks.length (strs ks)∧Below w.heap.size w w':=by
 have hm:=Mem.start w
 have HK:Hid (∀_:Unit,PlOk ks):=fun _=>h
 obtain ⟨n,hn⟩:∃n,n=ks.length:=⟨_,rfl⟩
 have hn3:n≤3:=by rw [hn];exact h.len
 rw [←hn]
 have HN:Hid (∀_:Unit,n=ks.length):=fun _=>hn
 have HD:Hid (∀W,Calls Tryz.prog 140 #[.agg (plv ks).toArray] W fun e w'=>e=.returned (.int .i64 (n:Int))∧Below W.heap.size W w'):=fun W=>by rw [hn];exact depth_any h W
 clear h hn
 go_enter Tryz.func100,Tryz.ntmps100
 go_wp2_with (first
  | ((with_reducible refine ae (some 1) (.box 161 (.tmp 0)) ?_);refine az (plv ks) rfl hm ?_;clear hm;intro w1 g1 hm)
  | ((with_reducible refine ae (some 3) (.load 161 (.tmp 1)) ?_);refine av 0 hm rfl rfl _ eM rfl 3 de (by rfl) ?_)
  | (go_at_call 140;refine (HD.out _).mono ?_;rintro e w' ⟨he,hb⟩;subst he;replace hm:=hm.call hb;clear hb)
  | ((with_reducible refine ae (some 5) (.slice 161 (.tmp 1) none (some (.tmp 4)) none) ?_);refine ed 3 eM dE 0 n (by omega) (by omega) rfl (Or.inr ⟨rfl,rfl⟩) (Or.inl (dl _ rfl (by simp))) ?_)
  | (go_at_call 139;refine (clone_any (HK.out ()) (HN.out ()) _ (hm.get 0 rfl)).mono ?_;rintro e w' ⟨v,he,ho,hb⟩;subst he;have HO:Hid (w'.ownsRow _ 9 1 v n (strs ks)):=ho;clear ho;have hm2:=hm.call hb;clear hb))
 go_ret
 exact ⟨_,rfl,kj hm.size HO.out,hm2.below⟩
theorem text_any {ks:List ByteArray} (h:PlOk ks) (w:World) :
  Calls Tryz.prog 98 #[.agg (plv ks).toArray] w fun e w'=>e=.returned (.string (mkS (jn 47 (ks.map bs))))∧Below w.heap.size w w':=by
 have hm:=Mem.start w
 have HK:Hid (∀_:Unit,PlOk ks):=fun _=>h
 clear h
 obtain ⟨r,hr⟩:∃r,r=mkS (jn 47 (ks.map bs)):=⟨_,rfl⟩
 rw [←hr]
 have HR:Hid (∀_:Unit,r=mkS (jn 47 (ks.map bs))):=fun _=>hr
 clear hr
 go_enter Tryz.func98,Tryz.ntmps98
 go_wp2_with (first
  | ((with_reducible refine ae (some 1) (.box 161 (.tmp 0)) ?_);refine az (plv ks) rfl hm ?_;clear hm;intro w1 g1 hm)
  | ((with_reducible refine ae (some 3) (.load 161 (.tmp 1)) ?_);refine av 0 hm rfl rfl _ eM rfl 3 de (by rfl) ?_)
  | (go_at_call 100;refine (iD (HK.out ()) _).mono ?_;rintro e w' ⟨v,he,ho,hb⟩;subst he;have HO:Hid (SlS w' v ks):=own_sl ho;clear ho;replace hm:=hm.call hb;clear hb)
  | (go_at_call 137;refine (join_any ks _ _ HO.out (by have:=(HK.out ()).len;omega) (fun x hx=>((HK.out ()).size hx).2)).mono ?_;rintro e w' ⟨he,hb⟩;rw [←HR.out ()] at he;subst he;replace hm:=hm.call hb;clear hb))
 go_ret
 exact ⟨rfl,hm.below⟩
end Go.Proofs.YtlpnafdkhoimhaaGreatDoor
