import Derived.Test.YtdmohffogfbnbaaGreatDoorQp00
import Derived.Test.YtdmohffogfbnbaaGreatDoorProg
import Derived.Lib.Split
import Derived.Lib.Join
import Derived.Lib.IndexBytes
import Derived.Maps.AppendAt
import Derived.Lib.SlicesS
import Derived.Test.YtdmohffogfbnbaaGreatDoorChecked
set_option maxRecDepth 100000
set_option maxHeartbeats 4000000
namespace Go.Proofs.YtdmohffogfbnbaaGreatDoor
open Go Go.RowKit
theorem aF:Tryz.prog.underlying 9=some .string:=Tryz.underlying9
theorem aW:Tryz.prog.underlying 37=some (.slice 9):=Tryz.underlying37
theorem bc:Tryz.prog.underlying 93=some (.array 3 9):=Tryz.underlying93
theorem bD:(Tryz.prog.info? 9).map (fun i=>(i.zero,i.size,i.bytes))=some (some (.string ByteArray.empty),1,16):=by kernel_rfl
theorem bL:(Tryz.prog.info? 9).map (fun i=>(i.zero,i.size))=some (some (.string ByteArray.empty),1):=by kernel_rfl
theorem cG:(Tryz.prog.info? 9).map (·.size)=some 1:=by kernel_rfl
theorem aj:∀w,(isAgg 9).run Tryz.prog w=.ok false w:=by intro w;simp [go_sem]
theorem info_pl:(Tryz.prog.info? 93).map (fun i=>(i.zero,i.size))=some (some (.agg [.string ByteArray.empty,.string ByteArray.empty,.string ByteArray.empty].toArray),3):=by kernel_rfl
theorem a8:∀w,(zeroValue 93).run Tryz.prog w=.ok (.agg [.string ByteArray.empty,.string ByteArray.empty,.string ByteArray.empty].toArray) w:=(zero_of_info info_pl).1
theorem aK:(Tryz.prog.info? 93).map (·.size)=some 3:=(zero_of_info info_pl).2
open Go Go.RowKit
def noStr:ByteArray:=ByteArray.empty
def bs (s:ByteArray):List UInt8:=s.data.toList
def mkS (l:List UInt8):ByteArray:=⟨l.toArray⟩
theorem dJ (l:List UInt8):bs (mkS l)=l:=by simp [bs,mkS]
theorem cp (s:ByteArray):mkS (bs s)=s:=by cases s;simp [bs,mkS]
theorem bs_inj {a b:ByteArray} (h:bs a=bs b):a=b:=by rw [←cp a,←cp b,h]
theorem aV (s:ByteArray):(bs s).length=s.size:=by unfold bs;exact Array.length_toList
theorem bx (l:List UInt8):(mkS l).size=l.length:=by rw [←aV,dJ]
theorem fb (l:List (List UInt8)):(l.map mkS).map bs=l:=by
 induction l with
 | nil=>rfl
 | cons x l ih=>rw [List.map_cons,List.map_cons,ih,dJ]
theorem bo (l:List ByteArray):(l.map bs).map mkS=l:=by
 induction l with
 | nil=>rfl
 | cons x l ih=>rw [List.map_cons,List.map_cons,ih,cp]
def okc (x:Int):Bool:=(decide (97≤x)&&decide (x≤122))||(decide (48≤x)&&decide (x≤57))
def okU (c:UInt8):Bool:=okc (c.toNat:Int)
def seg (l:List UInt8):Bool:=decide (1≤l.length)&&(decide (l.length≤10)&&l.all okU)
theorem okU_ne {c:UInt8} (h:okU c=true):c≠47∧c≠0:=by
 constructor
 ·rintro rfl;revert h;decide
 ·rintro rfl;revert h;decide
theorem cK {l:List UInt8} (h:seg l=true):1≤l.length∧l.length≤10∧∀c∈l,okU c=true:=by
 simp only [seg,Bool.and_eq_true,decide_eq_true_eq,List.all_eq_true] at h
 exact ⟨h.1,h.2.1,h.2.2⟩
theorem seg_ne47 {l:List UInt8} (h:seg l=true):47 ∉ l:=fun hc=>(okU_ne ((cK h).2.2 47 hc)).1 rfl
theorem seg_ne0 {l:List UInt8} (h:seg l=true):0 ∉ l:=fun hc=>(okU_ne ((cK h).2.2 0 hc)).2 rfl
theorem seg_ne {l:List UInt8} (h:seg l=true):l≠[]:=by
 rintro rfl
 have:=(cK h).1
 simp at this
def hang (x:UInt8):List (List UInt8)→List (List UInt8)
 | []=>[[x]]
 | h::r=>(x::h)::r
def cut (c:UInt8):List UInt8→List (List UInt8)
 | []=>[[]]
 | x::t=>if x=c then []::cut c t else hang x (cut c t)
theorem hang_length (x:UInt8) {l:List (List UInt8)} (h:l≠[]):(hang x l).length=l.length:=by
 cases l with
 | nil=>exact absurd rfl h
 | cons a t=>rfl
theorem dE (c:UInt8) (l:List UInt8):cut c l≠[]:=by
 cases l with
 | nil=>simp [cut]
 | cons x t =>
  rw [cut]
  split
  ·simp
  ·cases cut c t<;>simp [hang]
theorem cw (c:UInt8) {a:List UInt8} (h:c ∉ a) (t:List UInt8):cut c (a++c::t)=a::cut c t:=by
 induction a with
 | nil=>simp [cut]
 | cons x a ih =>
  have hx:¬x=c:=fun e=>h (by simp [e])
  rw [List.cons_append,cut,if_neg hx,ih (fun hc=>h (by simp [hc]))]
  rfl
theorem db (c:UInt8) {a:List UInt8} (h:c ∉ a):cut c a=[a]:=by
 induction a with
 | nil=>rfl
 | cons x a ih =>
  have hx:¬x=c:=fun e=>h (by simp [e])
  rw [cut,if_neg hx,ih (fun hc=>h (by simp [hc]))]
  rfl
theorem dC (c:UInt8) (l:List UInt8):(cut c l).length≤l.length+1:=by
 induction l with
 | nil=>simp [cut]
 | cons x t ih =>
  rw [cut]
  split
  ·simp;omega
  ·rw [hang_length x (dE c t)];simp;omega
/-- The first instance of a sign. -/
theorem eY (c:UInt8) (l:List UInt8) (h:c∈l):∃a t,l=a++c::t∧c ∉ a:=by
 induction l with
 | nil=>cases h
 | cons x l ih =>
  by_cases hx:x=c
  ·exact ⟨[],l,by rw [hx];rfl,by simp⟩
  ·obtain ⟨a,t,e,hn⟩:=ih ((List.mem_cons.1 h).resolve_left (fun e=>hx e.symm))
   exact ⟨x::a,t,by rw [e];rfl,by simp [hn];exact fun e=>hx e.symm⟩
def jn (c:UInt8) (ks:List (List UInt8)):List UInt8:=Lib.join ks [c]
theorem jn_nil (c:UInt8):jn c []=[]:=rfl
theorem cU (c:UInt8) (k:List UInt8):jn c [k]=k:=Lib.join_one k [c]
theorem cj (c:UInt8) (k q:List UInt8) (r:List (List UInt8)):jn c (k::q::r)=k++c::jn c (q::r):=by
 simp [jn,Lib.join,List.intercalate]
theorem cut_jn (c:UInt8):∀ {ks:List (List UInt8)},ks≠[]→(∀k∈ks,c ∉ k)→cut c (jn c ks)=ks
 | [],h,_=>absurd rfl h
 | [k],_,hk=>by rw [cU];exact db c (hk k (by simp))
 | k::q::r,_,hk=>by rw [cj,cw c (hk k (by simp)),cut_jn c (by simp) (fun x hx=>hk x (List.mem_cons_of_mem _ hx))]
theorem jn_hang (c x:UInt8) {l:List (List UInt8)} (h:l≠[]):jn c (hang x l)=x::jn c l:=by
 match l,h with
 | [k],_=>simp [hang,cU]
 | k::q::r,_=>simp [hang,cj]
theorem jn_empty (c:UInt8) {l:List (List UInt8)} (h:l≠[]):jn c ([]::l)=c::jn c l:=by
 match l,h with
 | q::r,_=>rw [cj];rfl
theorem jn_cut (c:UInt8) (l:List UInt8):jn c (cut c l)=l:=by
 induction l with
 | nil=>exact cU c []
 | cons x t ih =>
  rw [cut]
  split
  ·next e=>rw [jn_empty c (dE c t),ih,e]
  ·rw [jn_hang c x (dE c t),ih]
theorem jn_len (c:UInt8):∀ {ks:List (List UInt8)},(∀k∈ks,k.length≤10)→(jn c ks).length≤11 * ks.length
 | [],_=>by simp [jn_nil]
 | [k],h=>by rw [cU];have:=h k (by simp);simp;omega
 | k::q::r,h=>by
  have:=h k (by simp)
  have h2:=jn_len c (ks:=q::r) (fun x hx=>h x (List.mem_cons_of_mem _ hx))
  rw [cj]
  simp only [List.length_append,List.length_cons] at h2 ⊢
  omega
theorem jn_ne (c:UInt8):∀ {ks:List (List UInt8)},ks≠[]→(∀k∈ks,k≠[])→jn c ks≠[]
 | [],h,_=>absurd rfl h
 | [k],_,hk=>by rw [cU];exact hk k (by simp)
 | k::q::r,_,_=>by rw [cj];simp
def okSegs (ks:List (List UInt8)):Bool:=decide (ks.length≤3)&&ks.all seg
theorem cR {ks:List (List UInt8)} (h:okSegs ks=true):ks.length≤3∧∀k∈ks,seg k=true:=by
 simp only [okSegs,Bool.and_eq_true,decide_eq_true_eq,List.all_eq_true] at h
 exact h
theorem okSegs_mk {ks:List (List UInt8)} (h1:ks.length≤3) (h2:∀k∈ks,seg k=true):okSegs ks=true:=by
 simp only [okSegs,Bool.and_eq_true,decide_eq_true_eq,List.all_eq_true]
 exact ⟨h1,h2⟩
def isP (l:List UInt8):Bool:=l.isEmpty||okSegs (cut 47 l)
def segsOf (l:List UInt8):List (List UInt8):=if l.isEmpty || !isP l then [] else cut 47 l
theorem segsOf_ok (l:List UInt8):okSegs (segsOf l)=true:=by
 unfold segsOf
 split
 ·rfl
 ·next h =>
  simp only [Bool.or_eq_true,Bool.not_eq_true',not_or,Bool.not_eq_true,Bool.not_eq_false] at h
  have h2:=h.2
  simp only [isP,h.1,Bool.false_or] at h2
  exact h2
theorem dm {l:List UInt8} (h:isP l=false):segsOf l=[]:=by simp [segsOf,h]
theorem bU {l:List UInt8} (h:isP l=true) (h0:l≠[]):segsOf l=cut 47 l:=by
 have:l.isEmpty=false:=by
  cases l with
  | nil=>exact absurd rfl h0
  | cons _ _=>rfl
 simp [segsOf,h,this]
theorem jn_segsOf {l:List UInt8} (h:isP l=true):jn 47 (segsOf l)=l:=by
 by_cases h0:l=[]
 ·subst h0;rfl
 ·rw [bU h h0,jn_cut]
theorem em {ks:List (List UInt8)} (h:okSegs ks=true):isP (jn 47 ks)=true∧segsOf (jn 47 ks)=ks:=by
 cases ks with
 | nil=>exact ⟨rfl,rfl⟩
 | cons k r =>
  have hp:=cR h
  have hc:=cut_jn 47 (ks:=k::r) (by simp) (fun x hx=>seg_ne47 (hp.2 x hx))
  have hi:isP (jn 47 (k::r))=true:=by rw [isP,hc,h,Bool.or_true]
  exact ⟨hi,by rw [bU hi (jn_ne 47 (by simp) (fun x hx=>seg_ne (hp.2 x hx))),hc]⟩
theorem segsOf_ne {l:List UInt8} (h:isP l=true) (h0:l≠[]):segsOf l≠[]:=by rw [bU h h0];exact dE 47 l
def codeOf:List (List UInt8)→List UInt8
 | []=>[]
 | k::r=>k++0::codeOf r
theorem dA (a b:List (List UInt8)):codeOf (a++b)=codeOf a++codeOf b:=by
 induction a with
 | nil=>rfl
 | cons k a ih=>simp [codeOf,ih]
theorem codeOf_len {ks:List (List UInt8)} (h:∀k∈ks,k.length≤10):(codeOf ks).length≤11 * ks.length:=by
 induction ks with
 | nil=>simp [codeOf]
 | cons k r ih =>
  have h1:=h k (by simp)
  have h2:=ih (fun x hx=>h x (List.mem_cons_of_mem _ hx))
  simp only [codeOf,List.length_append,List.length_cons]
  omega
/-- Two lists that begin with a sign-free piece and the sign. -/
theorem piece_eq {c:UInt8}:∀ {a b s t:List UInt8},c ∉ a→c ∉ b→a++c::s=b++c::t→a=b∧s=t
 | [],[],s,t,_,_,h=>by simp at h;exact ⟨rfl,h⟩
 | [],y::b,s,t,_,hb,h=>by simp at h;exact absurd h.1 (fun e=>hb (by simp [e]))
 | x::a,[],s,t,ha,_,h=>by simp at h;exact absurd h.1 (fun e=>ha (by simp [e]))
 | x::a,y::b,s,t,ha,hb,h=>by
  simp only [List.cons_append,List.cons.injEq] at h
  obtain ⟨e1,e2⟩:=piece_eq (fun hc=>ha (by simp [hc])) (fun hc=>hb (by simp [hc])) h.2
  exact ⟨by rw [h.1,e1],e2⟩
theorem cH:∀ {ks qs:List (List UInt8)},(∀k∈ks,0 ∉ k)→(∀k∈qs,0 ∉ k)→(codeOf ks <+: codeOf qs↔ks <+: qs)
 | [],qs,_,_=>by simp [codeOf]
 | k::ks,[],_,_=>by simp [codeOf]
 | k::ks,q::qs,hk,hq=>by
  have ih:=cH (ks:=ks) (qs:=qs) (fun x hx=>hk x (List.mem_cons_of_mem _ hx)) (fun x hx=>hq x (List.mem_cons_of_mem _ hx))
  constructor
  ·rintro ⟨t,ht⟩
   simp only [codeOf,List.append_assoc,List.cons_append] at ht
   obtain ⟨e1,e2⟩:=piece_eq (hk k (by simp)) (hq q (by simp)) ht
   rw [e1]
   exact List.cons_prefix_cons.2 ⟨rfl,ih.1 ⟨t,e2⟩⟩
  ·intro h
   obtain ⟨rfl,h2⟩:=List.cons_prefix_cons.1 h
   obtain ⟨t,ht⟩:=ih.2 h2
   exact ⟨t,by simp [codeOf,←ht]⟩
theorem codeOf_inj {ks qs:List (List UInt8)} (hk:∀k∈ks,0 ∉ k) (hq:∀k∈qs,0 ∉ k) (h:codeOf ks=codeOf qs):ks=qs:=by
 have h1:=(cH hk hq).1 ⟨[],by simp [h]⟩
 have h2:=(cH hq hk).1 ⟨[],by simp [h]⟩
 exact h1.eq_of_length (Nat.le_antisymm h1.length_le h2.length_le)
def decOk (l:List UInt8):Bool:=l.isEmpty||(decide (l.getLast?=some 0)&&okSegs (cut 0 l.dropLast))
def decOf (l:List UInt8):List UInt8:=if l.isEmpty || !decOk l then [] else jn 47 (cut 0 l.dropLast)
open Go Go.RowKit
def SegV (w:World) (b off:Nat) (cs:List Value):Prop:=∀j u,cs[j]?=some u→w.cell? ⟨b,off+j,none⟩=some u
def SlV (K:Nat) (w:World) (v:Value) (n:Nat) (cs:List Value):Prop :=
 ∃p cap,v=.slice p n cap∧n≤cap∧cs.length=n * K∧(0<n→∃b off,p=some ⟨b,off,none⟩∧SegV w b off cs)
theorem SegV.below {w w':World} {b off:Nat} {cs:List Value} (h:SegV w b off cs) (hb:Below w.heap.size w w'):SegV w' b off cs:=by
 intro j u hu
 have h1:=h j u hu
 rw [hb.cell (p:=⟨b,off+j,none⟩) (block_lt_of_cell h1)]
 exact h1
theorem SlV.below {K:Nat} {w w':World} {v:Value} {n:Nat} {cs:List Value} (h:SlV K w v n cs) (hb:Below w.heap.size w w'):SlV K w' v n cs:=by
 obtain ⟨p,cap,hv,hc,hl,hs⟩:=h
 refine ⟨p,cap,hv,hc,hl,fun h0=>?_⟩
 obtain ⟨b,off,hp,hseg⟩:=hs h0
 exact ⟨b,off,hp,hseg.below hb⟩
theorem SlV.nil (K:Nat) (w:World):SlV K w (.slice none 0 0) 0 []:=⟨none,0,rfl,Nat.le_refl _,by simp,fun h=>absurd h (by omega)⟩
theorem SlV.len {K:Nat} {w:World} {v:Value} {n:Nat} {cs:List Value} (h:SlV K w v n cs):∃p cap,v=.slice p n cap∧n≤cap:=by
 obtain ⟨p,cap,hv,hc,_⟩:=h
 exact ⟨p,cap,hv,hc⟩
theorem SlV.at {K:Nat} {w:World} {p:Option Addr} {n cap:Nat} {cs:List Value} (h:SlV K w (.slice p n cap) n cs) (h0:0<n):∃b off,p=some ⟨b,off,none⟩∧SegV w b off cs:=by
 obtain ⟨q,c,hv,_,_,hs⟩:=h
 simp only [Value.slice.injEq] at hv
 obtain ⟨rfl,_,rfl⟩:=hv
 exact hs h0
def less (a b:ByteArray):Bool:=Op.bytesLess a.toList b.toList
def prs (l:List (ByteArray×ByteArray)):List Value:=l.flatMap fun p=>[.string p.1,.string p.2]
def strs (l:List ByteArray):List Value:=l.map .string
theorem prs_length (l:List (ByteArray×ByteArray)):(prs l).length=l.length * 2:=by
 unfold prs
 induction l with
 | nil=>rfl
 | cons p l ih=>rw [List.flatMap_cons,List.length_append,ih];simp;omega
theorem prs_append (l m:List (ByteArray×ByteArray)):prs (l++m)=prs l++prs m:=by simp [prs]
theorem prs_at (l:List (ByteArray×ByteArray)) (i:Nat) (h:i<l.length):(prs l)[i * 2]?=some (.string (l.getD i (noStr,noStr)).1)∧(prs l)[i * 2+1]?=some (.string (l.getD i (noStr,noStr)).2):=by
 have e:l=l.take i++(l.getD i (noStr,noStr)::l.drop (i+1)):=by
  have h2:l.drop i=l.getD i (noStr,noStr)::l.drop (i+1):=by rw [List.drop_eq_getElem_cons h];simp [h]
  rw [←h2,List.take_append_drop]
 have hl:(prs (l.take i)).length=i * 2:=by rw [prs_length,List.length_take,Nat.min_eq_left (by omega)]
 generalize l.getD i (noStr,noStr)=p at e ⊢
 rw [e,prs_append,List.getElem?_append_right (by omega),List.getElem?_append_right (by omega),hl,Nat.sub_self,show i * 2+1 - i * 2=1 by omega]
 exact ⟨rfl,rfl⟩
theorem strs_at (l:List ByteArray) (i:Nat) (h:i<l.length):(strs l)[i]?=some (.string (l.getD i noStr)):=by simp [strs,h]
def SlP (w:World) (v:Value) (l:List (ByteArray×ByteArray)):Prop:=SlV 2 w v l.length (prs l)
def SlS (w:World) (v:Value) (l:List ByteArray):Prop:=SlV 1 w v l.length (strs l)
def SlU (w:World) (v:Value) (l:List Int):Prop:=SlV 1 w v l.length (u32s l)
theorem SlP.nil (w:World):SlP w (.slice none 0 0) []:=SlV.nil 2 w
theorem SlS.nil (w:World):SlS w (.slice none 0 0) []:=SlV.nil 1 w
theorem SlU.nil (w:World):SlU w (.slice none 0 0) []:=SlV.nil 1 w
theorem SlP.cells {w:World} {b off n cap:Nat} {l:List (ByteArray×ByteArray)} (hn:l.length=n) (h:SlP w (.slice (some ⟨b,off,none⟩) n cap) l) (i:Nat) (hi:i<n) :
  w.cell? ⟨b,off+i * 2,none⟩=some (.string (l.getD i (noStr,noStr)).1)∧w.cell? ⟨b,off+i * 2+1,none⟩=some (.string (l.getD i (noStr,noStr)).2):=by
 subst hn
 obtain ⟨b',off',hp,hs⟩:=SlV.at h (by omega)
 simp only [Option.some.injEq,Addr.mk.injEq] at hp
 obtain ⟨rfl,rfl,_⟩:=hp
 obtain ⟨h1,h2⟩:=prs_at l i hi
 exact ⟨hs _ _ h1,by rw [Nat.add_assoc];exact hs _ _ h2⟩
theorem SlS.cells {w:World} {b off n cap:Nat} {l:List ByteArray} (hn:l.length=n) (h:SlS w (.slice (some ⟨b,off,none⟩) n cap) l) (i:Nat) (hi:i<n) :
  w.cell? ⟨b,off+i,none⟩=some (.string (l.getD i noStr)):=by
 subst hn
 obtain ⟨b',off',hp,hs⟩:=SlV.at h (by omega)
 simp only [Option.some.injEq,Addr.mk.injEq] at hp
 obtain ⟨rfl,rfl,_⟩:=hp
 exact hs _ _ (strs_at l i hi)
theorem SlU.cells {w:World} {b off n cap:Nat} {l:List Int} (hn:l.length=n) (h:SlU w (.slice (some ⟨b,off,none⟩) n cap) l) (i:Nat) (hi:i<n) :
  w.cell? ⟨b,off+i,none⟩=some (.int .u32 (l.getD i 0)):=by
 subst hn
 obtain ⟨b',off',hp,hs⟩:=SlV.at h (by omega)
 simp only [Option.some.injEq,Addr.mk.injEq] at hp
 obtain ⟨rfl,rfl,_⟩:=hp
 exact hs _ _ (u32s_get l i hi)
theorem SlP.at {w:World} {p:Option Addr} {n cap:Nat} {l:List (ByteArray×ByteArray)} (h:SlP w (.slice p n cap) l) (hn:l.length=n) (h0:0<n):∃b off,p=some ⟨b,off,none⟩:=by
 subst hn
 obtain ⟨b,off,hp,_⟩:=SlV.at h h0
 exact ⟨b,off,hp⟩
theorem SlS.at {w:World} {p:Option Addr} {n cap:Nat} {l:List ByteArray} (h:SlS w (.slice p n cap) l) (hn:l.length=n) (h0:0<n):∃b off,p=some ⟨b,off,none⟩:=by
 subst hn
 obtain ⟨b,off,hp,_⟩:=SlV.at h h0
 exact ⟨b,off,hp⟩
theorem SlU.at {w:World} {p:Option Addr} {n cap:Nat} {l:List Int} (h:SlU w (.slice p n cap) l) (hn:l.length=n) (h0:0<n):∃b off,p=some ⟨b,off,none⟩:=by
 subst hn
 obtain ⟨b,off,hp,_⟩:=SlV.at h h0
 exact ⟨b,off,hp⟩
theorem aD {B:Nat} {w0 w w':World} (h:Below B w0 w) (hB:B≤w.heap.size) (hm:Below w.heap.size w w'):Below B w0 w':=h.trans (hm.mono hB)
theorem ej {w:World} {base:Nat} {e:TypeId} {K:Nat} {v:Value} {n:Nat} {cs:List Value} (h:w.ownsRow base e K v n cs):SlV K w v n cs:=by
 have h0:=h
 obtain ⟨hl,h2⟩:=h
 rcases h2 with ⟨rfl,hn⟩|⟨g,cap,cur,rfl,hb,hh,hn,_,_,_⟩
 ·exact ⟨none,0,by rw [hn],by omega,hl,fun h=>absurd h (by omega)⟩
 ·refine ⟨_,cap,rfl,hn,hl,fun _=>⟨g,0,rfl,fun j u hu=>?_⟩⟩
  have:=World.ownsRow.cells h0 rfl j u hu
  rw [bn] at this
  exact this
theorem aq {w w':World} {base:Nat} {e:TypeId} {K:Nat} {v:Value} {n:Nat} {cs:List Value} (h:w.ownsRow base e K v n cs) (hb:Below w.heap.size w w'):w'.ownsRow base e K v n cs :=
 World.ownsRow.kept h (an hb) (by cases h':v.ownBlock<;>simp)
theorem er {B:Nat} {w0 w w':World} {e:TypeId} {K:Nat} {v:Value} {n:Nat} {cs:List Value} (hb:Below B w0 w) (hB:B≤w.heap.size) (h:w.ownsRow B e K v n cs) (hg:w.grownBy w' v.ownBlock):Below B w0 w':=by
 refine ⟨hg.os.trans hb.os,hg.tape.trans hb.tape,hg.output.trans hb.output,Nat.le_trans hb.size hg.size,fun k hk=>?_⟩
 refine (hg.block k (Nat.lt_of_lt_of_le hk hB) (fun he=>?_)).trans (hb.block k hk)
 have:=(World.ownsRow.lt h k he.symm).1
 omega
def SlR (B:Nat) (w:World) (v:Value) (cs:List Int):Prop :=
 ∃p cap,v=.slice p cs.length cap∧cs.length≤cap∧(0<cs.length→∃b off,p=some ⟨b,off,none⟩∧Seg w b off cs∧(b<B∨∃l,Row w b l 5))
theorem SlR.old {B:Nat} {w:World} {v:Value} {cs:List Int} (h:SlR B w v cs):SlOld w v cs:=by
 obtain ⟨p,cap,hv,hc,hs⟩:=h
 exact ⟨p,cap,hv,hc,fun h0=>by obtain ⟨b,off,hp,hseg,_⟩:=hs h0;exact ⟨b,off,hp,hseg⟩⟩
theorem SlR.of_row {B:Nat} {w:World} {g n:Nat} {cs:List Int} (hr:Row w g (u8s cs) 5) (hn:cs.length=n):SlR B w (.slice (some ⟨g,0,none⟩) n n) cs :=
 ⟨_,n,by rw [hn],by omega,fun _=>⟨g,0,rfl,Seg.row hr,Or.inr ⟨_,hr⟩⟩⟩
theorem SlR.below {B:Nat} {w w':World} {v:Value} {cs:List Int} (h:SlR B w v cs) (hb:Below w.heap.size w w'):SlR B w' v cs:=by
 obtain ⟨p,cap,hv,hc,hs⟩:=h
 refine ⟨p,cap,hv,hc,fun h0=>?_⟩
 obtain ⟨b,off,hp,hseg,hr⟩:=hs h0
 refine ⟨b,off,hp,hseg.below hb,?_⟩
 rcases hr with h1|⟨l,h1⟩
 ·exact Or.inl h1
 ·exact Or.inr ⟨l,h1.below' hb⟩
theorem SlR.grown {B:Nat} {w w':World} {v:Value} {cs:List Int} {e:TypeId} {K:Nat} {o:Value} {n:Nat} {xs:List Value} (h:SlR B w v cs) (ho:w.ownsRow B e K o n xs) (he:5≠e) (hg:w.grownBy w' o.ownBlock):SlR B w' v cs:=by
 obtain ⟨p,cap,hv,hc,hs⟩:=h
 refine ⟨p,cap,hv,hc,fun h0=>?_⟩
 obtain ⟨b,off,hp,hseg,hr⟩:=hs h0
 have hne:some b≠o.ownBlock:=by
  rcases hr with h1|⟨l,h1⟩
  ·intro h2
   have:=(World.ownsRow.lt ho b h2.symm).1
   omega
  ·obtain ⟨_,h2⟩:=ho
   rcases h2 with ⟨rfl,_⟩|⟨g',cap',cur,rfl,_,hh,_⟩
   ·simp [Value.ownBlock]
   ·intro h3
    have hg':g'=b:=by simpa [Value.ownBlock] using h3.symm
    subst hg'
    rw [h1] at hh
    simp only [Option.some.injEq,Obj.cells.injEq] at hh
    exact he hh.2.1
 have hb:=hg.block b (hseg.lt h0) hne
 refine ⟨b,off,hp,fun j hj=>?_,?_⟩
 ·rw [World.cell?_of_block (w:=w) hb];exact hseg j hj
 ·rcases hr with h1|⟨l,h1⟩
  ·exact Or.inl h1
  ·exact Or.inr ⟨l,by unfold Row;rw [hb];exact h1⟩
section
variable {P:Program} {ops:Array Oper} {rest:List Oper} {a:Act} {w w0:World} {Q:Exit→Act→World→Prop} {dst:Option Tmp} {typ:TypeId} {pos:String} {aft:Array Edge} {gd:Option (Nat×Bool)} {S:List Nat} {rows:List (Nat×List Value×TypeId)}
theorem bg {s x:Operand} {t e:TypeId} (z:Value) (K bytes:Nat) (hw:Region.wanted {dst:=dst,op:=.call {callee:=.builtin .append,args:=#[s,x],argTypes:=#[t,t]},type:=typ,pos:=pos,after:=aft,guard:=gd} (yielded ops a.tmps)=true)
  (ht:P.underlying t=some (.slice e)) (hi:(P.info? e).map (fun i=>(i.zero,i.size,i.bytes))=some (some z,K,bytes)) (hz:z.cells.size=K) (hK0:0<K) (hby:bytes≤100) {v:Value} {n base g:Nat} {cs new:List Value} (hown:w.ownsRow base e K v n cs) (hbase:base≤w.heap.size)
  (hs:a.eval s=v) (hx:a.eval x=.slice (some ⟨g,0,none⟩) 1 1) (hr:Row w g new e) (hl:new.length=K) (h1:∀u∈new,u.oneCell'=true) (hn:n≤100000)
  (h:∀v' w',w'.ownsRow base e K v' (n+1) (cs++new)→w.grownBy w' v.ownBlock→(v'.ownBlock=v.ownBlock∨v'.ownBlock=some w.heap.size)→wpList P ops Q rest (a.put dst v') w') :
  wpList P ops Q ({dst:=dst,op:=.call {callee:=.builtin .append,args:=#[s,x],argTypes:=#[t,t]},type:=typ,pos:=pos,after:=aft,guard:=gd}::rest) a w:=by
 cases hq:P.info? e with
 | none=>simp [hq] at hi
 | some i =>
  simp only [hq,Option.map_some,Option.some.injEq,Prod.mk.injEq] at hi
  obtain ⟨hz1,h2,h3⟩:=hi
  have hbd:(n+1) * bytes≤140737488355328:=by
   have:=Nat.mul_le_mul (show n+1≤100001 by omega) hby
   omega
  obtain ⟨v',w',hrun,ho,hg,_,hb⟩:=run_append_own_at (P:=P) w base t typ e i z K bytes ht hq hz1 h2 h3 hz hK0 v n cs hown ⟨g,0,none⟩ 1 1 new (by rw [hl];omega) (fun j u hu=>by rw [bn,Nat.zero_add,hr.cell j];exact hu) h1 (by unfold maxLen;omega) hbd hbase
  refine wpList_step fun K hK=>?_
  rw [if_pos hw]
  have hh:=hK _ _ (h v' w' ho hg hb)
  unfold Oper.wp execOp
  simp only [resolve,invoke,builtin,Sem.run_bind,Sem.run_pure,Result.andThen_ok,List.map_toArray,List.map_cons,List.map_nil,hs,hx,hrun]
  exact hh
end
theorem eS:∀(l:List Value) (k:Nat) (cs:Array Value) (i:Nat),((l.zipIdx k).foldl (fun cs (p:Value×Nat)=>cs.setIfInBounds p.2 p.1) cs)[i]?=if k≤i∧i<k+l.length∧i<cs.size then l[i - k]? else cs[i]?
 | [],k,cs,i=>by
  rw [if_neg (by simp;omega)]
  rfl
 | x::r,k,cs,i=>by
  rw [List.zipIdx_cons,List.foldl_cons,eS r (k+1)]
  simp only [Array.size_setIfInBounds,List.length_cons]
  by_cases h1:k+1≤i∧i<k+1+r.length∧i<cs.size
  ·rw [if_pos h1,if_pos (by omega),show i - k=(i - (k+1))+1 by omega,List.getElem?_cons_succ]
  ·rw [if_neg h1,Array.getElem?_setIfInBounds]
   by_cases h2:k=i
   ·subst h2
    by_cases h3:k<cs.size
    ·simp [h3]
    ·simp [h3]
   ·rw [if_neg h2,if_neg (by omega)]
theorem eV {P:Program} (w:World) (g off n:Nat) (ty:TypeId) (cs:List Value) (d:TypeDesc) (hc:∀j v,cs[j]?=some v→w.cell? ⟨g,off+j,none⟩=some v) (hu:P.underlying ty=some d)
  (hd:(match d with | .struct _ | .array _ _=>true|_=>false)=true) (hi:(P.info? ty).map (·.size)=some n) (hn:cs.length=n) :
  (loadVar ty ⟨g,off,none⟩).run P w=.ok (.agg cs.toArray) w:=by
 have hl:(loadCells ⟨g,off,none⟩ cs.length).run P w=.ok cs.toArray w :=
  run_loadCells_list (P:=P) w ⟨g,off,none⟩ cs (fun j v hv=>by rw [bn];exact hc j v hv)
 rw [hn] at hl
 cases hq:P.info? ty with
 | none=>simp [hq] at hi
 | some q =>
  have hs:q.size=n:=by simpa [hq] using hi
  have ha:(isAgg ty).run P w=.ok true w:=by
   cases d<;>simp_all [isAgg,run_underlying hu]
  simp [loadVar,ha,sizeOf,typeInfo,hq,hs,hl]
section
variable {ops:Array Oper} {rest:List Oper} {a:Act} {w w0:World} {Q:Exit→Act→World→Prop} {dst:Option Tmp} {typ:TypeId} {pos:String} {aft:Array Edge} {gd:Option (Nat×Bool)} {S:List Nat} {rows:List (Nat×List Value×TypeId)}
theorem ar {ty:TypeId} {x:Operand} {b j:Nat} (v:Value) (hc:w.cell? ⟨b,j,none⟩=some v) (hx:a.eval x=.pointer (some ⟨b,j,none⟩)) (ha:∀w,(isAgg ty).run Tryz.prog w=.ok false w) :
  (execOp a.eval {dst:=dst,op:=.load ty x,type:=typ,pos:=pos,after:=aft,guard:=gd}).run Tryz.prog w=.ok (.value v) w:=by
 have hld:(loadVar ty ⟨b,j,none⟩).run Tryz.prog w=.ok v w:=by simp [loadVar,ha,go_sem,hc]
 unfold execOp
 simp only [hx,Instr.loadAt,Instr.sureAddr,Sem.run_bind,Sem.run_pure,Result.andThen_ok,hld]
end
open Go Go.RowKit
theorem index_no {c:UInt8}:∀ {l:List UInt8},c ∉ l→Lib.index l [c] = -1
 | [],_=>rfl
 | x::l,h=>by
  rw [Lib.index_one,Lib.indexByte]
  have hx:(x==c)=false:=beq_eq_false_iff_ne.2 (fun e=>h (by simp [e]))
  have ih:=index_no (c:=c) (l:=l) (fun hc=>h (List.mem_cons_of_mem _ hc))
  rw [Lib.index_one] at ih
  simp [hx,ih]
theorem fa {c:UInt8} (t:List UInt8):∀ {a:List UInt8},c ∉ a→Lib.index (a++c::t) [c]=(a.length:Int)
 | [],_=>by rw [Lib.index_one];simp [Lib.indexByte]
 | x::a,h=>by
  have hx:(x==c)=false:=beq_eq_false_iff_ne.2 (fun e=>h (by simp [e]))
  have ih:=fa (c:=c) t (a:=a) (fun hc=>h (List.mem_cons_of_mem _ hc))
  rw [Lib.index_one] at ih ⊢
  rw [List.cons_append,Lib.indexByte,hx,ih]
  have:¬((a.length:Int) == -1)=true:=by rw [beq_iff_eq];omega
  rw [if_neg (by simp),if_neg this]
  simp
theorem e8 (c:UInt8):∀(k:Nat) (l:List UInt8),(cut c l).length≤k+1→Lib.splitK [c] 0 k l=cut c l
 | 0,l,h=>by
  by_cases hc:c∈l
  ·obtain ⟨a,t,rfl,hn⟩:=eY c l hc
   rw [cw c hn] at h
   have:=List.length_pos_iff.2 (dE c t)
   simp at h
   exact absurd h (dE c t)
  ·rw [db c hc];rfl
 | k+1,l,h=>by
  by_cases hc:c∈l
  ·obtain ⟨a,t,rfl,hn⟩:=eY c l hc
   rw [cw c hn] at h ⊢
   rw [Lib.splitK,fa t hn,if_neg (show ¬(((a.length:Nat):Int) == -1)=true by rw [beq_iff_eq];omega)]
   have e:(a++c::t).drop (a.length+1)=t:=by
    rw [show a++c::t=(a++[c])++t by simp,show a.length+1=(a++[c]).length by simp,List.drop_left]
   simp only [Int.toNat_natCast,Nat.add_zero,List.length_cons,List.length_nil,Nat.zero_add,List.take_left,e]
   rw [e8 c k t (by simpa using h)]
  ·rw [db c hc,Lib.splitK,index_no hc,if_pos (by rfl)]
theorem eu (c:UInt8):∀(k:Nat) (l:List UInt8),k+1<(cut c l).length→(Lib.splitK [c] 0 k l).length=k+1
 | 0,l,_=>rfl
 | k+1,l,h=>by
  by_cases hc:c∈l
  ·obtain ⟨a,t,rfl,hn⟩:=eY c l hc
   rw [cw c hn] at h
   rw [Lib.splitK,fa t hn,if_neg (show ¬(((a.length:Nat):Int) == -1)=true by rw [beq_iff_eq];omega)]
   have e:(a++c::t).drop (a.length+1)=t:=by
    rw [show a++c::t=(a++[c])++t by simp,show a.length+1=(a++[c]).length by simp,List.drop_left]
   simp only [Int.toNat_natCast,Nat.add_zero,List.length_cons,List.length_nil,Nat.zero_add,e]
   rw [eu c k t (by simpa using h)]
  ·rw [db c hc] at h;simp at h
/-- What the program parts into four at most, and what it is made of. -/
theorem parts_ok (c:UInt8) (s:ByteArray):(okSegs ((Lib.splitB (mkS [c]) 0 (min 4 (s.size+1) - 1) s).map bs)=okSegs (cut c (bs s)))∧(okSegs (cut c (bs s))=true→(Lib.splitB (mkS [c]) 0 (min 4 (s.size+1) - 1) s).map bs=cut c (bs s)):=by
 have e:(Lib.splitB (mkS [c]) 0 (min 4 (s.size+1) - 1) s).map bs=Lib.splitK [c] 0 (min 4 (s.size+1) - 1) (bs s):=Lib.splitB_data (mkS [c]) 0 _ s
 rw [e]
 have hle:=dC c (bs s)
 rw [aV] at hle
 by_cases h:(cut c (bs s)).length≤(min 4 (s.size+1) - 1)+1
 ·rw [e8 c _ _ h];exact ⟨rfl,fun _=>rfl⟩
 ·have h4:min 4 (s.size+1) - 1=3:=by omega
  have hl:=eu c (min 4 (s.size+1) - 1) (bs s) (by omega)
  rw [h4] at hl h ⊢
  have e1:okSegs (cut c (bs s))=false:=by unfold okSegs;rw [decide_eq_false (by omega)];rfl
  have e2:okSegs (Lib.splitK [c] 0 3 (bs s))=false:=by unfold okSegs;rw [decide_eq_false (by omega)];rfl
  rw [e1,e2]
  exact ⟨rfl,fun h=>by cases h⟩
def plv (ks:List ByteArray):List Value:=[.string (ks.getD 0 noStr),.string (ks.getD 1 noStr),.string (ks.getD 2 noStr)]
structure PlOk (ks:List ByteArray):Prop where
 len:ks.length≤3
 seg:∀k∈ks,seg (bs k)=true
theorem PlOk.of {ks:List ByteArray} (h:okSegs (ks.map bs)=true):PlOk ks:=by
 have:=cR h
 exact ⟨by simpa using this.1,fun k hk=>this.2 (bs k) (List.mem_map_of_mem hk)⟩
theorem PlOk.to {ks:List ByteArray} (h:PlOk ks):okSegs (ks.map bs)=true :=
 okSegs_mk (by simpa using h.len) (fun k hk=>by obtain ⟨x,hx,rfl⟩:=List.mem_map.1 hk;exact h.seg x hx)
theorem PlOk.nil:PlOk []:=⟨by simp,fun k hk=>by cases hk⟩
theorem PlOk.size {ks:List ByteArray} (h:PlOk ks) {k:ByteArray} (hk:k∈ks):1≤k.size∧k.size≤10:=by
 have:=cK (h.seg k hk)
 rw [aV] at this
 exact ⟨this.1,this.2.1⟩
theorem PlOk.drop {ks:List ByteArray} (h:PlOk ks):PlOk ks.dropLast :=
 ⟨by have:=h.len;simp;omega,fun k hk=>h.seg k (List.dropLast_subset ks hk)⟩
theorem PlOk.at {ks:List ByteArray} (h:PlOk ks) {i:Nat} (hi:i<ks.length):ks.getD i noStr≠noStr:=by
 have e:ks.getD i noStr=ks[i]:=by simp [hi]
 rw [e]
 intro hc
 have:=(h.size (List.getElem_mem hi)).1
 rw [hc] at this
 exact absurd this (by decide)
theorem plv_inj {ks qs:List ByteArray} (h:PlOk ks) (h2:PlOk qs) (he:plv ks=plv qs):ks=qs:=by
 simp only [plv,List.cons.injEq,Value.string.injEq,and_true] at he
 obtain ⟨e0,e1,e2⟩:=he
 have hl:ks.length=qs.length:=by
  have l1:=h.len
  have l2:=h2.len
  have key:∀i,i<3→(i<ks.length↔i<qs.length):=by
   intro i hi
   have e:ks.getD i noStr=qs.getD i noStr:=by
    rcases (show i=0∨i=1∨i=2 by omega) with rfl|rfl|rfl
    ·exact e0
    ·exact e1
    ·exact e2
   constructor
   ·intro hk
    refine Decidable.byContradiction fun hq=>h.at hk ?_
    rw [e];simp [List.getElem?_eq_none (show qs.length≤i by omega)]
   ·intro hq
    refine Decidable.byContradiction fun hk=>h2.at hq ?_
    rw [←e];simp [List.getElem?_eq_none (show ks.length≤i by omega)]
  have k0:=key 0 (by omega)
  have k1:=key 1 (by omega)
  have k2:=key 2 (by omega)
  omega
 apply List.ext_getElem hl
 intro i h1 h2'
 have l1:=h.len
 have e:ks.getD i noStr=qs.getD i noStr:=by
  rcases (show i=0∨i=1∨i=2 by omega) with rfl|rfl|rfl
  ·exact e0
  ·exact e1
  ·exact e2
 simpa [h1,h2'] using e
/-- How many segments, as slices.Index tells it. -/
theorem idx_pl {ks:List ByteArray} (h:PlOk ks):Lib.idxOfS ([ks.getD 0 noStr,ks.getD 1 noStr,ks.getD 2 noStr].take 3) noStr=if ks.length=3 then -1 else (ks.length:Int):=by
 have l1:=h.len
 split
 ·next h3 =>
  refine Lib.idxOfS_miss _ 3 _ fun j hj=>?_
  rcases (show j=0∨j=1∨j=2 by omega) with rfl|rfl|rfl
  ·exact h.at (by omega)
  ·exact h.at (by omega)
  ·exact h.at (by omega)
 ·next h3 =>
  refine Lib.idxOfS_hit _ 3 ks.length _ (by omega) (by simp) ?_ fun j hj=>?_
  ·have e:∀i,ks.length≤i→ks.getD i noStr=noStr:=fun i hi=>by simp [List.getElem?_eq_none hi]
   rcases (show ks.length=0∨ks.length=1∨ks.length=2 by omega) with hl|hl|hl
   ·rw [hl];exact e 0 (by omega)
   ·rw [hl];exact e 1 (by omega)
   ·rw [hl];exact e 2 (by omega)
  ·rcases (show j=0∨j=1∨j=2 by omega) with rfl|rfl|rfl
   ·exact h.at (by omega)
   ·exact h.at (by omega)
   ·exact h.at (by omega)
def plk (xs:List ByteArray) (k:Nat):List Value:=plv (xs.take k)
theorem plk_set (xs:List ByteArray) (k:Nat) (hk:k<xs.length) (hl:xs.length≤3):(plk xs k).set k (.string (xs.getD k noStr))=plk xs (k+1):=by
 unfold plk
 rcases (show k=0∨k=1∨k=2 by omega) with rfl|rfl|rfl
 ·match xs,hk with
  | a::r,_=>rfl
 ·match xs,hk with
  | a::b::r,_=>rfl
 ·match xs,hk with
  | a::b::c::r,_=>rfl
theorem plv_drop {ks:List ByteArray} (hl:ks.length≤3) (h0:ks≠[]):(plv ks).set (ks.length - 1) (.string noStr)=plv ks.dropLast:=by
 match ks,h0,hl with
 | [a],_,_=>rfl
 | [a,b],_,_=>rfl
 | [a,b,c],_,_=>rfl
open Go Go.RowKit
theorem sod_any (x:Int) (w:World):Calls Tryz.prog 108 #[.int .u8 x] w fun e w'=>e=.returned (.bool (okc x))∧w'=w:=by
 by_cases h1:97≤x<;>by_cases h2:x≤122<;>by_cases h3:48≤x<;>by_cases h4:x≤57 <;>
 ·go_enter Tryz.func108,Tryz.ntmps108
  go_wp2
  go_ret
  exact ⟨by simp [okc,h1,h2,h3,h4],rfl⟩
theorem byte_at (s:ByteArray) (k:Nat) (h:k<s.size):∃b,s.data[k]?=some b∧(bs s)[k]?=some b:=by
 have h':k<s.data.size:=h
 exact ⟨s.data[k],by simp,by simp [bs]⟩
theorem segment_long (s:ByteArray) (w:World) (h:s.size<1∨10<s.size):Calls Tryz.prog 80 #[.string s] w fun e w'=>e=.returned (.bool false)∧w'=w:=by
 obtain ⟨n,hn⟩:∃n:Nat,n=s.size:=⟨_,rfl⟩
 rw [←hn] at h
 go_enter Tryz.func80,Tryz.ntmps80
 rcases h with h|h
 ·have h1:(s.size:Int)<1:=by omega
  go_wp2
  go_ret
  exact ⟨rfl,rfl⟩
 ·have h1:¬(s.size:Int)<1:=by omega
  have h2:(10:Int)<(s.size:Int):=by omega
  go_wp2
  go_ret
  exact ⟨rfl,rfl⟩
theorem fe {l:List UInt8} {k:Nat} {b:UInt8} (h:(l.take k).all okU=true) (hb:l[k]?=some b) (ho:okU b=true):(l.take (k+1)).all okU=true:=by
 rw [List.take_add_one,hb]
 simp [List.all_append,h,ho]
theorem ew (s:ByteArray) (w:World):Calls Tryz.prog 80 #[.string s] w fun e w'=>e=.returned (.bool (seg (bs s)))∧w'=w:=by
 by_cases hlen:s.size<1∨10<s.size
 ·refine (segment_long s w hlen).mono ?_
  rintro e w' ⟨he,hw⟩
  refine ⟨?_,hw⟩
  rw [he]
  have:seg (bs s)=false:=by
   unfold seg
   rw [aV]
   rcases hlen with h|h
   ·rw [decide_eq_false (by omega)];rfl
   ·rw [decide_eq_false (show ¬s.size≤10 by omega)];simp
  rw [this]
 ·have h1:¬(s.size:Int)<1:=by omega
  have h2:¬(10:Int)<(s.size:Int):=by omega
  have HL:Hid (∀_:Unit,1≤s.size∧s.size≤10):=fun _=>by omega
  obtain ⟨n,hn⟩:∃n:Nat,n=s.size:=⟨_,rfl⟩
  have HN:Hid (∀_:Unit,n=s.size):=fun _=>hn
  have hn10:n≤10:=by omega
  clear hlen hn
  go_enter Tryz.func80,Tryz.ntmps80
  go_wp2_with fail
  go_loopw [14] (fun vi wr=>∃k:Nat,k≤n∧vi=.int .i64 (k:Int)∧Hid (((bs s).take k).all okU=true)∧wr=w) (fun vi _=>n - (intOf vi).toNat)
  case atStart=>exact ⟨0,by omega,rfl,rfl,rfl⟩
  case round =>
   obtain ⟨k,hk,rfl,HA,rfl⟩:=hrel
   by_cases hlt:k<n
   ·have hki:(k:Int)<(s.size:Int):=by have:=HN.out ();omega
    obtain ⟨b,hb,hb2⟩:=byte_at s k (by have:=HN.out ();omega)
    obtain ⟨r,hr⟩:∃r,r=okU b:=⟨_,rfl⟩
    have HB:Hid (∀_:Unit,∃c,s.data[k]?=some c∧(c.toNat:Int)=(b.toNat:Int)):=fun _=>⟨b,hb,rfl⟩
    have HB2:Hid (∀_:Unit,(bs s)[k]?=some b∧r=okU b):=fun _=>⟨hb2,hr⟩
    obtain ⟨x,hx⟩:∃x:Int,x=(b.toNat:Int):=⟨_,rfl⟩
    rw [←hx] at HB
    have HX:Hid (∀_:Unit,okc x=r):=fun _=>by rw [hr,hx];rfl
    clear hb hb2 hr hx
    cases r with
    | true =>
     go_wp2_with (first
      | ((with_reducible refine ab (some 19) (.index 9 (.tmp 17) (.tmp 18)) ?_);refine ck aF s k x rfl rfl rfl (HB.out ()) ?_)
      | (go_at_call 108;refine (sod_any x _).mono ?_;rintro e w' ⟨he,hw⟩;rw [HX.out ()] at he;subst he;subst hw))
     go_roundw
     case rel=>exact ⟨k+1,by omega,by go_num,fe HA.out (HB2.out ()).1 (HB2.out ()).2.symm,by first|rfl|trivial⟩
     case measure=>simp [intOf];omega
    | false =>
     go_wp2_with (first
      | ((with_reducible refine ab (some 19) (.index 9 (.tmp 17) (.tmp 18)) ?_);refine ck aF s k x rfl rfl rfl (HB.out ()) ?_)
      | (go_at_call 108;refine (sod_any x _).mono ?_;rintro e w' ⟨he,hw⟩;rw [HX.out ()] at he;subst he;subst hw))
     go_ret
     refine ⟨?_,rfl⟩
     have:seg (bs s)=false:=by
      have hall:(bs s).all okU=false:=by
       rw [List.all_eq_false]
       exact ⟨b,List.mem_of_getElem? (HB2.out ()).1,by rw [←(HB2.out ()).2];simp⟩
      unfold seg
      rw [hall];simp
     rw [this]
     rfl
   ·have hki:¬(k:Int)<(s.size:Int):=by have:=HN.out ();omega
    go_wp2_with fail
    go_ret
    refine ⟨?_,rfl⟩
    have hlen:=HL.out ()
    have hall:(bs s).all okU=true:=by
     have:=HA.out
     rw [List.take_of_length_le (by rw [aV];have:=HN.out ();omega)] at this
     exact this
    have:seg (bs s)=true:=by
     unfold seg
     rw [hall,aV,decide_eq_true hlen.1,decide_eq_true hlen.2];rfl
    rw [this]
    rfl
theorem bC (w:World):Calls Tryz.prog 50 #[] w fun e w'=>e=.returned (.agg (plv []).toArray)∧Below w.heap.size w w':=by
 have hm:=Mem.start w
 go_enter Tryz.func50,Tryz.ntmps50
 go_wp2_with (first
  | ((with_reducible refine ab (some 0) (.alloc 93) ?_);refine ae _ a8 hm ?_;clear hm;intro w1 g1 hm)
  | ((with_reducible refine ab (some 1) (.build 93 #[]) ?_);refine az [.string ByteArray.empty,.string ByteArray.empty,.string ByteArray.empty] [] rfl (by kernel_rfl) ?_)
  | ((with_reducible refine ab none (.store 93 (.tmp 0) (.tmp 1)) ?_);refine af 0 [.string ByteArray.empty,.string ByteArray.empty,.string ByteArray.empty] hm rfl rfl rfl 3 aK (by rfl) (by rfl) (by decide) ?_;clear hm;intro w2 hm))
 refine ct 0 hm rfl Tryz.results50 rfl _ bc rfl 3 aK rfl rfl ?_
 exact ⟨rfl,hm.below⟩
end Go.Proofs.YtdmohffogfbnbaaGreatDoor
