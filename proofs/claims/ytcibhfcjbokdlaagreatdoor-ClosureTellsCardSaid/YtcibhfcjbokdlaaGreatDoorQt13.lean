import Derived.Deep.LoopGhost
import Derived.Test.YtcibhfcjbokdlaaGreatDoorQt12
import Derived.Test.YtcibhfcjbokdlaaGreatDoorQt02
import Derived.Test.YtcibhfcjbokdlaaGreatDoorQt09
set_option maxRecDepth 100000
set_option maxHeartbeats 4000000
namespace Go.Proofs.YtcibhfcjbokdlaaGreatDoor
open Go Go.RowKit Go.Maps Go.Sort
def encT (x:Tm) (v:Value):List Value:=.string (mkS (txt x))::tcs x v
def prL (xs:List Tm) (s:Nat→Value):List Value:=xs.zipIdx.flatMap fun p=>encT p.1 (s p.2)
theorem flat_getV {α:Type} (f:α→List Value) (K:Nat) (hK:∀x,(f x).length=K):∀(l:List α) (i:Nat) (a:α),l[i]?=some a→∀j,j<K→(l.flatMap f)[i * K+j]?=(f a)[j]?:=by
 intro l
 induction l with
 | nil=>intro i a h;simp at h
 | cons x l ih =>
  intro i a h j hj
  rw [List.flatMap_cons]
  cases i with
  | zero =>
   simp only [List.getElem?_cons_zero,Option.some.injEq] at h
   subst h
   rw [Nat.zero_mul,Nat.zero_add,List.getElem?_append_left (by rw [hK];exact hj)]
  | succ i =>
   rw [Nat.succ_mul,List.getElem?_append_right (by rw [hK];omega),hK,show i * K+K+j - K=i * K+j by omega]
   exact ih i a (by simpa using h) j hj
theorem prL_snoc {xs:List Tm} {k:Nat} {x:Tm} (hx:xs[k]?=some x) (s:Nat→Value):prL (xs.take (k+1)) s=prL (xs.take k) s++encT x (s k):=by
 have hk:=(List.getElem?_eq_some_iff.1 hx).1
 unfold prL
 rw [List.take_add_one,hx,Option.toList_some,List.zipIdx_append,List.flatMap_append,List.length_take]
 simp [Nat.min_eq_left (Nat.le_of_lt hk)]
theorem prL_get {xs:List Tm} {i:Nat} {x:Tm} (hx:xs[i]?=some x) (s:Nat→Value) {j:Nat} {v:Value} (hv:(encT x (s i))[j]?=some v):(prL xs s)[i * 4+j]?=some v:=by
 have hj:j<4:=(List.getElem?_eq_some_iff.1 hv).1
 rw [prL,flat_getV _ 4 (fun _=>rfl) _ i (x,i) (by rw [List.getElem?_zipIdx,hx];simp) j hj]
 exact hv
def fnT (xs:List Tm) (s:Nat→Value) (b:ByteArray):List Value:=match xs[xs.findIdx fun y=>decide (txt y=bs b)]? with
 | some x=>tcs x (s (xs.findIdx fun y=>decide (txt y=bs b)))
 | none=>[.int .i64 0,.int .i64 0,.slice none 0 0]
def bkT (xs:List Tm) (b:ByteArray):Tm:=match xs[xs.findIdx fun y=>decide (txt y=bs b)]? with
 | some x=>x
 | none=>mkT 0 0 []
theorem fnT_len (xs:List Tm) (s:Nat→Value) (b:ByteArray):(fnT xs s b).length=3:=by unfold fnT;split<;>rfl
theorem fnT_one (xs:List Tm) (s:Nat→Value) (hs:∀i,(s i).oneCell'=true) (b:ByteArray):∀v∈fnT xs s b,v.oneCell'=true:=by
 intro v hv
 unfold fnT at hv
 split at hv
 ·simp only [tcs,List.mem_cons,List.not_mem_nil,or_false] at hv
  rcases hv with rfl|rfl|rfl
  ·rfl
  ·rfl
  ·exact hs _
 ·simp only [List.mem_cons,List.not_mem_nil,or_false] at hv
  rcases hv with rfl|rfl|rfl<;>rfl
theorem fnT_at {xs:List Tm} (hok:∀y∈xs,okT y=true) (hn:xs.Nodup) (s:Nat→Value) {i:Nat} {x:Tm} (hx:xs[i]?=some x):fnT xs s (mkS (txt x))=tcs x (s i):=by
 have h1:xs[idxT xs x]?=some x:=a7 hok (List.mem_of_getElem? hx)
 have h2:idxT xs x=i:=d8 hn h1 hx
 unfold fnT
 rw [aR]
 unfold idxT at h1 h2
 rw [h1,h2]
theorem bkT_at {xs:List Tm} (hok:∀y∈xs,okT y=true) {x:Tm} (hx:x∈xs):bkT xs (mkS (txt x))=x:=by
 have h1:xs[idxT xs x]?=some x:=a7 hok hx
 unfold bkT
 rw [aR]
 unfold idxT at h1
 rw [h1]
theorem sorted_back {xs:List Tm} (hok:∀y∈xs,okT y=true) (hn:xs.Nodup) {L':List ByteArray} (hp:L'.Perm (xs.map fun x=>mkS (txt x))) (hs:L'.Pairwise fun x y=>¬bs y<bs x) :
  ∃xs':List Tm,xs'.Perm xs∧xs'.Pairwise (fun a b=>txt a<txt b)∧L'=xs'.map fun x=>mkS (txt x):=by
 have hb:∀b∈L',∃x∈xs,b=mkS (txt x):=fun b hb=>by
  obtain ⟨x,h1,h2⟩:=List.mem_map.1 (hp.mem_iff.1 hb)
  exact ⟨x,h1,h2.symm⟩
 have h2:L'=(L'.map (bkT xs)).map fun x=>mkS (txt x):=by
  rw [List.map_map]
  conv=>lhs;rw [←List.map_id L']
  refine List.map_congr_left fun b hb'=>?_
  obtain ⟨x,h1,rfl⟩:=hb b hb'
  show mkS (txt x)=mkS (txt (bkT xs (mkS (txt x))))
  rw [bkT_at hok h1]
 have h3:(L'.map (bkT xs)).Perm xs:=by
  have h:=hp.map (bkT xs)
  rw [List.map_map] at h
  have e:xs.map (bkT xs∘fun x=>mkS (txt x))=xs:=by
   conv=>rhs;rw [←List.map_id xs]
   exact List.map_congr_left fun x hx=>bkT_at hok hx
  rw [e] at h
  exact h
 refine ⟨L'.map (bkT xs),h3,?_,h2⟩
 have h4:(L'.map (bkT xs)).Pairwise fun a b=>¬txt b<txt a:=by
  have h:=hs
  rw [h2,List.pairwise_map] at h
  exact h.imp fun {a b} h=>by rw [aR,aR] at h;exact h
 have h5:(L'.map (bkT xs)).Nodup:=(h3.nodup_iff).2 hn
 refine (List.pairwise_and_iff.2 ⟨h4,h5⟩).imp_of_mem fun {a b} ha hb' h=>?_
 rcases Decidable.em (txt a<txt b) with h6|h6
 ·exact h6
 ·exact absurd (eL (hok a (h3.mem_iff.1 ha)) (hok b (h3.mem_iff.1 hb')) (List.le_antisymm (List.not_lt.1 h.1) (List.not_lt.1 h6))) h.2
structure To (base:Nat) (w1 w:World) (b n:Nat) (xs:List Tm) (i:Nat) (cs rs:List Value):Prop where
 upd:Upd b w1 w
 own:w.ownsRow base 24 3 (.slice (some ⟨b,0,none⟩) n n) n (cs++rs)
 len:cs.length=i * 3
 tc:TC (fun q=>base≤q∧q<w1.heap.size∧q≠b) w1 (xs.take i) cs
section
variable {base:Nat} {w1 w w':World} {b n i:Nat} {xs:List Tm} {cs rs:List Value}
theorem To.keep (h:To base w1 w b n xs i cs rs) (hb:Below w.heap.size w w'):To base w1 w' b n xs i cs rs:=⟨h.upd.trans (Upd.of_below hb),aK h.own hb,h.len,h.tc⟩
theorem To.store {x:Tm} {old:List Value} {s:Value} (h:To base w1 w b n xs i cs (old++rs)) (hx:xs[i]?=some x) (hs:SlT (fun q=>base≤q∧q<w1.heap.size∧q≠b) w1 s x.l) (hu:Upd b w w') (ho:w'.ownsRow base 24 3 (.slice (some ⟨b,0,none⟩) n n) n (cs++(tcs x s++rs))):To base w1 w' b n xs (i+1) (cs++tcs x s) rs:=by
 refine ⟨h.upd.trans hu,by rw [List.append_assoc];exact ho,by rw [List.length_append,h.len,dr];omega,?_⟩
 have htk:xs.take (i+1)=xs.take i++[x]:=by rw [List.take_add_one,hx];rfl
 rw [htk]
 exact h.tc.snoc ((bH x s).2 hs)
theorem To.done (h:To base w1 w b n xs n cs rs) (hn:n=xs.length):SlT (FN base w.heap.size) w (.slice (some ⟨b,0,none⟩) n n) xs:=by
 have hl:=h.own.1
 have hr:rs=[]:=List.eq_nil_of_length_eq_zero (by rw [List.length_append,h.len] at hl;omega)
 have h2:=h.own
 rw [hr,List.append_nil] at h2
 have h3:=h.tc
 rw [hn,List.take_length] at h3
 have hk:Keeps (fun q=>base≤q∧q<w1.heap.size∧q≠b) (FN base w.heap.size) w1 w:=fun q hq=>⟨⟨hq.1,Nat.lt_of_lt_of_le hq.2.1 h.upd.size⟩,fun o u hu=>by rw [h.upd.cell (p:=⟨q,o,none⟩) hq.2.1 hq.2.2];exact hu⟩
 exact SlT.of_own h2 hn.symm (h3.keeps hk) (fun _ hb=>hb) (fun _ h4 h5=>⟨h4,h5⟩)
end
def kidV (cs:List Value) (i:Nat):Value:=match cs[i * 3+2]? with
 | some (.slice p m c)=>.slice p m c
 | _=>.slice none 0 0
theorem kidV_one (cs:List Value) (i:Nat):(kidV cs i).oneCell'=true:=by unfold kidV;split<;>rfl
theorem kidV_get {F:Nat→Prop} {w:World} {xs:List Tm} {cs:List Value} (h:TC F w xs cs) {i:Nat} {x:Tm} (hx:xs[i]?=some x):cs[i * 3]?=some (.int .i64 x.k)∧cs[i * 3+1]?=some (.int .i64 x.n)∧cs[i * 3+2]?=some (kidV cs i)∧SlT F w (kidV cs i) x.l:=by
 obtain ⟨s,h1,h2,h3,h4⟩:=h.get hx
 have h5:=(bH x s).1 h4
 obtain ⟨p,c,rfl,_⟩:=h5.len
 have e:kidV cs i=.slice p x.l.length c:=by unfold kidV;rw [h3]
 rw [e]
 exact ⟨h1,h2,h3,h5⟩
theorem un_prs:Tryz.prog.underlying 70=some (.slice 72):=Tryz.underlying70
theorem un_pr:∃fs,Tryz.prog.underlying 72=some (.struct fs):=⟨_,Tryz.underlying72⟩
theorem made_pr:(Tryz.prog.info? 72).map (fun i=>(i.zero,i.size,i.bytes))=some (some (.agg [Value.string {data:=#[]},.int .i64 0,.int .i64 0,.slice none 0 0].toArray),4,56):=by kernel_rfl
theorem info_pr:(Tryz.prog.info? 72).map (fun i=>(i.zero,i.size))=some (some (.agg [Value.string {data:=#[]},.int .i64 0,.int .i64 0,.slice none 0 0].toArray),4):=by kernel_rfl
theorem zero_pr:∀w,(zeroValue 72).run Tryz.prog w=.ok (.agg [Value.string {data:=#[]},.int .i64 0,.int .i64 0,.slice none 0 0].toArray) w:=(zero_of_info info_pr).1
theorem sz_pr:(Tryz.prog.info? 72).map (·.size)=some 4:=by kernel_rfl
theorem built_pr (s:ByteArray) (k n:Int) (p:Option Addr) (m c:Nat):Tryz.prog.built 72 [(0,.string s),(1,.agg [Value.int .i64 k,.int .i64 n,.slice p m c].toArray)]=some [Value.string s,.int .i64 k,.int .i64 n,.slice p m c].toArray:=by kernel_rfl
theorem encT_one (x:Tm) (p:Option Addr) (m c:Nat):∀v∈encT x (.slice p m c),v.oneCell'=true:=by
 intro v hv
 simp only [encT,tcs,List.mem_cons,List.not_mem_nil,or_false] at hv
 rcases hv with rfl|rfl|rfl|rfl<;>rfl
theorem run_bslP {P:Program} (w:World) {t elem:TypeId} (z l:List Value) (hu:P.underlying t=some (.slice elem)) (hi:(P.info? elem).map (fun i=>(i.zero,i.size))=some (some (.agg z.toArray),4)) (hz:z.length=4) (hl:l.length=4) :
  (Instr.buildSlice t 1 #[(0,.agg l.toArray)]).run P w=.ok (.slice (some ⟨w.heap.size,0,none⟩) 1 1) (w.alloc (.cells l.toArray elem)):=by
 obtain ⟨hz1,hs1⟩:=zero_of_info hi
 cases hq:P.info? elem with
 | none=>simp [hq] at hi
 | some qq =>
  have hs:qq.size=4:=by simpa [hq] using hs1
  have e:∀cs:Array Value,cs.size=4→List.foldl (fun (cs:Array Value) (x:Value×Nat)=>cs.setIfInBounds x.2 x.1) cs l.zipIdx=l.toArray:=by
   intro cs hcs
   apply Array.ext_getElem?
   intro i
   rw [dP l 0 cs i]
   by_cases h:i<4
   ·rw [if_pos (by omega)];simp
   ·rw [if_neg (by omega),Array.getElem?_eq_none (by omega),Array.getElem?_eq_none (by simp;omega)]
  simp [Instr.buildSlice,run_underlying hu,sizeOf,typeInfo,hq,hs,hz1,Value.cells,Instr.fill,hl,hz,newRow,newObj]
  rw [e _ (by simp)]
  rfl
section
variable {ops:Array Oper} {rest:List Oper} {a:Act} {w w0:World} {Q:Exit→Act→World→Prop} {dst:Option Tmp} {typ:TypeId} {pos:String} {aft:Array Edge} {gd:Option (Nat×Bool)} {S:List Nat} {rows:List (Nat×List Value×TypeId)}
theorem wpl_bslP {x:Operand} (l:List Value) (hl:l.length=4) (hw:Region.wanted {dst:=dst,op:=.buildSlice 70 1 #[(0,x)],type:=typ,pos:=pos,after:=aft,guard:=gd} (yielded ops a.tmps)=true) (hx:a.eval x=.agg l.toArray) (hm:Mem w0 S w rows)
  (h:∀w' g,Below w.heap.size w w'→Mem w0 S w' ((g,l,72)::rows)→wpList Tryz.prog ops Q rest (a.put dst (.slice (some ⟨g,0,none⟩) 1 1)) w') :
  wpList Tryz.prog ops Q ({dst:=dst,op:=.buildSlice 70 1 #[(0,x)],type:=typ,pos:=pos,after:=aft,guard:=gd}::rest) a w:=by
 refine wpList_step fun K hK=>?_
 rw [if_pos hw]
 have hh:=hK _ _ (h _ _ ((Below.refl _ _).alloc (Nat.le_refl _) _) (hm.alloc l 72))
 unfold Oper.wp execOp
 simp only [List.map_toArray,List.map_cons,List.map_nil,hx,run_bslP (P:=Tryz.prog) w _ l un_prs info_pr rfl hl,Sem.run_bind,Sem.run_pure,Result.andThen_ok]
 exact hh
theorem exec_ixPr {x ix:Operand} {b n cap:Nat} (i:Nat) {ii:Int} (hx:a.eval x=.slice (some ⟨b,0,none⟩) n cap) (hix:a.eval ix=.int .i64 ii) (hii:ii=(i:Int)) (hi:i<n) :
  (execOp a.eval {dst:=dst,op:=.indexAddr 70 x ix,type:=typ,pos:=pos,after:=aft,guard:=gd}).run Tryz.prog w=.ok (.value (.pointer (some ⟨b,i * 4,none⟩))) w:=by
 subst hii
 have h0:(0:Int)≤(i:Int)∧(i:Int)<(n:Int):=by omega
 unfold execOp
 simp [hx,hix,Instr.indexAt,asIntOf,run_underlying un_prs,h0,aQ]
 omega
theorem exec_ldPr {x:Operand} {b o:Nat} {l:List Value} (hl:l.length=4) (hx:a.eval x=.pointer (some ⟨b,o,none⟩)) (hc:∀j u,l[j]?=some u→w.cell? ⟨b,o+j,none⟩=some u) :
  (execOp a.eval {dst:=dst,op:=.load 72 x,type:=typ,pos:=pos,after:=aft,guard:=gd}).run Tryz.prog w=.ok (.value (.agg l.toArray)) w:=by
 obtain ⟨fs,hfs⟩:=un_pr
 unfold execOp
 simp only [hx,Instr.loadAt,Instr.sureAddr,Sem.run_bind,Sem.run_pure,Result.andThen_ok,cf w b o 4 72 _ (.struct fs) hc hfs rfl sz_pr hl]
end
theorem ord_nil (p:Option Addr) (c:Nat) (w:World):Calls Tryz.prog 33 #[.slice p 0 c] w fun e w'=>e=.returned (.slice p 0 c)∧Below w.heap.size w w':=by
 have hm:=Mem.start w
 go_enter Tryz.func33,Tryz.ntmps33
 go_wp2_with fail
 refine wp_loop_rounds 1 ?_
 rw [rounds_succ]
 go_wp2_with (go_at_call 46;refine (AnyF.slices_SortFunc_none sortP none 0 _ _).mono ?_;rintro e w' ⟨he,hw⟩;subst he hw)
 refine wp_loop_rounds 1 ?_
 rw [rounds_succ]
 go_wp2_with fail
 go_ret
 exact ⟨rfl,hm.below⟩
theorem ord_any (xs:List Tm) (v:Value) (base:Nat) (w:World) (hx:∀x∈xs,isT x=true) (hn:xs.Nodup) (hl:xs.length≤10000) (ht:Tow base w v xs) (hb:base≤w.heap.size) :
  Calls Tryz.prog 33 #[v] w fun e w'=>e=.returned v∧∃xs':List Tm,xs'.Perm xs∧xs'.Pairwise (fun a b=>txt a<txt b)∧SlT (FN base w'.heap.size) w' v xs'∧Below base w w':=by
 by_cases hxs:xs=[]
 ·subst hxs
  rcases ht with ⟨_,rfl⟩|⟨b,cs,rfl,hov,htc⟩
  ·refine (ord_nil none 0 w).mono ?_
   rintro e w' ⟨rfl,hb'⟩
   exact ⟨rfl,[],List.Perm.refl _,List.Pairwise.nil,SlT.nil,hb'.mono hb⟩
  ·refine (ord_nil (some ⟨b,0,none⟩) 0 w).mono ?_
   rintro e w' ⟨rfl,hb'⟩
   exact ⟨rfl,[],List.Perm.refl _,List.Pairwise.nil,⟨some ⟨b,0,none⟩,0,[],rfl,Nat.le_refl _,rfl,fun h=>absurd h (by simp)⟩,hb'.mono hb⟩
 obtain ⟨b,cs,rfl,hov,htc⟩:∃b cs,v=.slice (some ⟨b,0,none⟩) xs.length xs.length∧w.ownsRow base 24 3 v xs.length cs∧TC (fun q=>base≤q∧q<w.heap.size∧q≠b) w xs cs:=by
  rcases ht with ⟨h,_⟩|h
  ·exact absurd h hxs
  ·exact h
 clear ht
 obtain ⟨n,hnx⟩:∃n,n=xs.length:=⟨_,rfl⟩
 have HN:Hid (∀_:Unit,n=xs.length):=fun _=>hnx
 have hn0:0<n:=by rw [hnx];exact List.length_pos_iff.2 hxs
 have hn4:n≤10000:=by omega
 rw [←hnx] at hov ⊢
 obtain ⟨s,hs⟩:∃s:Nat→Value,s=kidV cs:=⟨_,rfl⟩
 have HS1:Hid (∀i,(s i).oneCell'=true):=fun i=>by rw [hs];exact kidV_one cs i
 have HKID:Hid (∀i x,xs[i]?=some x→SlT (fun q=>base≤q∧q<w.heap.size∧q≠b) w (s i) x.l):=fun i x hi=>by rw [hs];exact (kidV_get htc hi).2.2.2
 have HCE:Hid (∀W,Below w.heap.size w W→∀i x,xs[i]?=some x→W.cell? ⟨b,0+i * 3,none⟩=some (.int .i64 x.k)∧W.cell? ⟨b,0+i * 3+1,none⟩=some (.int .i64 x.n)∧W.cell? ⟨b,0+i * 3+2,none⟩=some (s i)):=fun W hW i x hi=>by
  obtain ⟨h1,h2,h3,_⟩:=kidV_get htc hi
  have ho:=aK hov hW
  have hc:∀j u,cs[j]?=some u→W.cell? ⟨b,0+j,none⟩=some u:=fun j u hu=>by
   have h:=ho.cells (g:=b) rfl j u hu
   rw [aQ] at h
   exact h
  rw [hs]
  exact ⟨hc _ _ h1,hc _ _ h2,hc _ _ h3⟩
 have HOV:Hid (w.ownsRow base 24 3 (.slice (some ⟨b,0,none⟩) n n) n cs):=hov
 have HIS:Hid (∀x∈xs,isT x=true):=hx
 have HND:Hid xs.Nodup:=hn
 have HBS:Hid (base≤w.heap.size):=hb
 have HBL:Hid (b<w.heap.size):=(av hov (b:=b) rfl).2
 have HO0:Hid (w.ownsRow w.heap.size 72 4 (.slice none 0 0) 0 (prL (xs.take 0) s)):=World.ownsRow_nil _ _ _ _
 clear hxs hov htc hs hx hn hb hl hnx
 go_enter Tryz.func33,Tryz.ntmps33
 go_wp2_with fail
 go_loopw [10,3] (fun vi v3 wr=>∃k:Nat,vi=.int .i64 (k:Int)∧k≤n∧Hid (wr.ownsRow w.heap.size 72 4 v3 k (prL (xs.take k) s))∧Hid (Below w.heap.size w wr)) (fun vi _ _=>n - (intOf vi).toNat)
 case atStart=>exact ⟨0,rfl,Nat.zero_le _,HO0.out,Below.refl _ _⟩
 case round =>
  clear HO0
  obtain ⟨k,rfl,hk,HO,HB⟩:=hrel
  by_cases hlt:k<n
  ·have hki:(k:Int)<(n:Int):=by omega
   obtain ⟨x,hx⟩:=aX (HN.out ()) hlt
   have HXK:Hid (xs[k]?=some x):=hx
   have hsl:=HKID.out k x hx
   obtain ⟨px,cx,hsx,_⟩:=hsl.len
   obtain ⟨mx,hmx⟩:∃m,m=x.l.length:=⟨_,rfl⟩
   rw [←hmx] at hsx
   have HSX:Hid (s k=.slice px mx cx):=hsx
   have HPR:Hid (∀W,Below w.heap.size w W→Calls Tryz.prog 45 #[.agg (tcs x (.slice px mx cx)).toArray] W fun e w'=>e=.returned (.string (mkS (txt x)))∧Below W.heap.size W w'):=fun W hW=>by
    have h:=print_any x (.slice px mx cx) W (by rw [←hsx];exact hsl.below hW)
    rw [if_pos (HIS.out x (List.mem_of_getElem? hx))] at h
    exact h
   obtain ⟨c0,c1,c2⟩:=HCE.out wr HB.out k x hx
   rw [hsx] at c2
   obtain ⟨p3,c3,hv3⟩:=bN HO.out
   subst hv3
   clear hx hsl hsx hmx
   have hm:=Mem.start wr
   go_wp2_with (first
    | ((with_reducible refine af (some 12) (.indexAddr 22 (.tmp 8) (.tmp 10)) ?_);go_must (refine aa (.pointer (some ⟨b,0+k * 3,none⟩)) rfl (ak k rfl rfl rfl hlt) ?_))
    | ((with_reducible refine af (some 13) (.load 24 (.tmp 12)) ?_);go_must (refine aa (.agg (tcs x (.slice px mx cx)).toArray) rfl (am rfl c0 c1 c2) ?_))
    | ((with_reducible refine af (some 5) (.alloc 24) ?_);go_must (refine ap _ ax hm ?_);clear hm;intro w5 g5 hm)
    | ((with_reducible refine af none (.store 24 (.tmp 5) (.tmp 13)) ?_);go_must (refine au 0 (tcs x (.slice px mx cx)) hm rfl rfl rfl 3 aj rfl rfl (aY _ _ _ _) ?_);clear hm;intro w6 hm))
   have HB46:Hid (Below wr.heap.size wr w6):=hm.below
   have HB6:Hid (Below w.heap.size w w6):=HB.out.trans (hm.below.mono HB.out.size)
   refine aq ?_
   refine ao (T:=fun W=>Row W g5 (tcs x (.slice px mx cx)) 24) (by kernel_rfl) hm ?_
   intro wc hbw hmw
   have HBC:Hid (Below w6.heap.size w6 wc):=hbw
   replace hm:Row wc g5 (tcs x (.slice px mx cx)) 24:=hmw.get 0 rfl
   clear hbw hmw
   refine aT 0 (v:=.slice p3 k c3) rfl (by kernel_rfl) rfl (fun W _=>by go_simp) hm ?_
   go_simp
   refine aT 1 (v:=.agg (tcs x (.slice px mx cx)).toArray) rfl (by kernel_rfl) rfl (fun W hW=>aB 0 (tcs x (.slice px mx cx)) hW rfl _ Tryz.underlying24 rfl 3 aj (Nat.le_refl _) rfl) hm ?_
   go_simp
   refine aT 3 (v:=.agg (tcs x (.slice px mx cx)).toArray) rfl (by kernel_rfl) rfl (fun W hW=>aB 0 (tcs x (.slice px mx cx)) hW rfl _ Tryz.underlying24 rfl 3 aj (Nat.le_refl _) rfl) hm ?_
   go_simp
   refine aO 2 (by kernel_rfl) rfl rfl ?_
   intro K hK
   go_wp2_with (go_at_call 45;go_must (refine (HPR.out wc (HB6.out.trans (HBC.out.mono HB6.out.size))).mono ?_);rintro e w7 ⟨he,hb⟩;subst he;have HB7:Hid (Below wc.heap.size wc w7):=hb;replace hm:=hm.below' hb;clear hb)
   refine hK _ _ hm ?_
   clear hK K
   go_simp
   refine aO 4 (by kernel_rfl) rfl rfl ?_
   intro K hK
   refine cJ (encT x (.slice px mx cx)) [(0,.string (mkS (txt x))),(1,.agg (tcs x (.slice px mx cx)).toArray)] rfl (built_pr _ _ _ _ _ _) ?_
   refine wpList_nil ?_
   refine hK _ _ hm ?_
   clear hK K
   go_simp
   refine aO 5 (by kernel_rfl) rfl rfl ?_
   intro K hK
   have hmx:=Mem.start w7
   refine wpl_bslP (encT x (.slice px mx cx)) rfl rfl rfl hmx ?_
   clear hmx
   intro w9 g9 hb9 hm9
   have HB9:Hid (Below w7.heap.size w7 w9):=hm9.below
   have HR9:Hid (Row w9 g9 (encT x (.slice px mx cx)) 72):=hm9.get 0 rfl
   replace hm:=hm.below' hb9
   clear hb9 hm9
   refine wpList_nil ?_
   refine hK _ _ hm ?_
   clear hK K
   go_simp
   refine aO 6 (by kernel_rfl) rfl rfl ?_
   intro K hK
   have HO9:Hid (w9.ownsRow w.heap.size 72 4 (.slice p3 k c3) k (prL (xs.take k) s)):=aK (aK (aK (aK HO.out HB46.out) HBC.out) HB7.out) HB9.out
   have HB09:Hid (Below w.heap.size w w9):=((HB6.out.trans (HBC.out.mono HB6.out.size)).trans (HB7.out.mono (Nat.le_trans HB6.out.size HBC.out.size))).trans (HB9.out.mono (Nat.le_trans (Nat.le_trans HB6.out.size HBC.out.size) HB7.out.size))
   refine bP (.agg [Value.string {data:=#[]},.int .i64 0,.int .i64 0,.slice none 0 0].toArray) 4 56 rfl un_prs made_pr rfl (by omega) (by omega) HO9.out HB09.out.size rfl rfl HR9.out rfl (encT_one _ _ _ _) (by omega) ?_
   intro v10 w10 ho10 hg10 hl10
   have HOA:Hid (w10.ownsRow w.heap.size 72 4 v10 (k+1) (prL (xs.take (k+1)) s)):=by
    show World.ownsRow _ _ _ _ _ _ _
    rw [prL_snoc HXK.out,HSX.out]
    exact ho10
   have HBA:Hid (Below w.heap.size w w10):=cE HB09.out HB09.out.size HO9.out hg10
   replace hm:Row w10 g5 (tcs x (.slice px mx cx)) 24:=bu hm (fun he=>bn HO9.out hm (by decide) he) hg10
   clear ho10 hg10 hl10
   refine wpList_nil ?_
   refine hK _ _ hm ?_
   clear hK K
   go_simp
   refine aT 7 (v:=v10) rfl (by kernel_rfl) rfl (fun W _=>by go_simp) hm ?_
   go_simp
   refine wpAnyH_done (by kernel_rfl) ?_ _
   simp only [endsIn]
   go_wp2_with fail
   go_roundw
   case rel=>exact ⟨k+1,by go_num,by omega,HOA.out,HBA.out⟩
   case measure=>simp [intOf];omega
  ·have hke:k=n:=by omega
   subst hke
   have hki:¬(k:Int)<(k:Int):=by omega
   rw [show xs.take k=xs by rw [HN.out (),List.take_length]] at HO
   obtain ⟨ga,ca,cur,rfl,hga,hhg⟩:∃ga ca cur,u3=.slice (some ⟨ga,0,none⟩) k ca∧w.heap.size≤ga∧wr.heap[ga]?=some (.cells cur 72 (0,0)):=by
    rcases HO.out.2 with ⟨_,h⟩|⟨ga,ca,cur,h1,h2,h3,_⟩
    ·omega
    ·exact ⟨ga,ca,cur,h1,h2,h3⟩
   have hok:∀y∈xs,okT y=true:=fun y hy=>dd (HIS.out y hy)
   have HCS:Hid (∀i bb,(xs.map fun x=>mkS (txt x))[i]?=some bb→∀j u,(encP (fnT xs s) bb)[j]?=some u→wr.cell? ⟨ga,i * 4+j,none⟩=some u):=fun i bb hi j u hu=>by
    rw [List.getElem?_map] at hi
    cases hy:xs[i]? with
    | none=>rw [hy] at hi;cases hi
    | some y =>
     rw [hy] at hi
     simp only [Option.map_some,Option.some.injEq] at hi
     subst hi
     have e:encP (fnT xs s) (mkS (txt y))=encT y (s i):=by unfold encP encT;rw [fnT_at hok HND.out s hy]
     rw [e] at hu
     have h:=HO.out.cells (g:=ga) rfl (i * 4+j) u (prL_get hy s hu)
     rw [aQ,Nat.zero_add] at h
     exact h
   have HSO:Hid (Calls Tryz.prog 46 #[.slice (some ⟨ga,0,none⟩) k ca,.func (.func 47) #[] #[]] wr fun e w'=>e=.returned (.tuple #[])∧∃xs':List Tm,xs'.Perm xs∧xs'.Pairwise (fun a b=>txt a<txt b)∧(∀i x,xs'[i]?=some x→∃q,xs[q]?=some x∧∀j u,(encT x (s q))[j]?=some u→w'.cell? ⟨ga,i * 4+j,none⟩=some u)∧wr.grownBy w' (some ga)):=by
    have h:=sort_p (cap:=ca) (fnT xs s) (fnT_len xs s) (fnT_one xs s HS1.out) (xs.map fun x=>mkS (txt x)) cur _ hhg HCS.out (by rw [List.length_map,←HN.out ()];omega)
    rw [List.length_map,←HN.out ()] at h
    refine h.mono ?_
    rintro e w' ⟨rfl,L',hp,hsd,hcl,hg⟩
    obtain ⟨xs',h1,h2,h3⟩:=sorted_back hok HND.out hp hsd
    refine ⟨rfl,xs',h1,h2,fun i x hi=>?_,hg⟩
    obtain ⟨q,hq⟩:=List.getElem?_of_mem (h1.mem_iff.1 (List.mem_of_getElem? hi))
    refine ⟨q,hq,fun j u hu=>hcl i (mkS (txt x)) (by rw [h3,List.getElem?_map,hi];rfl) j u ?_⟩
    have e:encP (fnT xs s) (mkS (txt x))=encT x (s q):=by unfold encP encT;rw [fnT_at hok HND.out s hq]
    rw [e]
    exact hu
   have HGA:Hid (w.heap.size≤ga):=hga
   clear hhg hga hok HCS
   go_wp2_with (go_at_call 46;go_must (refine HSO.out.mono ?_);rintro e w8 ⟨he,xs',hp8,hs8,hc8,hg8⟩;subst he;have HP8:Hid (xs'.Perm xs∧xs'.Pairwise (fun a b=>txt a<txt b)):=⟨hp8,hs8⟩;have HC8:Hid (∀i x,xs'[i]?=some x→∃q,xs[q]?=some x∧∀j u,(encT x (s q))[j]?=some u→w8.cell? ⟨ga,i * 4+j,none⟩=some u):=hc8;have HB8:Hid (Below w.heap.size w w8):=cE HB.out HB.out.size HO.out hg8;clear hp8 hs8 hc8 hg8)
   have HL8:Hid (∀_:Unit,k=xs'.length):=fun _=>by rw [HP8.out.1.length_eq];exact HN.out ()
   have HT0:Hid (To base w8 w8 b k xs' 0 [] cs):=⟨Upd.refl _ _,aK HOV.out HB8.out,rfl,by show TC _ _ (xs'.take 0) [];rw [List.take_zero];rfl⟩
   clear HO HB HSO
   go_loopw [26] (fun vi wr=>∃(i:Nat) (cs rs:List Value),vi=.int .i64 (i:Int)∧i≤k∧Hid (To base w8 wr b k xs' i cs rs)) (fun vi _=>k - (intOf vi).toNat)
   case atStart=>exact ⟨0,[],cs,rfl,Nat.zero_le _,HT0.out⟩
   case round =>
    clear HT0
    obtain ⟨i,cs2,rs2,rfl,hi,HTO⟩:=hrel
    by_cases hlt:i<k
    ·have hii:(i:Int)<(k:Int):=by omega
     obtain ⟨x,hx⟩:=aX (HL8.out ()) hlt
     obtain ⟨q,hq,hcq⟩:=HC8.out i x hx
     have hsl:=HKID.out q x hq
     obtain ⟨px,cx,hsx,_⟩:=hsl.len
     obtain ⟨mx,hmx⟩:∃m,m=x.l.length:=⟨_,rfl⟩
     rw [←hmx] at hsx
     rw [hsx] at hcq
     have HXI:Hid (xs'[i]?=some x):=hx
     have HSL:Hid (SlT (fun q=>base≤q∧q<w8.heap.size∧q≠b) w8 (.slice px mx cx) x.l):=by
      show SlT _ _ _ _
      rw [←hsx]
      refine (hsl.keep (Keeps.below HB8.out)).weak fun q hq=>⟨hq.1,Nat.lt_of_lt_of_le hq.2.1 HB8.out.size,hq.2.2⟩
     have HCX:Hid (∀j u,(encT x (.slice px mx cx))[j]?=some u→wr.cell? ⟨ga,i * 4+j,none⟩=some u):=fun j u hu=>by
      have h:=hcq j u hu
      rw [HTO.out.upd.cell (p:=⟨ga,_,none⟩) (block_lt_of_cell h) (by have h1:=HGA.out;have h2:=HBL.out;show ga≠b;omega)]
      exact h
     obtain ⟨old,rs3,hrs,hold⟩:∃old rs3,rs2=old++rs3∧old.length=3:=by
      have h1:=HTO.out.own.1
      rw [List.length_append,HTO.out.len] at h1
      exact ⟨rs2.take 3,rs2.drop 3,(List.take_append_drop 3 rs2).symm,by rw [List.length_take];omega⟩
     subst hrs
     have HOLD:Hid (old.length=3):=hold
     clear hx hq hcq hsl hsx hmx hold
     have hm:=Mem.start wr
     go_wp2_with (first
      | ((with_reducible refine af (some 29) (.indexAddr 70 (.tmp 24) (.tmp 26)) ?_);go_must (refine aa (.pointer (some ⟨ga,i * 4,none⟩)) rfl (exec_ixPr i rfl rfl rfl hlt) ?_))
      | ((with_reducible refine af (some 30) (.load 72 (.tmp 29)) ?_);go_must (refine aa (.agg (encT x (.slice px mx cx)).toArray) rfl (exec_ldPr rfl rfl HCX.out) ?_))
      | ((with_reducible refine af (some 7) (.alloc 72) ?_);go_must (refine ap _ zero_pr hm ?_);clear hm;intro w9 g7 hm)
      | ((with_reducible refine af none (.store 72 (.tmp 7) (.tmp 30)) ?_);go_must (refine au 0 (encT x (.slice px mx cx)) hm rfl rfl rfl 4 sz_pr rfl rfl (encT_one _ _ _ _) ?_);clear hm;intro w10 hm)
      | ((with_reducible refine af (some 34) (.load 24 (.tmp 33)) ?_);go_must (refine aa (.agg (tcs x (.slice px mx cx)).toArray) rfl (aB 1 (tcs x (.slice px mx cx)) (Mem.get hm 0 rfl) rfl _ Tryz.underlying24 rfl 3 aj (Nat.le_refl 4) rfl) ?_))
      | ((with_reducible refine af (some 35) (.indexAddr 22 (.tmp 31) (.tmp 32)) ?_);go_must (refine aa (.pointer (some ⟨b,i * 3,none⟩)) rfl ((ak (b:=b) (o:=0) i rfl rfl rfl hlt).trans (by rw [Nat.zero_add])) ?_))
      | ((with_reducible refine af none (.store 24 (.tmp 35) (.tmp 34)) ?_);go_must (refine wpl_stAt (t:=x) (p:=px) (mm:=mx) (c:=cx) (HTO.out.keep hm.below).own HTO.out.len HOLD.out hlt rfl rfl ?_);intro w11 hu11 ho11;have HT11:Hid (To base w8 w11 b k xs' (i+1) (cs2++tcs x (.slice px mx cx)) rs3):=(HTO.out.keep hm.below).store HXI.out HSL.out hu11 ho11;clear hu11 ho11 hm))
     go_roundw
     case rel=>exact ⟨i+1,_,rs3,by go_num,by omega,HT11.out⟩
     case measure=>simp [intOf];omega
    ·have hie:i=k:=by omega
     subst hie
     have hii:¬(i:Int)<(i:Int):=by omega
     go_wp2_with fail
     go_ret
     refine ⟨rfl,xs',HP8.out.1,HP8.out.2,HTO.out.done (HL8.out ()),?_⟩
     have hbb:=(av HOV.out (b:=b) rfl).1
     exact below_upd (HB8.out.mono HBS.out) HTO.out.upd hbb (Nat.le_trans HBS.out HB8.out.size)
open Go Go.RowKit Classical
def inB (base:List Tm):Tm→Prop:=fun t=>t∈base∧isT t=true
def Kn (base:List Tm) (t:Tm):Prop:=isT t=true∧Der (inB base) t
theorem der_two {B:Tm→Prop} {k n:Int} {a b:Tm} (h1:Der B a) (h2:Der B b):Der B (mkT k n [a,b]):=by
 refine .made (by rw [aV];simp) fun x hx=>?_
 rw [aV] at hx
 simp only [List.mem_cons,List.not_mem_nil,or_false] at hx
 rcases hx with rfl|rfl
 ·exact h1
 ·exact h2
theorem der_one {B:Tm→Prop} {k n:Int} {a:Tm} (h:Der B a):Der B (mkT k n [a]):=by
 refine .made (by rw [aV];simp) fun x hx=>?_
 rw [aV] at hx
 rw [List.mem_singleton.1 hx]
 exact h
theorem leastR_sub {D:(Tm→Prop)→Prop}:∀(r:List Tm) (K:Tm→Prop),∀t∈leastR D K r,t∈r:=by
 intro r
 induction r with
 | nil=>intro K t ht;exact ht
 | cons x r ih =>
  intro K t ht
  rw [leastR] at ht
  split at ht
  ·exact List.mem_cons_of_mem _ (ih K t ht)
  ·rcases List.mem_cons.1 ht with rfl|ht
   ·exact List.mem_cons_self ..
   ·exact List.mem_cons_of_mem _ (ih _ t ht)
def chT:Nat→Tm
 | 0=>mkT 2 9 []
 | i+1=>mkT 5 ((i+1:Nat):Int) [chT i]
open Go Go.RowKit Classical
theorem webWs_len (l:List Tm):∀T,(webWs l T).length≤T.length+(l.map cnt).sum:=by
 induction l with
 | nil=>intro T;simp [webWs]
 | cons y l ih =>
  intro T
  rw [bT]
  have h1:=dR y T
  have h2:=ih (webW y T)
  simp only [List.map_cons,List.sum_cons]
  omega
theorem webWs_isT {l:List Tm} (h:∀t∈l,∀T,(∀x∈T,isT x=true)→∀x∈webW t T,isT x=true):∀T,(∀x∈T,isT x=true)→∀x∈webWs l T,isT x=true:=by
 induction l with
 | nil=>intro T hT;exact hT
 | cons y l ih =>
  intro T hT
  rw [bT]
  exact ih (fun t ht=>h t (List.mem_cons_of_mem _ ht)) _ (h y (List.mem_cons_self ..) T hT)
/-- What comes in are parts of what was added. -/
theorem fa (t:Tm):isT t=true→∀T,(∀x∈T,isT x=true)→∀x∈webW t T,isT x=true:=by
 induction t using Tm.ind with
 | h t ih =>
  intro ht T hT x hx
  have h1:=webWs_isT (l:=t.l) (fun y hy=>ih y hy (isT_kid ht hy)) T hT
  rw [cW] at hx
  split at hx
  ·exact h1 x hx
  ·rcases List.mem_append.1 hx with hx|hx
   ·exact h1 x hx
   ·rw [List.mem_singleton.1 hx];exact ht
theorem d7 (l:List Tm):∀x∈webWs (l.filter isT) [],isT x=true :=
 webWs_isT (fun t ht=>fa t (List.mem_filter.1 ht).2) [] fun x hx=>(by cases hx)
theorem dh (l:List Tm):Web (webWs (l.filter isT) [])∧∀x∈l.filter isT,x∈webWs (l.filter isT) []:=by
 have h:=cK (l.filter isT) (fun t ht=>(az.1 (List.mem_filter.1 ht).2).2) [] Web.nil
 exact ⟨h.1,h.2.2⟩
theorem bF {a b:Tm} (h:txt a≠txt b):a≠b:=fun he=>h (he▸rfl)
theorem inB_nil (t:Tm):¬inB [] t:=fun h=>(by cases h.1)
/-- What has no parts and isn't known can't be derived, where nothing is known. -/
theorem der_none {B:Tm→Prop} (hB:∀t,¬B t) {t:Tm} (h0:t.l=[]):¬Der B t:=fun h=>by
 have h1:=h.syn (T:=fun _=>True) (K:=fun _=>False) (fun _ _ _ _=>trivial) (fun _ h=>h.elim) (fun t hb=>hB t hb) ⟨fun _ _ h=>h.elim,fun _ _ _ h=>h.elim,fun t _ h2 h3=>by
  cases hl:t.l with
  | nil=>exact h2 hl
  | cons y r=>exact h3 y (by rw [hl];simp)⟩
 rcases h1.cs with h2|⟨h2,_⟩
 ·exact h2
 ·exact h2 h0
def kk1:Tm:=mkT 2 1 []
def kn2:Tm:=mkT 1 2 []
def kk4:Tm:=mkT 2 4 []
def kd3:Tm:=mkT 5 3 [kk4]
def kn5:Tm:=mkT 1 5 []
def kB1:Tm:=mkT 3 0 [kk1,kn2]
def kB3:Tm:=mkT 3 0 [kd3,kn5]
def kBl:List Tm:=[kB1,kk1,kB3]
def kTl:List Tm:=[kk1,kn2,kB1,kk4,kd3,kn5,kB3]
def kKl:List Tm:=[kk1,kn2,kB1,kB3]
theorem kB_isT:∀t∈kBl,isT t=true:=by
 intro t ht
 simp only [kBl,List.mem_cons,List.not_mem_nil,or_false] at ht
 rcases ht with rfl|rfl|rfl<;>decide +kernel
theorem ed:kBl.filter isT=kBl:=List.filter_eq_self.2 kB_isT
theorem kT_eq:webWs kBl []=kTl:=by kernel_rfl
theorem kT_kids:KidsIn (· ∈ kTl):=by
 intro t ht x hx
 simp only [kTl,List.mem_cons,List.not_mem_nil,or_false] at ht ⊢
 rcases ht with rfl|rfl|rfl|rfl|rfl|rfl|rfl
 ·rw [kk1,aV] at hx;cases hx
 ·rw [kn2,aV] at hx;cases hx
 ·rw [kB1,aV] at hx
  simp only [List.mem_cons,List.not_mem_nil,or_false] at hx
  rcases hx with rfl|rfl<;>simp
 ·rw [kk4,aV] at hx;cases hx
 ·rw [kd3,aV,List.mem_singleton] at hx
  subst hx;simp
 ·rw [kn5,aV] at hx;cases hx
 ·rw [kB3,aV] at hx
  simp only [List.mem_cons,List.not_mem_nil,or_false] at hx
  rcases hx with rfl|rfl<;>simp
theorem kd3_no:kd3 ∉ kKl:=by
 simp only [kKl,List.mem_cons,List.not_mem_nil,or_false,not_or]
 exact ⟨bF (by decide +kernel),bF (by decide +kernel),bF (by decide +kernel),bF (by decide +kernel)⟩
theorem kk4_no:kk4 ∉ kKl:=by
 simp only [kKl,List.mem_cons,List.not_mem_nil,or_false,not_or]
 exact ⟨bF (by decide +kernel),bF (by decide +kernel),bF (by decide +kernel),bF (by decide +kernel)⟩
theorem kn5_no:kn5 ∉ kKl:=by
 simp only [kKl,List.mem_cons,List.not_mem_nil,or_false,not_or]
 exact ⟨bF (by decide +kernel),bF (by decide +kernel),bF (by decide +kernel),bF (by decide +kernel)⟩
theorem kK_shut:Shut (· ∈ kTl) (· ∈ kKl):=by
 refine ⟨fun t x ht hk _=>?_,fun t a b ht hk hl ha=>?_,fun t ht h0 hx=>?_⟩
 ·simp only [kKl,List.mem_cons,List.not_mem_nil,or_false] at ht
  rcases ht with rfl|rfl|rfl|rfl<;>exact absurd hk (by decide)
 ·simp only [kKl,List.mem_cons,List.not_mem_nil,or_false] at ht
  rcases ht with rfl|rfl|rfl|rfl
  ·exact absurd hk (by decide)
  ·exact absurd hk (by decide)
  ·rw [kB1,aV] at hl
   simp only [List.cons.injEq,and_true] at hl
   rw [←hl.2];simp [kKl]
  ·rw [kB3,aV] at hl
   simp only [List.cons.injEq,and_true] at hl
   rw [←hl.1] at ha
   exact absurd ha kd3_no
 ·simp only [kTl,List.mem_cons,List.not_mem_nil,or_false] at ht
  rcases ht with rfl|rfl|rfl|rfl|rfl|rfl|rfl
  ·simp [kKl]
  ·simp [kKl]
  ·simp [kKl]
  ·exact absurd (by rw [kk4,aV]) h0
  ·exact absurd (hx kk4 (by rw [kd3,aV];simp)) kk4_no
  ·exact absurd (by rw [kn5,aV]) h0
  ·simp [kKl]
theorem kB_in (t:Tm):inB kBl t↔t∈kBl:=⟨fun h=>h.1,fun h=>⟨h,kB_isT t h⟩⟩
theorem kDn2 {B:Tm→Prop} (h1:B kB1) (h2:B kk1):Der B kn2:=.opened (t:=kB1) (a:=kk1) (.base h1) rfl (by rw [kB1,aV]) (.base h2)
theorem kK_der:∀t∈kKl,Der (inB kBl) t:=by
 have hb:∀t∈kBl,Der (inB kBl) t:=fun t ht=>.base ((kB_in t).2 ht)
 intro t ht
 simp only [kKl,List.mem_cons,List.not_mem_nil,or_false] at ht
 rcases ht with rfl|rfl|rfl|rfl
 ·exact hb _ (by simp [kBl])
 ·exact kDn2 ((kB_in _).2 (by simp [kBl])) ((kB_in _).2 (by simp [kBl]))
 ·exact hb _ (by simp [kBl])
 ·exact hb _ (by simp [kBl])
theorem k_der {t:Tm} (ht:t∈kTl):Der (inB kBl) t↔t∈kKl:=by
 refine eE (T:=(· ∈ kTl)) (K:=(· ∈ kKl)) kT_kids (fun t ht=>?_) (fun t hb=>?_) kK_shut kK_der ht
 ·simp only [kKl,List.mem_cons,List.not_mem_nil,or_false] at ht
  rcases ht with rfl|rfl|rfl|rfl<;>simp [kTl]
 ·have:=(kB_in t).1 hb
  simp only [kBl,List.mem_cons,List.not_mem_nil,or_false] at this
  rcases this with rfl|rfl|rfl<;>simp [kKl]
theorem kKn1:Kn kBl kn2:=⟨by decide +kernel,kK_der _ (by simp [kKl])⟩
theorem kKn2:¬Kn kBl kn5:=fun h=>kn5_no ((k_der (by simp [kTl])).1 h.2)
def kG3:Tm:=mkT 4 0 [kk1,mkT 5 9 [kn2]]
theorem kKn3:Kn kBl kG3:=⟨by decide +kernel,der_two (kK_der _ (by simp [kKl])) (der_one (kK_der _ (by simp [kKl])))⟩
def kG4:Tm:=mkT 1 1 []
theorem kKn4:¬Kn [] kG4:=fun h=>der_none inB_nil (by rw [kG4,aV]) h.2
theorem kK_nd:kKl.Nodup:=by
 have h:(kKl.map txt).Nodup:=by decide +kernel
 exact List.Pairwise.of_map txt (fun _ _ h he=>h (he▸rfl)) h
/-- Just four of the parts can be derived. -/
theorem k_four {R:List Tm} (hn:R.Nodup) (h:∀t,t∈R↔t∈kTl∧Der (inB kBl) t):R.length=4:=by
 have hp:R.Perm kKl:=by
  refine (List.perm_ext_iff_of_nodup hn kK_nd).2 fun t=>?_
  rw [h]
  constructor
  ·rintro ⟨h1,h2⟩;exact (k_der h1).1 h2
  ·intro h1
   have h2:t∈kTl:=by
    simp only [kKl,List.mem_cons,List.not_mem_nil,or_false] at h1
    rcases h1 with rfl|rfl|rfl|rfl<;>simp [kTl]
   exact ⟨h2,kK_der t h1⟩
 rw [hp.length_eq];rfl
theorem k_least:(leastF (fun K=>Der K kn2) (fun _=>False) (kBl.filter isT)).length=2:=by
 have e:(kBl.filter isT).reverse=[kB3,kk1,kB1]:=by rw [ed];rfl
 unfold leastF
 rw [e,List.length_reverse]
 have d1:Der (fun t=>False∨t∈[kk1,kB1]) kn2:=kDn2 (Or.inr (by simp)) (Or.inr (by simp))
 have kids1:KidsIn (· ∈ [kk1,kn2,kB1]):=by
  intro t ht x hx
  simp only [List.mem_cons,List.not_mem_nil,or_false] at ht ⊢
  rcases ht with rfl|rfl|rfl
  ·rw [kk1,aV] at hx;cases hx
  ·rw [kn2,aV] at hx;cases hx
  ·rw [kB1,aV] at hx
   simp only [List.mem_cons,List.not_mem_nil,or_false] at hx
   rcases hx with rfl|rfl<;>simp
 have n12:kk1≠kB1:=bF (by decide +kernel)
 have n21:kn2≠kB1:=bF (by decide +kernel)
 have n22:kn2≠kk1:=bF (by decide +kernel)
 have d2:¬Der (fun t=>False∨t∈[kB1]) kn2:=fun h=>by
  have h1:=(eE (B:=fun t=>False∨t∈[kB1]) (T:=(· ∈ [kk1,kn2,kB1])) (K:=(· ∈ [kB1])) kids1 (fun t ht=>by rw [List.mem_singleton.1 ht];simp) (fun t hb=>hb.resolve_left id) ⟨fun t x ht hk _=>by
    rw [List.mem_singleton.1 ht] at hk;exact absurd hk (by decide),fun t a b ht hk hl ha=>by
    rw [List.mem_singleton.1 ht,kB1,aV] at hl
    simp only [List.cons.injEq,and_true] at hl
    rw [←hl.1] at ha
    exact absurd (List.mem_singleton.1 ha) n12,fun t ht h0 hx=>by
    simp only [List.mem_cons,List.not_mem_nil,or_false] at ht
    rcases ht with rfl|rfl|rfl
    ·exact absurd (by rw [kk1,aV]) h0
    ·exact absurd (by rw [kn2,aV]) h0
    ·simp⟩ (fun t ht=>.base (Or.inr ht)) (by simp)).1 h
  exact n21 (List.mem_singleton.1 h1)
 have d3:¬Der (fun t=>(False∨t=kk1)∨t∈([]:List Tm)) kn2:=fun h=>by
  have h1:=(eE (B:=fun t=>(False∨t=kk1)∨t∈([]:List Tm)) (T:=(· ∈ [kk1,kn2])) (K:=(· ∈ [kk1])) (fun t ht x hx=>by
    simp only [List.mem_cons,List.not_mem_nil,or_false] at ht
    rcases ht with rfl|rfl
    ·rw [kk1,aV] at hx;cases hx
    ·rw [kn2,aV] at hx;cases hx) (fun t ht=>by rw [List.mem_singleton.1 ht];simp) (fun t hb=>by
    rcases hb with (hb|hb)|hb
    ·exact hb.elim
    ·rw [hb];simp
    ·cases hb) ⟨fun t x ht hk _=>by
    rw [List.mem_singleton.1 ht] at hk;exact absurd hk (by decide),fun t a b ht hk _ _=>by
    rw [List.mem_singleton.1 ht] at hk;exact absurd hk (by decide),fun t ht h0 hx=>by
    simp only [List.mem_cons,List.not_mem_nil,or_false] at ht
    rcases ht with rfl|rfl
    ·simp
    ·exact absurd (by rw [kn2,aV]) h0⟩ (fun t ht=>.base (Or.inl (Or.inr (List.mem_singleton.1 ht)))) (by simp)).1 h
  exact n22 (List.mem_singleton.1 h1)
 rw [leastR,if_pos d1,leastR,if_neg d2,leastR,if_neg d3,leastR]
 rfl
def slN (i:Nat):Tm:=mkT 1 (i:Int) []
def slK (i:Nat):Tm:=mkT 2 (i:Int) []
def slT:Nat→Tm
 | 0=>mkT 1 50 []
 | i+1=>mkT 3 0 [slK i,mkT 4 0 [slT i,slN i]]
def slP (i:Nat):Tm:=mkT 4 0 [slT i,slN i]
open Go Go.RowKit Go.Maps Classical
section
variable {F:Nat→Prop} {w:World}
theorem SlT.lt1 {v:Value} {l:List Tm} (H:∀t∈l,∀v,KS F w t v→KS (fun b=>b<w.heap.size) w t v) (h:SlT F w v l):SlT (fun b=>b<w.heap.size) w v l:=by
 obtain ⟨p,cap,cs,hv,hc,ht,hs⟩:=h
 refine ⟨p,cap,cs,hv,hc,ht.keep H,fun h0=>?_⟩
 obtain ⟨b,o,hp,hF,hseg⟩:=hs h0
 have hl:=ht.len
 exact ⟨b,o,hp,block_lt_of_cell (hseg 0 _ (List.getElem?_eq_getElem (by omega))),hseg⟩
theorem KS.lt (t:Tm):∀v,KS F w t v→KS (fun b=>b<w.heap.size) w t v:=by
 induction t using Tm.ind with
 | h t ih =>
  intro v h
  rw [bH] at h ⊢
  exact h.lt1 ih
theorem SlT.lt {v:Value} {l:List Tm} (h:SlT F w v l):SlT (fun b=>b<w.heap.size) w v l:=h.lt1 fun t _=>KS.lt t
end
theorem Fr.row {p:Nat→Prop} {w w':World} {g:Nat} {l:List Value} {t:TypeId} (h:Fr p w w') (r:Row w g l t) (hn:¬p g):Row w' g l t:=by
 unfold Row
 rw [h.block g r.lt hn]
 exact r
theorem Fr.belowB {p:Nat→Prop} {B:Nat} {w0 w w':World} (h:Fr p w w') (hb:Below B w0 w) (hp:∀b,p b→B≤b) (hs:B≤w.heap.size):Below B w0 w' :=
 ⟨h.os.trans hb.os,h.tape.trans hb.tape,h.output.trans hb.output,Nat.le_trans hb.size h.size,fun k hk=>(h.block k (Nat.lt_of_lt_of_le hk hs) fun hpk=>by have:=hp k hpk;omega).trans (hb.block k hk)⟩
theorem Kp.belowB {dg mk:Nat} {vr:Value} {B:Nat} {w0 w w':World} (h:Kp dg mk vr w w') (hb:Below B w0 w) (hd:B≤dg) (hm:B≤mk) (hv:∀b,vr.ownBlock=some b→B≤b) (hs:B≤w.heap.size):Below B w0 w' :=
 ⟨h.os.trans hb.os,h.tape.trans hb.tape,h.output.trans hb.output,Nat.le_trans hb.size h.size,fun k hk=>(h.block k (Nat.lt_of_lt_of_le hk hs) (by omega) (by omega) (fun he=>by have:=hv k he.symm;omega)).trans (hb.block k hk)⟩
theorem Nm.nil:Nm [] []:=⟨rfl,Web.nil,fun i t v l h=>(by simp at h),fun i v l h=>(by simp at h)⟩
theorem B_eq (bl:List Tm):(fun t=>False∨t∈bl.filter isT)=inB bl:=funext fun t=>propext ⟨fun h=>by
 have h1:=h.resolve_left id
 exact List.mem_filter.1 h1,fun h=>Or.inr (List.mem_filter.2 h)⟩
structure Dd (b0 S0 QB:Nat) (w:World) (g m dg mk:Nat) (T:List Tm) (AL:List (Value×List Nat)) (vs va:Value) (R:List Tm) (vr:Value) (rl:List Nat):Prop where
 web:WebN b0 w g m T T AL vs va
 fp:∀b,Fp g m AL vs va b→b<S0∧b≠dg∧b≠mk
 lt:dg<w.heap.size∧mk<w.heap.size∧S0≤w.heap.size
 der:DerA S0 QB w dg mk g T R R vr rl
section
variable {b0 S0 QB:Nat} {w w':World} {g m dg mk:Nat} {T:List Tm} {AL:List (Value×List Nat)} {vs va:Value} {R:List Tm} {vr:Value} {rl:List Nat}
theorem Dd.webK (h:Dd b0 S0 QB w g m dg mk T AL vs va R vr rl) (k:Kp dg mk vr w w'):WebN b0 w' g m T T AL vs va:=h.web.keep fun b hb=>by
 have h1:=h.fp b hb
 refine k.block b (h.web.lt hb).2 h1.2.1 h1.2.2 fun he=>?_
 have:=(av h.der.own he.symm).1
 omega
theorem Dd.below (h:Dd b0 S0 QB w g m dg mk T AL vs va R vr rl) (hb:Below w.heap.size w w'):Dd b0 S0 QB w' g m dg mk T AL vs va R vr rl :=
 ⟨h.web.below hb,h.fp,⟨Nat.lt_of_lt_of_le h.lt.1 hb.size,Nat.lt_of_lt_of_le h.lt.2.1 hb.size,Nat.le_trans h.lt.2.2 hb.size⟩,h.der.below hb⟩
theorem Dd.step {QB':Nat} {R':List Tm} {vr':Value} {rl':List Nat} (h:Dd b0 S0 QB w g m dg mk T AL vs va R vr rl) (k:Kp dg mk vr w w') (hd:DerA S0 QB' w' dg mk g T R' R' vr' rl'):Dd b0 S0 QB' w' g m dg mk T AL vs va R' vr' rl' :=
 ⟨h.webK k,h.fp,⟨Nat.lt_of_lt_of_le h.lt.1 k.size,Nat.lt_of_lt_of_le h.lt.2.1 k.size,Nat.le_trans h.lt.2.2 k.size⟩,hd⟩
theorem Row.inj {w:World} {g:Nat} {l l':List Value} {t t':TypeId} (h:Row w g l t) (h':Row w g l' t'):l=l':=by
 unfold Row at h h'
 rw [h] at h'
 simp only [Option.some.injEq,Obj.cells.injEq,and_true] at h'
 simpa using congrArg Array.toList h'.1
theorem arOf_at (hw:WebN b0 w g m T T AL vs va) {i:Nat} {v:Value} {l:List Nat} (hi:AL[i]?=some (v,l)):∃p c,arOf AL i=(p,c,l):=by
 obtain ⟨p,c,hv⟩:=cR (hw.ar i v l hi)
 subst hv
 exact ⟨p,c,by unfold arOf;rw [hi]⟩
theorem arOf_le (hn:Nm T AL) (i:Nat):(arOf AL i).2.2.length≤2 * T.length:=by
 unfold arOf
 split
 ·next p n c l h=>exact hn.ab i _ l h
 ·exact Nat.zero_le _
theorem arOf_nmo (hw:WebN b0 w g m T T AL vs va) (hn:Nm T AL) (i:Nat) (t:Tm) (ht:T[i]?=some t):∃ws,NumsOf T (arOf AL i).2.2 ws∧∀x,x∈ws↔x∈T∧t∈x.l:=by
 have hi:=(List.getElem?_eq_some_iff.1 ht).1
 obtain ⟨e,he⟩:∃e,AL[i]?=some e:=⟨_,List.getElem?_eq_getElem (by rw [hn.al];exact hi)⟩
 obtain ⟨v,l⟩:=e
 obtain ⟨p,c,hp⟩:=arOf_at hw he
 rw [hp]
 exact hn.nmo i t v l ht he
theorem Dd.webR (h:Dd b0 S0 QB w g m dg mk T AL vs va R vr rl) (hn:Nm T AL) (h0:0<T.length):∃bs cs ba ca,∀w',Kp dg mk vr w w'→WebR w' g T (arOf AL) m bs cs ba ca:=by
 obtain ⟨L,hL⟩:∃L,T.length=L+1:=⟨T.length - 1,by omega⟩
 obtain ⟨bs,cs,hvs⟩:∃b c,vs=.slice (some ⟨b,0,none⟩) (L+1) c:=by
  have h1:=h.web.os
  rw [hL] at h1
  exact cL h1
 obtain ⟨ba,ca,hva⟩:∃b c,va=.slice (some ⟨b,0,none⟩) (L+1) c:=by
  have h1:=h.web.oa
  rw [hn.al,hL] at h1
  exact cL h1
 subst hvs hva
 refine ⟨bs,cs,ba,ca,fun w' k=>?_⟩
 have hw:=h.webK k
 obtain ⟨bs',cs',ba',ca',hr,_,_⟩:=(hw.a hn.al hn.web hn.nmo).rd h0
 have he:=Row.inj hw.row hr.row
 simp only [List.cons.injEq,Value.slice.injEq,Option.some.injEq,Addr.mk.injEq,and_true,true_and] at he
 obtain ⟨⟨rfl,_,rfl⟩,⟨rfl,_,rfl⟩⟩:=he
 exact hr
end
theorem small_C (n:Nat) (h:n≤380):(n+1) * (3 * (2 * n)+3)≤900000:=by
 have:=Nat.mul_le_mul (show n+1≤381 by omega) (show 3 * (2 * n)+3≤2283 by omega)
 omega
theorem learn_D (b0 S0 QB:Nat) (w:World) (g m dg mk:Nat) (T:List Tm) (AL:List (Value×List Nat)) (vs va:Value) (R:List Tm) (vr:Value) (rl:List Nat) (B:Tm→Prop) (nl:List Nat) (NL:List Tm) (pn:Option Addr) (ln cn:Nat) (h:Dd b0 S0 QB w g m dg mk T AL vs va R vr rl) (hn:Nm T AL) (hT:T.length≤380) (h0:0<T.length) (hlr:Lrn B T R []) (hQB:QB≤500000)
  (hln:ln=nl.length) (hln4:ln≤100000) (hnn:NumsOf T nl NL) (hs:SlN w (.slice pn ln cn) nl) (hap:Apn (.slice pn ln cn) dg mk vr w) :
  Calls Tryz.prog 28 #[.pointer (some ⟨dg,0,none⟩),.slice pn ln cn] w fun e w'=>e=.returned (.tuple #[])∧∃(vr':Value) (rl':List Nat) (R':List Tm),Dd b0 S0 QB w' g m dg mk T AL vs va R' vr' rl'∧Lrn (fun t=>B t∨t∈NL) T R' []∧Kp dg mk vr w w'∧Vn vr vr' w:=by
 obtain ⟨bs,cs,ba,ca,hweb⟩:=h.webR hn h0
 refine (ei w S0 QB dg mk g B T R (arOf AL) m bs cs ba ca (2 * T.length) ln vr rl nl NL pn cn hn.web (by omega) (arOf_le hn) (small_C _ hT) (arOf_nmo h.web hn) hweb h.der hlr h.lt hQB hln hln4 hnn fun w' k=>hs.kp hap k).mono ?_
 rintro e w' ⟨he,vr',rl',R',hd,hl,hk,hv,_⟩
 exact ⟨he,vr',rl',R',h.step hk hd,hl,hk,hv⟩
theorem has_D (b0 S0 QB:Nat) (w:World) (g m dg mk:Nat) (T:List Tm) (AL:List (Value×List Nat)) (vs va:Value) (R:List Tm) (vr:Value) (rl:List Nat) (q:Nat) (t:Tm) (h:Dd b0 S0 QB w g m dg mk T AL vs va R vr rl) (hT:T.length≤380) (hq:T[q]?=some t) :
  Calls Tryz.prog 29 #[.pointer (some ⟨dg,0,none⟩),.int .i64 (q:Int)] w fun e w'=>e=.returned (.bool (decide (t∈R)))∧Below w.heap.size w w' :=
 bc w dg mk g q T R t _ h.der.rd (by have:=(List.getElem?_eq_some_iff.1 hq).1;omega) hq (by simp)
theorem forget_D (b0 S0 QB:Nat) (w:World) (g m dg mk:Nat) (T:List Tm) (AL:List (Value×List Nat)) (vs va:Value) (R:List Tm) (vr:Value) (rl:List Nat) (h:Dd b0 S0 QB w g m dg mk T AL vs va R vr rl) (hn:Nm T AL) (hT:T.length≤380) (hnd:R.Nodup) :
  Calls Tryz.prog 37 #[.pointer (some ⟨dg,0,none⟩),.int .i64 0] w fun e w'=>e=.returned (.tuple #[])∧∃(vr':Value),Dd b0 S0 (QB+R.length) w' g m dg mk T AL vs va [] vr' []∧Kp dg mk vr w w'∧Vn vr vr' w:=by
 have hR:R.length≤T.length:=dM R T hnd fun x hx=>dw h.der.num hx
 refine (eU w S0 QB dg mk g 0 T R vr rl hn.web (by omega) hnd h.der (Nat.zero_le _) (by omega)).mono ?_
 rintro e w' ⟨he,vr',hd,hv,ho,ht,hou,hz,hbk⟩
 have hk:Kp dg mk vr w w':=⟨ho,ht,hou,hz,fun b h1 h2 h3 _=>hbk b h1 h2 h3⟩
 exact ⟨he,vr',h.step hk hd,hk,Or.inl hv⟩
theorem least_D (b0 S0 QB:Nat) (w:World) (g m dg mk:Nat) (T:List Tm) (AL:List (Value×List Nat)) (vs va:Value) (vr:Value) (gt:Tm) (gq:Nat) (nl:List Nat) (NL:List Tm) (pn:Option Addr) (ln cn:Nat) (h:Dd b0 S0 QB w g m dg mk T AL vs va [] vr []) (hn:Nm T AL) (hT:T.length≤380) (hQB:QB≤380) (hgq:T[gq]?=some gt)
  (hln:ln=nl.length) (hln4:ln≤1000) (hnn:NumsOf T nl NL) (hs:SlN w (.slice pn ln cn) nl) (hap:Apn (.slice pn ln cn) dg mk vr w) :
  Calls Tryz.prog 38 #[.pointer (some ⟨dg,0,none⟩),.slice pn ln cn,.int .i64 (gq:Int)] w fun e w'=>∃(v:Value) (ql:List Nat),e=.returned v∧SlN w' v ql∧NumsOf T ql (leastF (fun K=>Der K gt) (fun _=>False) NL)∧WebN b0 w' g m T T AL vs va∧Kp dg mk vr w w':=by
 have h0:0<T.length:=by have:=(List.getElem?_eq_some_iff.1 hgq).1;omega
 obtain ⟨bs,cs,ba,ca,hweb⟩:=h.webR hn h0
 refine (least_any S0 dg mk g T hn.web (by omega) (arOf AL) m bs cs ba ca (2 * T.length) (arOf_le hn) (small_C _ hT) (arOf_nmo h.web hn) gt gq hgq ln NL nl ln cn pn w QB (fun _=>False) [] vr [] (Nat.le_refl _) (by omega) hln hnn hweb h.der Lrn.none h.lt (by
  have h1:NL.length≤1000:=by rw [←hnn.1,←hln];exact hln4
  have h2:=Nat.mul_le_mul (show NL.length - 1≤1000 by omega) hT
  omega) hs hap).mono ?_
 rintro e w' ⟨v,ql,vr',rl',R',QB',he,h1,h2,_,_,_,_,_,hk,_⟩
 exact ⟨v,ql,he,h1,h2,h.webK hk,hk⟩
theorem learn_nil (dg:Nat) (p:Option Addr) (c:Nat) (w:World):Calls Tryz.prog 28 #[.pointer (some ⟨dg,0,none⟩),.slice p 0 c] w fun e w'=>e=.returned (.tuple #[])∧Below w.heap.size w w':=by
 have hm:=Mem.start w
 go_enter Tryz.func28,Tryz.ntmps28
 go_wp2_with fail
 refine wp_loop_rounds 1 ?_
 rw [rounds_succ]
 go_wp2_with fail
 go_end0
 exact ⟨rfl,hm.below⟩
end Go.Proofs.YtcibhfcjbokdlaaGreatDoor
