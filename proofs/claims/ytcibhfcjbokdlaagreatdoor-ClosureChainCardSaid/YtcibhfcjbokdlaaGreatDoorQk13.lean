import Derived.Deep.LoopGhost
import Derived.Test.YtcibhfcjbokdlaaGreatDoorQk12
import Derived.Test.YtcibhfcjbokdlaaGreatDoorQk02
import Derived.Test.YtcibhfcjbokdlaaGreatDoorQk09
set_option maxRecDepth 100000
set_option maxHeartbeats 4000000
namespace Go.Proofs.YtcibhfcjbokdlaaGreatDoor
open Go Go.RowKit Go.Maps Go.Sort
def encT (x:Tm) (v:Value):List Value:=.string (mkS (txt x))::tcs x v
def prL (xs:List Tm) (s:Nat→Value):List Value:=xs.zipIdx.flatMap fun p=>encT p.1 (s p.2)
theorem flat_getV {α:Type} (f:α→List Value) (K:Nat) (hK:∀x,(f x).length=K):∀(l:List α) (i:Nat) (a:α),l[i]?=some a→∀j,j<K→(l.flatMap f)[i * K+j]?=(f a)[j]?:=by
 intro l
 induction l with
 | nil=>intro i a h;simp at h
 | cons x l ih =>
  intro i a h j hj
  rw [List.flatMap_cons]
  cases i with
  | zero =>
   simp only [List.getElem?_cons_zero,Option.some.injEq] at h
   subst h
   rw [Nat.zero_mul,Nat.zero_add,List.getElem?_append_left (by rw [hK];exact hj)]
  | succ i =>
   rw [Nat.succ_mul,List.getElem?_append_right (by rw [hK];omega),hK,show i * K+K+j - K=i * K+j by omega]
   exact ih i a (by simpa using h) j hj
theorem prL_snoc {xs:List Tm} {k:Nat} {x:Tm} (hx:xs[k]?=some x) (s:Nat→Value):prL (xs.take (k+1)) s=prL (xs.take k) s++encT x (s k):=by
 have hk:=(List.getElem?_eq_some_iff.1 hx).1
 unfold prL
 rw [List.take_add_one,hx,Option.toList_some,List.zipIdx_append,List.flatMap_append,List.length_take]
 simp [Nat.min_eq_left (Nat.le_of_lt hk)]
theorem prL_get {xs:List Tm} {i:Nat} {x:Tm} (hx:xs[i]?=some x) (s:Nat→Value) {j:Nat} {v:Value} (hv:(encT x (s i))[j]?=some v):(prL xs s)[i * 4+j]?=some v:=by
 have hj:j<4:=(List.getElem?_eq_some_iff.1 hv).1
 rw [prL,flat_getV _ 4 (fun _=>rfl) _ i (x,i) (by rw [List.getElem?_zipIdx,hx];simp) j hj]
 exact hv
def fnT (xs:List Tm) (s:Nat→Value) (b:ByteArray):List Value:=match xs[xs.findIdx fun y=>decide (txt y=bs b)]? with
 | some x=>tcs x (s (xs.findIdx fun y=>decide (txt y=bs b)))
 | none=>[.int .i64 0,.int .i64 0,.slice none 0 0]
def bkT (xs:List Tm) (b:ByteArray):Tm:=match xs[xs.findIdx fun y=>decide (txt y=bs b)]? with
 | some x=>x
 | none=>mkT 0 0 []
theorem fnT_len (xs:List Tm) (s:Nat→Value) (b:ByteArray):(fnT xs s b).length=3:=by unfold fnT;split<;>rfl
theorem fnT_one (xs:List Tm) (s:Nat→Value) (hs:∀i,(s i).oneCell'=true) (b:ByteArray):∀v∈fnT xs s b,v.oneCell'=true:=by
 intro v hv
 unfold fnT at hv
 split at hv
 ·simp only [tcs,List.mem_cons,List.not_mem_nil,or_false] at hv
  rcases hv with rfl|rfl|rfl
  ·rfl
  ·rfl
  ·exact hs _
 ·simp only [List.mem_cons,List.not_mem_nil,or_false] at hv
  rcases hv with rfl|rfl|rfl<;>rfl
theorem fnT_at {xs:List Tm} (hok:∀y∈xs,okT y=true) (hn:xs.Nodup) (s:Nat→Value) {i:Nat} {x:Tm} (hx:xs[i]?=some x):fnT xs s (mkS (txt x))=tcs x (s i):=by
 have h1:xs[idxT xs x]?=some x:=aZ hok (List.mem_of_getElem? hx)
 have h2:idxT xs x=i:=d5 hn h1 hx
 unfold fnT
 rw [aR]
 unfold idxT at h1 h2
 rw [h1,h2]
theorem bkT_at {xs:List Tm} (hok:∀y∈xs,okT y=true) {x:Tm} (hx:x∈xs):bkT xs (mkS (txt x))=x:=by
 have h1:xs[idxT xs x]?=some x:=aZ hok hx
 unfold bkT
 rw [aR]
 unfold idxT at h1
 rw [h1]
theorem sorted_back {xs:List Tm} (hok:∀y∈xs,okT y=true) (hn:xs.Nodup) {L':List ByteArray} (hp:L'.Perm (xs.map fun x=>mkS (txt x))) (hs:L'.Pairwise fun x y=>¬bs y<bs x) :
  ∃xs':List Tm,xs'.Perm xs∧xs'.Pairwise (fun a b=>txt a<txt b)∧L'=xs'.map fun x=>mkS (txt x):=by
 have hb:∀b∈L',∃x∈xs,b=mkS (txt x):=fun b hb=>by
  obtain ⟨x,h1,h2⟩:=List.mem_map.1 (hp.mem_iff.1 hb)
  exact ⟨x,h1,h2.symm⟩
 have h2:L'=(L'.map (bkT xs)).map fun x=>mkS (txt x):=by
  rw [List.map_map]
  conv=>lhs;rw [←List.map_id L']
  refine List.map_congr_left fun b hb'=>?_
  obtain ⟨x,h1,rfl⟩:=hb b hb'
  show mkS (txt x)=mkS (txt (bkT xs (mkS (txt x))))
  rw [bkT_at hok h1]
 have h3:(L'.map (bkT xs)).Perm xs:=by
  have h:=hp.map (bkT xs)
  rw [List.map_map] at h
  have e:xs.map (bkT xs∘fun x=>mkS (txt x))=xs:=by
   conv=>rhs;rw [←List.map_id xs]
   exact List.map_congr_left fun x hx=>bkT_at hok hx
  rw [e] at h
  exact h
 refine ⟨L'.map (bkT xs),h3,?_,h2⟩
 have h4:(L'.map (bkT xs)).Pairwise fun a b=>¬txt b<txt a:=by
  have h:=hs
  rw [h2,List.pairwise_map] at h
  exact h.imp fun {a b} h=>by rw [aR,aR] at h;exact h
 have h5:(L'.map (bkT xs)).Nodup:=(h3.nodup_iff).2 hn
 refine (List.pairwise_and_iff.2 ⟨h4,h5⟩).imp_of_mem fun {a b} ha hb' h=>?_
 rcases Decidable.em (txt a<txt b) with h6|h6
 ·exact h6
 ·exact absurd (txt_inj (hok a (h3.mem_iff.1 ha)) (hok b (h3.mem_iff.1 hb')) (List.le_antisymm (List.not_lt.1 h.1) (List.not_lt.1 h6))) h.2
structure To (base:Nat) (w1 w:World) (b n:Nat) (xs:List Tm) (i:Nat) (cs rs:List Value):Prop where
 upd:Upd b w1 w
 own:w.ownsRow base 24 3 (.slice (some ⟨b,0,none⟩) n n) n (cs++rs)
 len:cs.length=i * 3
 tc:TC (fun q=>base≤q∧q<w1.heap.size∧q≠b) w1 (xs.take i) cs
section
variable {base:Nat} {w1 w w':World} {b n i:Nat} {xs:List Tm} {cs rs:List Value}
theorem To.keep (h:To base w1 w b n xs i cs rs) (hb:Below w.heap.size w w'):To base w1 w' b n xs i cs rs:=⟨h.upd.trans (Upd.of_below hb),aE h.own hb,h.len,h.tc⟩
theorem To.store {x:Tm} {old:List Value} {s:Value} (h:To base w1 w b n xs i cs (old++rs)) (hx:xs[i]?=some x) (hs:SlT (fun q=>base≤q∧q<w1.heap.size∧q≠b) w1 s x.l) (hu:Upd b w w') (ho:w'.ownsRow base 24 3 (.slice (some ⟨b,0,none⟩) n n) n (cs++(tcs x s++rs))):To base w1 w' b n xs (i+1) (cs++tcs x s) rs:=by
 refine ⟨h.upd.trans hu,by rw [List.append_assoc];exact ho,by rw [List.length_append,h.len,di];omega,?_⟩
 have htk:xs.take (i+1)=xs.take i++[x]:=by rw [List.take_add_one,hx];rfl
 rw [htk]
 exact h.tc.snoc ((bm x s).2 hs)
theorem To.done (h:To base w1 w b n xs n cs rs) (hn:n=xs.length):SlT (FN base w.heap.size) w (.slice (some ⟨b,0,none⟩) n n) xs:=by
 have hl:=h.own.1
 have hr:rs=[]:=List.eq_nil_of_length_eq_zero (by rw [List.length_append,h.len] at hl;omega)
 have h2:=h.own
 rw [hr,List.append_nil] at h2
 have h3:=h.tc
 rw [hn,List.take_length] at h3
 have hk:Keeps (fun q=>base≤q∧q<w1.heap.size∧q≠b) (FN base w.heap.size) w1 w:=fun q hq=>⟨⟨hq.1,Nat.lt_of_lt_of_le hq.2.1 h.upd.size⟩,fun o u hu=>by rw [h.upd.cell (p:=⟨q,o,none⟩) hq.2.1 hq.2.2];exact hu⟩
 exact SlT.of_own h2 hn.symm (h3.keeps hk) (fun _ hb=>hb) (fun _ h4 h5=>⟨h4,h5⟩)
end
def kidV (cs:List Value) (i:Nat):Value:=match cs[i * 3+2]? with
 | some (.slice p m c)=>.slice p m c
 | _=>.slice none 0 0
theorem kidV_one (cs:List Value) (i:Nat):(kidV cs i).oneCell'=true:=by unfold kidV;split<;>rfl
theorem kidV_get {F:Nat→Prop} {w:World} {xs:List Tm} {cs:List Value} (h:TC F w xs cs) {i:Nat} {x:Tm} (hx:xs[i]?=some x):cs[i * 3]?=some (.int .i64 x.k)∧cs[i * 3+1]?=some (.int .i64 x.n)∧cs[i * 3+2]?=some (kidV cs i)∧SlT F w (kidV cs i) x.l:=by
 obtain ⟨s,h1,h2,h3,h4⟩:=h.get hx
 have h5:=(bm x s).1 h4
 obtain ⟨p,c,rfl,_⟩:=h5.len
 have e:kidV cs i=.slice p x.l.length c:=by unfold kidV;rw [h3]
 rw [e]
 exact ⟨h1,h2,h3,h5⟩
theorem un_prs:Tryz.prog.underlying 70=some (.slice 72):=Tryz.underlying70
theorem un_pr:∃fs,Tryz.prog.underlying 72=some (.struct fs):=⟨_,Tryz.underlying72⟩
theorem made_pr:(Tryz.prog.info? 72).map (fun i=>(i.zero,i.size,i.bytes))=some (some (.agg [Value.string {data:=#[]},.int .i64 0,.int .i64 0,.slice none 0 0].toArray),4,56):=by kernel_rfl
theorem info_pr:(Tryz.prog.info? 72).map (fun i=>(i.zero,i.size))=some (some (.agg [Value.string {data:=#[]},.int .i64 0,.int .i64 0,.slice none 0 0].toArray),4):=by kernel_rfl
theorem zero_pr:∀w,(zeroValue 72).run Tryz.prog w=.ok (.agg [Value.string {data:=#[]},.int .i64 0,.int .i64 0,.slice none 0 0].toArray) w:=(zero_of_info info_pr).1
theorem sz_pr:(Tryz.prog.info? 72).map (·.size)=some 4:=by kernel_rfl
theorem built_pr (s:ByteArray) (k n:Int) (p:Option Addr) (m c:Nat):Tryz.prog.built 72 [(0,.string s),(1,.agg [Value.int .i64 k,.int .i64 n,.slice p m c].toArray)]=some [Value.string s,.int .i64 k,.int .i64 n,.slice p m c].toArray:=by kernel_rfl
theorem encT_one (x:Tm) (p:Option Addr) (m c:Nat):∀v∈encT x (.slice p m c),v.oneCell'=true:=by
 intro v hv
 simp only [encT,tcs,List.mem_cons,List.not_mem_nil,or_false] at hv
 rcases hv with rfl|rfl|rfl|rfl<;>rfl
theorem run_bslP {P:Program} (w:World) {t elem:TypeId} (z l:List Value) (hu:P.underlying t=some (.slice elem)) (hi:(P.info? elem).map (fun i=>(i.zero,i.size))=some (some (.agg z.toArray),4)) (hz:z.length=4) (hl:l.length=4) :
  (Instr.buildSlice t 1 #[(0,.agg l.toArray)]).run P w=.ok (.slice (some ⟨w.heap.size,0,none⟩) 1 1) (w.alloc (.cells l.toArray elem)):=by
 obtain ⟨hz1,hs1⟩:=zero_of_info hi
 cases hq:P.info? elem with
 | none=>simp [hq] at hi
 | some qq =>
  have hs:qq.size=4:=by simpa [hq] using hs1
  have e:∀cs:Array Value,cs.size=4→List.foldl (fun (cs:Array Value) (x:Value×Nat)=>cs.setIfInBounds x.2 x.1) cs l.zipIdx=l.toArray:=by
   intro cs hcs
   apply Array.ext_getElem?
   intro i
   rw [dO l 0 cs i]
   by_cases h:i<4
   ·rw [if_pos (by omega)];simp
   ·rw [if_neg (by omega),Array.getElem?_eq_none (by omega),Array.getElem?_eq_none (by simp;omega)]
  simp [Instr.buildSlice,run_underlying hu,sizeOf,typeInfo,hq,hs,hz1,Value.cells,Instr.fill,hl,hz,newRow,newObj]
  rw [e _ (by simp)]
  rfl
section
variable {ops:Array Oper} {rest:List Oper} {a:Act} {w w0:World} {Q:Exit→Act→World→Prop} {dst:Option Tmp} {typ:TypeId} {pos:String} {aft:Array Edge} {gd:Option (Nat×Bool)} {S:List Nat} {rows:List (Nat×List Value×TypeId)}
theorem wpl_bslP {x:Operand} (l:List Value) (hl:l.length=4) (hw:Region.wanted {dst:=dst,op:=.buildSlice 70 1 #[(0,x)],type:=typ,pos:=pos,after:=aft,guard:=gd} (yielded ops a.tmps)=true) (hx:a.eval x=.agg l.toArray) (hm:Mem w0 S w rows)
  (h:∀w' g,Below w.heap.size w w'→Mem w0 S w' ((g,l,72)::rows)→wpList Tryz.prog ops Q rest (a.put dst (.slice (some ⟨g,0,none⟩) 1 1)) w') :
  wpList Tryz.prog ops Q ({dst:=dst,op:=.buildSlice 70 1 #[(0,x)],type:=typ,pos:=pos,after:=aft,guard:=gd}::rest) a w:=by
 refine wpList_step fun K hK=>?_
 rw [if_pos hw]
 have hh:=hK _ _ (h _ _ ((Below.refl _ _).alloc (Nat.le_refl _) _) (hm.alloc l 72))
 unfold Oper.wp execOp
 simp only [List.map_toArray,List.map_cons,List.map_nil,hx,run_bslP (P:=Tryz.prog) w _ l un_prs info_pr rfl hl,Sem.run_bind,Sem.run_pure,Result.andThen_ok]
 exact hh
theorem exec_ixPr {x ix:Operand} {b n cap:Nat} (i:Nat) {ii:Int} (hx:a.eval x=.slice (some ⟨b,0,none⟩) n cap) (hix:a.eval ix=.int .i64 ii) (hii:ii=(i:Int)) (hi:i<n) :
  (execOp a.eval {dst:=dst,op:=.indexAddr 70 x ix,type:=typ,pos:=pos,after:=aft,guard:=gd}).run Tryz.prog w=.ok (.value (.pointer (some ⟨b,i * 4,none⟩))) w:=by
 subst hii
 have h0:(0:Int)≤(i:Int)∧(i:Int)<(n:Int):=by omega
 unfold execOp
 simp [hx,hix,Instr.indexAt,asIntOf,run_underlying un_prs,h0,aJ]
 omega
theorem exec_ldPr {x:Operand} {b o:Nat} {l:List Value} (hl:l.length=4) (hx:a.eval x=.pointer (some ⟨b,o,none⟩)) (hc:∀j u,l[j]?=some u→w.cell? ⟨b,o+j,none⟩=some u) :
  (execOp a.eval {dst:=dst,op:=.load 72 x,type:=typ,pos:=pos,after:=aft,guard:=gd}).run Tryz.prog w=.ok (.value (.agg l.toArray)) w:=by
 obtain ⟨fs,hfs⟩:=un_pr
 unfold execOp
 simp only [hx,Instr.loadAt,Instr.sureAddr,Sem.run_bind,Sem.run_pure,Result.andThen_ok,cg w b o 4 72 _ (.struct fs) hc hfs rfl sz_pr hl]
end
theorem ord_nil (p:Option Addr) (c:Nat) (w:World):Calls Tryz.prog 33 #[.slice p 0 c] w fun e w'=>e=.returned (.slice p 0 c)∧Below w.heap.size w w':=by
 have hm:=Mem.start w
 go_enter Tryz.func33,Tryz.ntmps33
 go_wp2_with fail
 refine wp_loop_rounds 1 ?_
 rw [rounds_succ]
 go_wp2_with (go_at_call 46;refine (AnyF.slices_SortFunc_none sortP none 0 _ _).mono ?_;rintro e w' ⟨he,hw⟩;subst he hw)
 refine wp_loop_rounds 1 ?_
 rw [rounds_succ]
 go_wp2_with fail
 go_ret
 exact ⟨rfl,hm.below⟩
theorem ord_any (xs:List Tm) (v:Value) (base:Nat) (w:World) (hx:∀x∈xs,isT x=true) (hn:xs.Nodup) (hl:xs.length≤10000) (ht:Tow base w v xs) (hb:base≤w.heap.size) :
  Calls Tryz.prog 33 #[v] w fun e w'=>e=.returned v∧∃xs':List Tm,xs'.Perm xs∧xs'.Pairwise (fun a b=>txt a<txt b)∧SlT (FN base w'.heap.size) w' v xs'∧Below base w w':=by
 by_cases hxs:xs=[]
 ·subst hxs
  rcases ht with ⟨_,rfl⟩|⟨b,cs,rfl,hov,htc⟩
  ·refine (ord_nil none 0 w).mono ?_
   rintro e w' ⟨rfl,hb'⟩
   exact ⟨rfl,[],List.Perm.refl _,List.Pairwise.nil,SlT.nil,hb'.mono hb⟩
  ·refine (ord_nil (some ⟨b,0,none⟩) 0 w).mono ?_
   rintro e w' ⟨rfl,hb'⟩
   exact ⟨rfl,[],List.Perm.refl _,List.Pairwise.nil,⟨some ⟨b,0,none⟩,0,[],rfl,Nat.le_refl _,rfl,fun h=>absurd h (by simp)⟩,hb'.mono hb⟩
 obtain ⟨b,cs,rfl,hov,htc⟩:∃b cs,v=.slice (some ⟨b,0,none⟩) xs.length xs.length∧w.ownsRow base 24 3 v xs.length cs∧TC (fun q=>base≤q∧q<w.heap.size∧q≠b) w xs cs:=by
  rcases ht with ⟨h,_⟩|h
  ·exact absurd h hxs
  ·exact h
 clear ht
 obtain ⟨n,hnx⟩:∃n,n=xs.length:=⟨_,rfl⟩
 have HN:Hid (∀_:Unit,n=xs.length):=fun _=>hnx
 have hn0:0<n:=by rw [hnx];exact List.length_pos_iff.2 hxs
 have hn4:n≤10000:=by omega
 rw [←hnx] at hov ⊢
 obtain ⟨s,hs⟩:∃s:Nat→Value,s=kidV cs:=⟨_,rfl⟩
 have HS1:Hid (∀i,(s i).oneCell'=true):=fun i=>by rw [hs];exact kidV_one cs i
 have HKID:Hid (∀i x,xs[i]?=some x→SlT (fun q=>base≤q∧q<w.heap.size∧q≠b) w (s i) x.l):=fun i x hi=>by rw [hs];exact (kidV_get htc hi).2.2.2
 have HCE:Hid (∀W,Below w.heap.size w W→∀i x,xs[i]?=some x→W.cell? ⟨b,0+i * 3,none⟩=some (.int .i64 x.k)∧W.cell? ⟨b,0+i * 3+1,none⟩=some (.int .i64 x.n)∧W.cell? ⟨b,0+i * 3+2,none⟩=some (s i)):=fun W hW i x hi=>by
  obtain ⟨h1,h2,h3,_⟩:=kidV_get htc hi
  have ho:=aE hov hW
  have hc:∀j u,cs[j]?=some u→W.cell? ⟨b,0+j,none⟩=some u:=fun j u hu=>by
   have h:=ho.cells (g:=b) rfl j u hu
   rw [aJ] at h
   exact h
  rw [hs]
  exact ⟨hc _ _ h1,hc _ _ h2,hc _ _ h3⟩
 have HOV:Hid (w.ownsRow base 24 3 (.slice (some ⟨b,0,none⟩) n n) n cs):=hov
 have HIS:Hid (∀x∈xs,isT x=true):=hx
 have HND:Hid xs.Nodup:=hn
 have HBS:Hid (base≤w.heap.size):=hb
 have HBL:Hid (b<w.heap.size):=(ak hov (b:=b) rfl).2
 have HO0:Hid (w.ownsRow w.heap.size 72 4 (.slice none 0 0) 0 (prL (xs.take 0) s)):=World.ownsRow_nil _ _ _ _
 clear hxs hov htc hs hx hn hb hl hnx
 go_enter Tryz.func33,Tryz.ntmps33
 go_wp2_with fail
 go_loopw [10,3] (fun vi v3 wr=>∃k:Nat,vi=.int .i64 (k:Int)∧k≤n∧Hid (wr.ownsRow w.heap.size 72 4 v3 k (prL (xs.take k) s))∧Hid (Below w.heap.size w wr)) (fun vi _ _=>n - (intOf vi).toNat)
 case atStart=>exact ⟨0,rfl,Nat.zero_le _,HO0.out,Below.refl _ _⟩
 case round =>
  clear HO0
  obtain ⟨k,rfl,hk,HO,HB⟩:=hrel
  by_cases hlt:k<n
  ·have hki:(k:Int)<(n:Int):=by omega
   obtain ⟨x,hx⟩:=cA (HN.out ()) hlt
   have HXK:Hid (xs[k]?=some x):=hx
   have hsl:=HKID.out k x hx
   obtain ⟨px,cx,hsx,_⟩:=hsl.len
   obtain ⟨mx,hmx⟩:∃m,m=x.l.length:=⟨_,rfl⟩
   rw [←hmx] at hsx
   have HSX:Hid (s k=.slice px mx cx):=hsx
   have HPR:Hid (∀W,Below w.heap.size w W→Calls Tryz.prog 45 #[.agg (tcs x (.slice px mx cx)).toArray] W fun e w'=>e=.returned (.string (mkS (txt x)))∧Below W.heap.size W w'):=fun W hW=>by
    have h:=print_any x (.slice px mx cx) W (by rw [←hsx];exact hsl.below hW)
    rw [if_pos (HIS.out x (List.mem_of_getElem? hx))] at h
    exact h
   obtain ⟨c0,c1,c2⟩:=HCE.out wr HB.out k x hx
   rw [hsx] at c2
   obtain ⟨p3,c3,hv3⟩:=bK HO.out
   subst hv3
   clear hx hsl hsx hmx
   have hm:=Mem.start wr
   go_wp2_with (first
    | ((with_reducible refine ad (some 12) (.indexAddr 22 (.tmp 8) (.tmp 10)) ?_);go_must (refine aa (.pointer (some ⟨b,0+k * 3,none⟩)) rfl (aK k rfl rfl rfl hlt) ?_))
    | ((with_reducible refine ad (some 13) (.load 24 (.tmp 12)) ?_);go_must (refine aa (.agg (tcs x (.slice px mx cx)).toArray) rfl (aM rfl c0 c1 c2) ?_))
    | ((with_reducible refine ad (some 5) (.alloc 24) ?_);go_must (refine ag _ ap hm ?_);clear hm;intro w5 g5 hm)
    | ((with_reducible refine ad none (.store 24 (.tmp 5) (.tmp 13)) ?_);go_must (refine am 0 (tcs x (.slice px mx cx)) hm rfl rfl rfl 3 af rfl rfl (aY _ _ _ _) ?_);clear hm;intro w6 hm))
   have HB46:Hid (Below wr.heap.size wr w6):=hm.below
   have HB6:Hid (Below w.heap.size w w6):=HB.out.trans (hm.below.mono HB.out.size)
   refine ay ?_
   refine ao (T:=fun W=>Row W g5 (tcs x (.slice px mx cx)) 24) (by kernel_rfl) hm ?_
   intro wc hbw hmw
   have HBC:Hid (Below w6.heap.size w6 wc):=hbw
   replace hm:Row wc g5 (tcs x (.slice px mx cx)) 24:=hmw.get 0 rfl
   clear hbw hmw
   refine aT 0 (v:=.slice p3 k c3) rfl (by kernel_rfl) rfl (fun W _=>by go_simp) hm ?_
   go_simp
   refine aT 1 (v:=.agg (tcs x (.slice px mx cx)).toArray) rfl (by kernel_rfl) rfl (fun W hW=>ah 0 (tcs x (.slice px mx cx)) hW rfl _ Tryz.underlying24 rfl 3 af (Nat.le_refl _) rfl) hm ?_
   go_simp
   refine aT 3 (v:=.agg (tcs x (.slice px mx cx)).toArray) rfl (by kernel_rfl) rfl (fun W hW=>ah 0 (tcs x (.slice px mx cx)) hW rfl _ Tryz.underlying24 rfl 3 af (Nat.le_refl _) rfl) hm ?_
   go_simp
   refine aO 2 (by kernel_rfl) rfl rfl ?_
   intro K hK
   go_wp2_with (go_at_call 45;go_must (refine (HPR.out wc (HB6.out.trans (HBC.out.mono HB6.out.size))).mono ?_);rintro e w7 ⟨he,hb⟩;subst he;have HB7:Hid (Below wc.heap.size wc w7):=hb;replace hm:=hm.below' hb;clear hb)
   refine hK _ _ hm ?_
   clear hK K
   go_simp
   refine aO 4 (by kernel_rfl) rfl rfl ?_
   intro K hK
   refine cF (encT x (.slice px mx cx)) [(0,.string (mkS (txt x))),(1,.agg (tcs x (.slice px mx cx)).toArray)] rfl (built_pr _ _ _ _ _ _) ?_
   refine wpList_nil ?_
   refine hK _ _ hm ?_
   clear hK K
   go_simp
   refine aO 5 (by kernel_rfl) rfl rfl ?_
   intro K hK
   have hmx:=Mem.start w7
   refine wpl_bslP (encT x (.slice px mx cx)) rfl rfl rfl hmx ?_
   clear hmx
   intro w9 g9 hb9 hm9
   have HB9:Hid (Below w7.heap.size w7 w9):=hm9.below
   have HR9:Hid (Row w9 g9 (encT x (.slice px mx cx)) 72):=hm9.get 0 rfl
   replace hm:=hm.below' hb9
   clear hb9 hm9
   refine wpList_nil ?_
   refine hK _ _ hm ?_
   clear hK K
   go_simp
   refine aO 6 (by kernel_rfl) rfl rfl ?_
   intro K hK
   have HO9:Hid (w9.ownsRow w.heap.size 72 4 (.slice p3 k c3) k (prL (xs.take k) s)):=aE (aE (aE (aE HO.out HB46.out) HBC.out) HB7.out) HB9.out
   have HB09:Hid (Below w.heap.size w w9):=((HB6.out.trans (HBC.out.mono HB6.out.size)).trans (HB7.out.mono (Nat.le_trans HB6.out.size HBC.out.size))).trans (HB9.out.mono (Nat.le_trans (Nat.le_trans HB6.out.size HBC.out.size) HB7.out.size))
   refine bL (.agg [Value.string {data:=#[]},.int .i64 0,.int .i64 0,.slice none 0 0].toArray) 4 56 rfl un_prs made_pr rfl (by omega) (by omega) HO9.out HB09.out.size rfl rfl HR9.out rfl (encT_one _ _ _ _) (by omega) ?_
   intro v10 w10 ho10 hg10 hl10
   have HOA:Hid (w10.ownsRow w.heap.size 72 4 v10 (k+1) (prL (xs.take (k+1)) s)):=by
    show World.ownsRow _ _ _ _ _ _ _
    rw [prL_snoc HXK.out,HSX.out]
    exact ho10
   have HBA:Hid (Below w.heap.size w w10):=cy HB09.out HB09.out.size HO9.out hg10
   replace hm:Row w10 g5 (tcs x (.slice px mx cx)) 24:=bw hm (fun he=>bx HO9.out hm (by decide) he) hg10
   clear ho10 hg10 hl10
   refine wpList_nil ?_
   refine hK _ _ hm ?_
   clear hK K
   go_simp
   refine aT 7 (v:=v10) rfl (by kernel_rfl) rfl (fun W _=>by go_simp) hm ?_
   go_simp
   refine wpAnyH_done (by kernel_rfl) ?_ _
   simp only [endsIn]
   go_wp2_with fail
   go_roundw
   case rel=>exact ⟨k+1,by go_num,by omega,HOA.out,HBA.out⟩
   case measure=>simp [intOf];omega
  ·have hke:k=n:=by omega
   subst hke
   have hki:¬(k:Int)<(k:Int):=by omega
   rw [show xs.take k=xs by rw [HN.out (),List.take_length]] at HO
   obtain ⟨ga,ca,cur,rfl,hga,hhg⟩:∃ga ca cur,u3=.slice (some ⟨ga,0,none⟩) k ca∧w.heap.size≤ga∧wr.heap[ga]?=some (.cells cur 72 (0,0)):=by
    rcases HO.out.2 with ⟨_,h⟩|⟨ga,ca,cur,h1,h2,h3,_⟩
    ·omega
    ·exact ⟨ga,ca,cur,h1,h2,h3⟩
   have hok:∀y∈xs,okT y=true:=fun y hy=>cZ (HIS.out y hy)
   have HCS:Hid (∀i bb,(xs.map fun x=>mkS (txt x))[i]?=some bb→∀j u,(encP (fnT xs s) bb)[j]?=some u→wr.cell? ⟨ga,i * 4+j,none⟩=some u):=fun i bb hi j u hu=>by
    rw [List.getElem?_map] at hi
    cases hy:xs[i]? with
    | none=>rw [hy] at hi;cases hi
    | some y =>
     rw [hy] at hi
     simp only [Option.map_some,Option.some.injEq] at hi
     subst hi
     have e:encP (fnT xs s) (mkS (txt y))=encT y (s i):=by unfold encP encT;rw [fnT_at hok HND.out s hy]
     rw [e] at hu
     have h:=HO.out.cells (g:=ga) rfl (i * 4+j) u (prL_get hy s hu)
     rw [aJ,Nat.zero_add] at h
     exact h
   have HSO:Hid (Calls Tryz.prog 46 #[.slice (some ⟨ga,0,none⟩) k ca,.func (.func 47) #[] #[]] wr fun e w'=>e=.returned (.tuple #[])∧∃xs':List Tm,xs'.Perm xs∧xs'.Pairwise (fun a b=>txt a<txt b)∧(∀i x,xs'[i]?=some x→∃q,xs[q]?=some x∧∀j u,(encT x (s q))[j]?=some u→w'.cell? ⟨ga,i * 4+j,none⟩=some u)∧wr.grownBy w' (some ga)):=by
    have h:=sort_p (cap:=ca) (fnT xs s) (fnT_len xs s) (fnT_one xs s HS1.out) (xs.map fun x=>mkS (txt x)) cur _ hhg HCS.out (by rw [List.length_map,←HN.out ()];omega)
    rw [List.length_map,←HN.out ()] at h
    refine h.mono ?_
    rintro e w' ⟨rfl,L',hp,hsd,hcl,hg⟩
    obtain ⟨xs',h1,h2,h3⟩:=sorted_back hok HND.out hp hsd
    refine ⟨rfl,xs',h1,h2,fun i x hi=>?_,hg⟩
    obtain ⟨q,hq⟩:=List.getElem?_of_mem (h1.mem_iff.1 (List.mem_of_getElem? hi))
    refine ⟨q,hq,fun j u hu=>hcl i (mkS (txt x)) (by rw [h3,List.getElem?_map,hi];rfl) j u ?_⟩
    have e:encP (fnT xs s) (mkS (txt x))=encT x (s q):=by unfold encP encT;rw [fnT_at hok HND.out s hq]
    rw [e]
    exact hu
   have HGA:Hid (w.heap.size≤ga):=hga
   clear hhg hga hok HCS
   go_wp2_with (go_at_call 46;go_must (refine HSO.out.mono ?_);rintro e w8 ⟨he,xs',hp8,hs8,hc8,hg8⟩;subst he;have HP8:Hid (xs'.Perm xs∧xs'.Pairwise (fun a b=>txt a<txt b)):=⟨hp8,hs8⟩;have HC8:Hid (∀i x,xs'[i]?=some x→∃q,xs[q]?=some x∧∀j u,(encT x (s q))[j]?=some u→w8.cell? ⟨ga,i * 4+j,none⟩=some u):=hc8;have HB8:Hid (Below w.heap.size w w8):=cy HB.out HB.out.size HO.out hg8;clear hp8 hs8 hc8 hg8)
   have HL8:Hid (∀_:Unit,k=xs'.length):=fun _=>by rw [HP8.out.1.length_eq];exact HN.out ()
   have HT0:Hid (To base w8 w8 b k xs' 0 [] cs):=⟨Upd.refl _ _,aE HOV.out HB8.out,rfl,by show TC _ _ (xs'.take 0) [];rw [List.take_zero];rfl⟩
   clear HO HB HSO
   go_loopw [26] (fun vi wr=>∃(i:Nat) (cs rs:List Value),vi=.int .i64 (i:Int)∧i≤k∧Hid (To base w8 wr b k xs' i cs rs)) (fun vi _=>k - (intOf vi).toNat)
   case atStart=>exact ⟨0,[],cs,rfl,Nat.zero_le _,HT0.out⟩
   case round =>
    clear HT0
    obtain ⟨i,cs2,rs2,rfl,hi,HTO⟩:=hrel
    by_cases hlt:i<k
    ·have hii:(i:Int)<(k:Int):=by omega
     obtain ⟨x,hx⟩:=cA (HL8.out ()) hlt
     obtain ⟨q,hq,hcq⟩:=HC8.out i x hx
     have hsl:=HKID.out q x hq
     obtain ⟨px,cx,hsx,_⟩:=hsl.len
     obtain ⟨mx,hmx⟩:∃m,m=x.l.length:=⟨_,rfl⟩
     rw [←hmx] at hsx
     rw [hsx] at hcq
     have HXI:Hid (xs'[i]?=some x):=hx
     have HSL:Hid (SlT (fun q=>base≤q∧q<w8.heap.size∧q≠b) w8 (.slice px mx cx) x.l):=by
      show SlT _ _ _ _
      rw [←hsx]
      refine (hsl.keep (Keeps.below HB8.out)).weak fun q hq=>⟨hq.1,Nat.lt_of_lt_of_le hq.2.1 HB8.out.size,hq.2.2⟩
     have HCX:Hid (∀j u,(encT x (.slice px mx cx))[j]?=some u→wr.cell? ⟨ga,i * 4+j,none⟩=some u):=fun j u hu=>by
      have h:=hcq j u hu
      rw [HTO.out.upd.cell (p:=⟨ga,_,none⟩) (block_lt_of_cell h) (by have h1:=HGA.out;have h2:=HBL.out;show ga≠b;omega)]
      exact h
     obtain ⟨old,rs3,hrs,hold⟩:∃old rs3,rs2=old++rs3∧old.length=3:=by
      have h1:=HTO.out.own.1
      rw [List.length_append,HTO.out.len] at h1
      exact ⟨rs2.take 3,rs2.drop 3,(List.take_append_drop 3 rs2).symm,by rw [List.length_take];omega⟩
     subst hrs
     have HOLD:Hid (old.length=3):=hold
     clear hx hq hcq hsl hsx hmx hold
     have hm:=Mem.start wr
     go_wp2_with (first
      | ((with_reducible refine ad (some 29) (.indexAddr 70 (.tmp 24) (.tmp 26)) ?_);go_must (refine aa (.pointer (some ⟨ga,i * 4,none⟩)) rfl (exec_ixPr i rfl rfl rfl hlt) ?_))
      | ((with_reducible refine ad (some 30) (.load 72 (.tmp 29)) ?_);go_must (refine aa (.agg (encT x (.slice px mx cx)).toArray) rfl (exec_ldPr rfl rfl HCX.out) ?_))
      | ((with_reducible refine ad (some 7) (.alloc 72) ?_);go_must (refine ag _ zero_pr hm ?_);clear hm;intro w9 g7 hm)
      | ((with_reducible refine ad none (.store 72 (.tmp 7) (.tmp 30)) ?_);go_must (refine am 0 (encT x (.slice px mx cx)) hm rfl rfl rfl 4 sz_pr rfl rfl (encT_one _ _ _ _) ?_);clear hm;intro w10 hm)
      | ((with_reducible refine ad (some 34) (.load 24 (.tmp 33)) ?_);go_must (refine aa (.agg (tcs x (.slice px mx cx)).toArray) rfl (ah 1 (tcs x (.slice px mx cx)) (Mem.get hm 0 rfl) rfl _ Tryz.underlying24 rfl 3 af (Nat.le_refl 4) rfl) ?_))
      | ((with_reducible refine ad (some 35) (.indexAddr 22 (.tmp 31) (.tmp 32)) ?_);go_must (refine aa (.pointer (some ⟨b,i * 3,none⟩)) rfl ((aK (b:=b) (o:=0) i rfl rfl rfl hlt).trans (by rw [Nat.zero_add])) ?_))
      | ((with_reducible refine ad none (.store 24 (.tmp 35) (.tmp 34)) ?_);go_must (refine wpl_stAt (t:=x) (p:=px) (mm:=mx) (c:=cx) (HTO.out.keep hm.below).own HTO.out.len HOLD.out hlt rfl rfl ?_);intro w11 hu11 ho11;have HT11:Hid (To base w8 w11 b k xs' (i+1) (cs2++tcs x (.slice px mx cx)) rs3):=(HTO.out.keep hm.below).store HXI.out HSL.out hu11 ho11;clear hu11 ho11 hm))
     go_roundw
     case rel=>exact ⟨i+1,_,rs3,by go_num,by omega,HT11.out⟩
     case measure=>simp [intOf];omega
    ·have hie:i=k:=by omega
     subst hie
     have hii:¬(i:Int)<(i:Int):=by omega
     go_wp2_with fail
     go_ret
     refine ⟨rfl,xs',HP8.out.1,HP8.out.2,HTO.out.done (HL8.out ()),?_⟩
     have hbb:=(ak HOV.out (b:=b) rfl).1
     exact below_upd (HB8.out.mono HBS.out) HTO.out.upd hbb (Nat.le_trans HBS.out HB8.out.size)
open Go Go.RowKit Classical
def inB (base:List Tm):Tm→Prop:=fun t=>t∈base∧isT t=true
def Kn (base:List Tm) (t:Tm):Prop:=isT t=true∧Der (inB base) t
theorem dN {a b:List Tm} (h:∀t∈a,t∈b) {t:Tm} (hk:Kn a t):Kn b t:=⟨hk.1,hk.2.mono fun _ ht=>⟨h _ ht.1,ht.2⟩⟩
theorem kn_same {a b:List Tm} (h:∀t,t∈a↔t∈b) (t:Tm):Kn a t↔Kn b t:=⟨dN fun t ht=>(h t).1 ht,dN fun t ht=>(h t).2 ht⟩
/-- What is derived adds nothing. -/
theorem kn_adds {a d:List Tm} (h:∀t∈d,Der (inB a) t) (t:Tm):Kn (a++d) t↔Kn a t:=by
 constructor
 ·rintro ⟨h1,h2⟩
  refine ⟨h1,h2.cut fun u hu=>?_⟩
  rcases List.mem_append.1 hu.1 with h3|h3
  ·exact .base ⟨h3,hu.2⟩
  ·exact h u h3
 ·exact dN fun t ht=>List.mem_append.2 (Or.inl ht)
theorem der_two {B:Tm→Prop} {k n:Int} {a b:Tm} (h1:Der B a) (h2:Der B b):Der B (mkT k n [a,b]):=by
 refine .made (by rw [ax];simp) fun x hx=>?_
 rw [ax] at hx
 simp only [List.mem_cons,List.not_mem_nil,or_false] at hx
 rcases hx with rfl|rfl
 ·exact h1
 ·exact h2
theorem der_one {B:Tm→Prop} {k n:Int} {a:Tm} (h:Der B a):Der B (mkT k n [a]):=by
 refine .made (by rw [ax];simp) fun x hx=>?_
 rw [ax] at hx
 rw [List.mem_singleton.1 hx]
 exact h
/-- Where nothing can be taken apart, what can be derived is what can be put together. -/
theorem der_syn {B:Tm→Prop} (hp:∀t,B t→t.k≠4) (hs:∀t a b,B t→t.k=3→t.l=[a,b]→¬Syn B a) {t:Tm} (h:Der B t):Syn B t:=by
 induction h using Der.ind with
 | base hb=>exact .of hb
 | part _ hk hx ih =>
  rcases ih.cs with h1|⟨_,h1⟩
  ·exact absurd hk (hp _ h1)
  ·exact h1 _ hx
 | opened _ hk hl _ ih1 ih2 =>
  rcases ih1.cs with h1|⟨_,h1⟩
  ·exact absurd ih2 (hs _ _ _ h1 hk hl)
  ·exact h1 _ (by rw [hl];simp)
 | made h0 _ ih=>exact .made h0 ih
theorem syn_der {B:Tm→Prop} {t:Tm} (h:Syn B t):Der B t:=by
 induction h using Syn.ind with
 | of hb=>exact .base hb
 | made h0 _ ih=>exact .made h0 ih
/-- The least that it takes derives the goal. -/
theorem leastR_has {D:(Tm→Prop)→Prop} (hD:∀K K':Tm→Prop,(∀t,K t→K' t)→D K→D K'):∀(r:List Tm) (K:Tm→Prop),D (fun t=>K t∨t∈r)→D (fun t=>K t∨t∈leastR D K r):=by
 intro r
 induction r with
 | nil=>intro K h;exact h
 | cons x r ih =>
  intro K h
  rw [leastR]
  by_cases hd:D (fun t=>K t∨t∈r)
  ·rw [if_pos hd];exact ih K hd
  ·rw [if_neg hd]
   have h2:=ih (fun t=>K t∨t=x) (hD _ _ (fun t ht=>by
    rcases ht with h1|h1
    ·exact Or.inl (Or.inl h1)
    ·rcases List.mem_cons.1 h1 with rfl|h1
     ·exact Or.inl (Or.inr rfl)
     ·exact Or.inr h1) h)
   exact hD _ _ (fun t ht=>by
    rcases ht with (h1|rfl)|h1
    ·exact Or.inl h1
    ·exact Or.inr (List.mem_cons_self ..)
    ·exact Or.inr (List.mem_cons_of_mem _ h1)) h2
theorem eI {D:(Tm→Prop)→Prop}:∀(r:List Tm) (K:Tm→Prop),∀t∈leastR D K r,t∈r:=by
 intro r
 induction r with
 | nil=>intro K t ht;exact ht
 | cons x r ih =>
  intro K t ht
  rw [leastR] at ht
  split at ht
  ·exact List.mem_cons_of_mem _ (ih K t ht)
  ·rcases List.mem_cons.1 ht with rfl|ht
   ·exact List.mem_cons_self ..
   ·exact List.mem_cons_of_mem _ (ih _ t ht)
/-- Without any of it there is no way. -/
theorem leastR_min {D:(Tm→Prop)→Prop} (hD:∀K K':Tm→Prop,(∀t,K t→K' t)→D K→D K'):∀(r:List Tm) (K:Tm→Prop) (a b:List Tm) (y:Tm),leastR D K r=a++y::b→¬D (fun t=>K t∨t∈a++b):=by
 intro r
 induction r with
 | nil=>intro K a b y h;cases a<;>cases h
 | cons x r ih =>
  intro K a b y h
  rw [leastR] at h
  by_cases hd:D (fun t=>K t∨t∈r)
  ·rw [if_pos hd] at h;exact ih K a b y h
  ·rw [if_neg hd] at h
   cases a with
   | nil =>
    simp only [List.nil_append,List.cons.injEq] at h
    obtain ⟨rfl,hb⟩:=h
    intro hc
    refine hd (hD _ _ (fun t ht=>?_) hc)
    rcases ht with h1|h1
    ·exact Or.inl h1
    ·rw [List.nil_append,←hb] at h1
     exact Or.inr (eI r _ t h1)
   | cons z a =>
    simp only [List.cons_append,List.cons.injEq] at h
    obtain ⟨rfl,h⟩:=h
    intro hc
    refine ih (fun t=>K t∨t=x) a b y h (hD _ _ (fun t ht=>?_) hc)
    rcases ht with h1|h1
    ·exact Or.inl (Or.inl h1)
    ·rw [List.cons_append] at h1
     rcases List.mem_cons.1 h1 with rfl|h1
     ·exact Or.inl (Or.inr rfl)
     ·exact Or.inr h1
def chT:Nat→Tm
 | 0=>mkT 2 9 []
 | i+1=>mkT 5 ((i+1:Nat):Int) [chT i]
theorem dE (i:Nat):(chT i).k=if i=0 then 2 else 5:=by cases i<;>rfl
theorem chT_n (i:Nat):(chT i).n=if i=0 then 9 else (i:Int):=by
 cases i with
 | zero=>rfl
 | succ i=>rw [if_neg (by omega)];rfl
theorem chT_inj {i j:Nat} (h:chT i=chT j):i=j:=by
 have h1:=congrArg Tm.k h
 have h2:=congrArg Tm.n h
 rw [dE,dE] at h1
 rw [chT_n,chT_n] at h2
 by_cases hi:i=0<;>by_cases hj:j=0<;>simp [hi,hj] at h1 h2 ⊢
 omega
theorem chT_up {B:Tm→Prop} {i:Nat} (h:Der B (chT i)) (d:Nat):Der B (chT (i+d)):=by
 induction d with
 | zero=>exact h
 | succ d ih=>exact der_one ih
/-- From a later one an elder one can't be had. -/
theorem chT_no {B:Tm→Prop} {from_ to:Nat} (hlt:to<from_) (hB:∀t,B t→t=chT from_∨(t.k=3∧∀a b,t.l=[a,b]→a=chT to)):¬Der B (chT to):=by
 have key:∀i,i<from_→¬Syn B (chT i):=by
  intro i
  induction i with
  | zero =>
   intro hi h
   rcases h.cs with h1|⟨h0,h1⟩
   ·rcases hB _ h1 with h2|h2
    ·have:=chT_inj h2;omega
    ·have:=h2.1;rw [dE] at this;simp at this
   ·exact h0 (by show (mkT 2 9 []).l=[];rw [ax])
  | succ i ih =>
   intro hi h
   rcases h.cs with h1|⟨h0,h1⟩
   ·rcases hB _ h1 with h2|h2
    ·have:=chT_inj h2;omega
    ·have:=h2.1;rw [dE] at this;simp at this
   ·exact ih (by omega) (h1 (chT i) (by show chT i∈(mkT 5 _ [chT i]).l;rw [ax];simp))
 intro h
 refine key to hlt (der_syn (fun t ht=>?_) (fun t a b ht hk hl=>?_) h)
 ·rcases hB t ht with h2|h2
  ·rw [h2,dE];split<;>decide
  ·rw [h2.1];decide
 ·rcases hB t ht with h2|h2
  ·rw [h2,dE] at hk
   split at hk<;>cases hk
  ·rw [h2.2 a b hl];exact key to hlt
open Go Go.RowKit Classical
theorem webW_in (t:Tm):∀T,Web T→t∈T→webW t T=T:=by
 induction t using Tm.ind with
 | h t ih =>
  intro T hT ht
  have key:∀l:List Tm,(∀x∈l,x∈t.l)→webWs l T=T:=by
   intro l
   induction l with
   | nil=>intro _;rfl
   | cons y l ih2 =>
    intro hs
    have hy:=hs y (List.mem_cons_self ..)
    rw [bF,ih y hy T hT (hT.kids t ht y hy)]
    exact ih2 fun z hz=>hs z (List.mem_cons_of_mem _ hz)
  rw [cQ,key t.l (fun _ h=>h),if_pos ((cU hT.ok (hT.ok t ht)).2 ht)]
theorem webWs_in {l T:List Tm} (hT:Web T) (h:∀t∈l,t∈T):webWs l T=T:=by
 induction l with
 | nil=>rfl
 | cons y l ih =>
  rw [bF,webW_in y T hT (h y (List.mem_cons_self ..))]
  exact ih fun t ht=>h t (List.mem_cons_of_mem _ ht)
theorem webWs_len (l:List Tm):∀T,(webWs l T).length≤T.length+(l.map cnt).sum:=by
 induction l with
 | nil=>intro T;simp [webWs]
 | cons y l ih =>
  intro T
  rw [bF]
  have h1:=dI y T
  have h2:=ih (webW y T)
  simp only [List.map_cons,List.sum_cons]
  omega
theorem webWs_isT {l:List Tm} (h:∀t∈l,∀T,(∀x∈T,isT x=true)→∀x∈webW t T,isT x=true):∀T,(∀x∈T,isT x=true)→∀x∈webWs l T,isT x=true:=by
 induction l with
 | nil=>intro T hT;exact hT
 | cons y l ih =>
  intro T hT
  rw [bF]
  exact ih (fun t ht=>h t (List.mem_cons_of_mem _ ht)) _ (h y (List.mem_cons_self ..) T hT)
/-- What comes in are parts of what was added. -/
theorem webW_isT (t:Tm):isT t=true→∀T,(∀x∈T,isT x=true)→∀x∈webW t T,isT x=true:=by
 induction t using Tm.ind with
 | h t ih =>
  intro ht T hT x hx
  have h1:=webWs_isT (l:=t.l) (fun y hy=>ih y hy (isT_kid ht hy)) T hT
  rw [cQ] at hx
  split at hx
  ·exact h1 x hx
  ·rcases List.mem_append.1 hx with hx|hx
   ·exact h1 x hx
   ·rw [List.mem_singleton.1 hx];exact ht
theorem webB_isT (l:List Tm):∀x∈webWs (l.filter isT) [],isT x=true :=
 webWs_isT (fun t ht=>webW_isT t (List.mem_filter.1 ht).2) [] fun x hx=>(by cases hx)
theorem db (l:List Tm):Web (webWs (l.filter isT) [])∧∀x∈l.filter isT,x∈webWs (l.filter isT) []:=by
 have h:=dk (l.filter isT) (fun t ht=>(bi.1 (List.mem_filter.1 ht).2).2) [] Web.nil
 exact ⟨h.1,h.2.2⟩
theorem bE {a b:Tm} (h:txt a≠txt b):a≠b:=fun he=>h (he▸rfl)
theorem inB_nil (t:Tm):¬inB [] t:=fun h=>(by cases h.1)
/-- What has no parts and isn't known can't be derived, where nothing is known. -/
theorem der_none {B:Tm→Prop} (hB:∀t,¬B t) {t:Tm} (h0:t.l=[]):¬Der B t:=fun h=>by
 have h1:=h.syn (T:=fun _=>True) (K:=fun _=>False) (fun _ _ _ _=>trivial) (fun _ h=>h.elim) (fun t hb=>hB t hb) ⟨fun _ _ h=>h.elim,fun _ _ _ h=>h.elim,fun t _ h2 h3=>by
  cases hl:t.l with
  | nil=>exact h2 hl
  | cons y r=>exact h3 y (by rw [hl];simp)⟩
 rcases h1.cs with h2|⟨h2,_⟩
 ·exact h2
 ·exact h2 h0
def kk1:Tm:=mkT 2 1 []
def kn2:Tm:=mkT 1 2 []
def kk4:Tm:=mkT 2 4 []
def kd3:Tm:=mkT 5 3 [kk4]
def kn5:Tm:=mkT 1 5 []
def kB1:Tm:=mkT 3 0 [kk1,kn2]
def kB3:Tm:=mkT 3 0 [kd3,kn5]
def kBl:List Tm:=[kB1,kk1,kB3]
def kTl:List Tm:=[kk1,kn2,kB1,kk4,kd3,kn5,kB3]
def kKl:List Tm:=[kk1,kn2,kB1,kB3]
theorem kB_isT:∀t∈kBl,isT t=true:=by
 intro t ht
 simp only [kBl,List.mem_cons,List.not_mem_nil,or_false] at ht
 rcases ht with rfl|rfl|rfl<;>decide +kernel
theorem d8:kBl.filter isT=kBl:=List.filter_eq_self.2 kB_isT
theorem kT_eq:webWs kBl []=kTl:=by kernel_rfl
theorem kT_kids:KidsIn (· ∈ kTl):=by
 intro t ht x hx
 simp only [kTl,List.mem_cons,List.not_mem_nil,or_false] at ht ⊢
 rcases ht with rfl|rfl|rfl|rfl|rfl|rfl|rfl
 ·rw [kk1,ax] at hx;cases hx
 ·rw [kn2,ax] at hx;cases hx
 ·rw [kB1,ax] at hx
  simp only [List.mem_cons,List.not_mem_nil,or_false] at hx
  rcases hx with rfl|rfl<;>simp
 ·rw [kk4,ax] at hx;cases hx
 ·rw [kd3,ax,List.mem_singleton] at hx
  subst hx;simp
 ·rw [kn5,ax] at hx;cases hx
 ·rw [kB3,ax] at hx
  simp only [List.mem_cons,List.not_mem_nil,or_false] at hx
  rcases hx with rfl|rfl<;>simp
theorem kd3_no:kd3 ∉ kKl:=by
 simp only [kKl,List.mem_cons,List.not_mem_nil,or_false,not_or]
 exact ⟨bE (by decide +kernel),bE (by decide +kernel),bE (by decide +kernel),bE (by decide +kernel)⟩
theorem kk4_no:kk4 ∉ kKl:=by
 simp only [kKl,List.mem_cons,List.not_mem_nil,or_false,not_or]
 exact ⟨bE (by decide +kernel),bE (by decide +kernel),bE (by decide +kernel),bE (by decide +kernel)⟩
theorem kn5_no:kn5 ∉ kKl:=by
 simp only [kKl,List.mem_cons,List.not_mem_nil,or_false,not_or]
 exact ⟨bE (by decide +kernel),bE (by decide +kernel),bE (by decide +kernel),bE (by decide +kernel)⟩
theorem kK_shut:Shut (· ∈ kTl) (· ∈ kKl):=by
 refine ⟨fun t x ht hk _=>?_,fun t a b ht hk hl ha=>?_,fun t ht h0 hx=>?_⟩
 ·simp only [kKl,List.mem_cons,List.not_mem_nil,or_false] at ht
  rcases ht with rfl|rfl|rfl|rfl<;>exact absurd hk (by decide)
 ·simp only [kKl,List.mem_cons,List.not_mem_nil,or_false] at ht
  rcases ht with rfl|rfl|rfl|rfl
  ·exact absurd hk (by decide)
  ·exact absurd hk (by decide)
  ·rw [kB1,ax] at hl
   simp only [List.cons.injEq,and_true] at hl
   rw [←hl.2];simp [kKl]
  ·rw [kB3,ax] at hl
   simp only [List.cons.injEq,and_true] at hl
   rw [←hl.1] at ha
   exact absurd ha kd3_no
 ·simp only [kTl,List.mem_cons,List.not_mem_nil,or_false] at ht
  rcases ht with rfl|rfl|rfl|rfl|rfl|rfl|rfl
  ·simp [kKl]
  ·simp [kKl]
  ·simp [kKl]
  ·exact absurd (by rw [kk4,ax]) h0
  ·exact absurd (hx kk4 (by rw [kd3,ax];simp)) kk4_no
  ·exact absurd (by rw [kn5,ax]) h0
  ·simp [kKl]
theorem kB_in (t:Tm):inB kBl t↔t∈kBl:=⟨fun h=>h.1,fun h=>⟨h,kB_isT t h⟩⟩
theorem kDn2 {B:Tm→Prop} (h1:B kB1) (h2:B kk1):Der B kn2:=.opened (t:=kB1) (a:=kk1) (.base h1) rfl (by rw [kB1,ax]) (.base h2)
theorem kK_der:∀t∈kKl,Der (inB kBl) t:=by
 have hb:∀t∈kBl,Der (inB kBl) t:=fun t ht=>.base ((kB_in t).2 ht)
 intro t ht
 simp only [kKl,List.mem_cons,List.not_mem_nil,or_false] at ht
 rcases ht with rfl|rfl|rfl|rfl
 ·exact hb _ (by simp [kBl])
 ·exact kDn2 ((kB_in _).2 (by simp [kBl])) ((kB_in _).2 (by simp [kBl]))
 ·exact hb _ (by simp [kBl])
 ·exact hb _ (by simp [kBl])
theorem k_der {t:Tm} (ht:t∈kTl):Der (inB kBl) t↔t∈kKl:=by
 refine en (T:=(· ∈ kTl)) (K:=(· ∈ kKl)) kT_kids (fun t ht=>?_) (fun t hb=>?_) kK_shut kK_der ht
 ·simp only [kKl,List.mem_cons,List.not_mem_nil,or_false] at ht
  rcases ht with rfl|rfl|rfl|rfl<;>simp [kTl]
 ·have:=(kB_in t).1 hb
  simp only [kBl,List.mem_cons,List.not_mem_nil,or_false] at this
  rcases this with rfl|rfl|rfl<;>simp [kKl]
theorem kKn1:Kn kBl kn2:=⟨by decide +kernel,kK_der _ (by simp [kKl])⟩
theorem kKn2:¬Kn kBl kn5:=fun h=>kn5_no ((k_der (by simp [kTl])).1 h.2)
def kG3:Tm:=mkT 4 0 [kk1,mkT 5 9 [kn2]]
theorem kKn3:Kn kBl kG3:=⟨by decide +kernel,der_two (kK_der _ (by simp [kKl])) (der_one (kK_der _ (by simp [kKl])))⟩
def kG4:Tm:=mkT 1 1 []
theorem kKn4:¬Kn [] kG4:=fun h=>der_none inB_nil (by rw [kG4,ax]) h.2
theorem kK_nd:kKl.Nodup:=by
 have h:(kKl.map txt).Nodup:=by decide +kernel
 exact List.Pairwise.of_map txt (fun _ _ h he=>h (he▸rfl)) h
/-- Just four of the parts can be derived. -/
theorem k_four {R:List Tm} (hn:R.Nodup) (h:∀t,t∈R↔t∈kTl∧Der (inB kBl) t):R.length=4:=by
 have hp:R.Perm kKl:=by
  refine (List.perm_ext_iff_of_nodup hn kK_nd).2 fun t=>?_
  rw [h]
  constructor
  ·rintro ⟨h1,h2⟩;exact (k_der h1).1 h2
  ·intro h1
   have h2:t∈kTl:=by
    simp only [kKl,List.mem_cons,List.not_mem_nil,or_false] at h1
    rcases h1 with rfl|rfl|rfl|rfl<;>simp [kTl]
   exact ⟨h2,kK_der t h1⟩
 rw [hp.length_eq];rfl
theorem k_least:(leastF (fun K=>Der K kn2) (fun _=>False) (kBl.filter isT)).length=2:=by
 have e:(kBl.filter isT).reverse=[kB3,kk1,kB1]:=by rw [d8];rfl
 unfold leastF
 rw [e,List.length_reverse]
 have d1:Der (fun t=>False∨t∈[kk1,kB1]) kn2:=kDn2 (Or.inr (by simp)) (Or.inr (by simp))
 have kids1:KidsIn (· ∈ [kk1,kn2,kB1]):=by
  intro t ht x hx
  simp only [List.mem_cons,List.not_mem_nil,or_false] at ht ⊢
  rcases ht with rfl|rfl|rfl
  ·rw [kk1,ax] at hx;cases hx
  ·rw [kn2,ax] at hx;cases hx
  ·rw [kB1,ax] at hx
   simp only [List.mem_cons,List.not_mem_nil,or_false] at hx
   rcases hx with rfl|rfl<;>simp
 have n12:kk1≠kB1:=bE (by decide +kernel)
 have n21:kn2≠kB1:=bE (by decide +kernel)
 have n22:kn2≠kk1:=bE (by decide +kernel)
 have d2:¬Der (fun t=>False∨t∈[kB1]) kn2:=fun h=>by
  have h1:=(en (B:=fun t=>False∨t∈[kB1]) (T:=(· ∈ [kk1,kn2,kB1])) (K:=(· ∈ [kB1])) kids1 (fun t ht=>by rw [List.mem_singleton.1 ht];simp) (fun t hb=>hb.resolve_left id) ⟨fun t x ht hk _=>by
    rw [List.mem_singleton.1 ht] at hk;exact absurd hk (by decide),fun t a b ht hk hl ha=>by
    rw [List.mem_singleton.1 ht,kB1,ax] at hl
    simp only [List.cons.injEq,and_true] at hl
    rw [←hl.1] at ha
    exact absurd (List.mem_singleton.1 ha) n12,fun t ht h0 hx=>by
    simp only [List.mem_cons,List.not_mem_nil,or_false] at ht
    rcases ht with rfl|rfl|rfl
    ·exact absurd (by rw [kk1,ax]) h0
    ·exact absurd (by rw [kn2,ax]) h0
    ·simp⟩ (fun t ht=>.base (Or.inr ht)) (by simp)).1 h
  exact n21 (List.mem_singleton.1 h1)
 have d3:¬Der (fun t=>(False∨t=kk1)∨t∈([]:List Tm)) kn2:=fun h=>by
  have h1:=(en (B:=fun t=>(False∨t=kk1)∨t∈([]:List Tm)) (T:=(· ∈ [kk1,kn2])) (K:=(· ∈ [kk1])) (fun t ht x hx=>by
    simp only [List.mem_cons,List.not_mem_nil,or_false] at ht
    rcases ht with rfl|rfl
    ·rw [kk1,ax] at hx;cases hx
    ·rw [kn2,ax] at hx;cases hx) (fun t ht=>by rw [List.mem_singleton.1 ht];simp) (fun t hb=>by
    rcases hb with (hb|hb)|hb
    ·exact hb.elim
    ·rw [hb];simp
    ·cases hb) ⟨fun t x ht hk _=>by
    rw [List.mem_singleton.1 ht] at hk;exact absurd hk (by decide),fun t a b ht hk _ _=>by
    rw [List.mem_singleton.1 ht] at hk;exact absurd hk (by decide),fun t ht h0 hx=>by
    simp only [List.mem_cons,List.not_mem_nil,or_false] at ht
    rcases ht with rfl|rfl
    ·simp
    ·exact absurd (by rw [kn2,ax]) h0⟩ (fun t ht=>.base (Or.inl (Or.inr (List.mem_singleton.1 ht)))) (by simp)).1 h
  exact n22 (List.mem_singleton.1 h1)
 rw [leastR,if_pos d1,leastR,if_neg d2,leastR,if_neg d3,leastR]
 rfl
def slN (i:Nat):Tm:=mkT 1 (i:Int) []
def slK (i:Nat):Tm:=mkT 2 (i:Int) []
def slT:Nat→Tm
 | 0=>mkT 1 50 []
 | i+1=>mkT 3 0 [slK i,mkT 4 0 [slT i,slN i]]
def slP (i:Nat):Tm:=mkT 4 0 [slT i,slN i]
theorem da (i:Nat):(slT i).k=if i=0 then 1 else 3:=by cases i<;>rfl
theorem slT_l (i:Nat):(slT (i+1)).l=[slK i,slP i]:=ax _ _ _
theorem slP_l (i:Nat):(slP i).l=[slT i,slN i]:=ax _ _ _
theorem slN_inj {i j:Nat} (h:slN i=slN j):i=j:=by
 have h1:=congrArg Tm.n h
 have h2:(i:Int)=(j:Int):=h1
 omega
theorem slK_inj {i j:Nat} (h:slK i=slK j):i=j:=by
 have h1:=congrArg Tm.n h
 have h2:(i:Int)=(j:Int):=h1
 omega
theorem slT_inj {i j:Nat} (h:slT i=slT j):i=j:=by
 match i,j with
 | 0,0=>rfl
 | 0,j+1=>exact absurd (congrArg Tm.k h) (by rw [da,da];simp)
 | i+1,0=>exact absurd (congrArg Tm.k h) (by rw [da,da];simp)
 | i+1,j+1 =>
  have h1:=congrArg Tm.l h
  rw [slT_l,slT_l] at h1
  simp only [List.cons.injEq,and_true] at h1
  rw [slK_inj h1.1]
theorem slP_inj {i j:Nat} (h:slP i=slP j):i=j:=by
 have h1:=congrArg Tm.l h
 rw [slP_l,slP_l] at h1
 simp only [List.cons.injEq,and_true] at h1
 exact slN_inj h1.2
theorem ef (i:Nat):cnt (slT i)=1+4 * i:=by
 induction i with
 | zero=>rw [slT,bM];rfl
 | succ i ih =>
  rw [slT,bM]
  simp only [List.map_cons,List.map_nil,List.sum_cons,List.sum_nil]
  rw [bM]
  simp only [List.map_cons,List.map_nil,List.sum_cons,List.sum_nil]
  rw [ih,slN,slK,bM,bM]
  simp
  omega
theorem slK_ok {i:Nat} (h:i≤99):okT (slK i)=true:=by
 rw [slK,c7];simp [okF,nb,kn];omega
theorem slN_ok {i:Nat} (h:i≤99):okT (slN i)=true:=by
 rw [slN,c7];simp [okF,nb,kn];omega
theorem slT_ok:∀(i:Nat),i≤99→okT (slT i)=true
 | 0,_=>by rw [slT,c7];simp [okF,nb,kn]
 | i+1,h=>by
  rw [slT,c7]
  simp only [List.all_cons,List.all_nil,Bool.and_true,slK_ok (show i≤99 by omega)]
  rw [c7]
  simp only [List.all_cons,List.all_nil,Bool.and_true,slT_ok i (by omega),slN_ok (show i≤99 by omega)]
  simp [okF,nb,kn]
theorem ed {i:Nat} (h:i≤10):isT (slT i)=true:=bi.2 ⟨by rw [ef];omega,slT_ok i (by omega)⟩
theorem slK_isT {i:Nat} (h:i≤99):isT (slK i)=true:=bi.2 ⟨by rw [slK,bM];simp,slK_ok h⟩
/-- Each key at hand: all is opened. -/
theorem sl_yes {B:Tm→Prop} {k:Nat} (h0:B (slT k)) (hk:∀i,i<k→B (slK i)):∀d,d≤k→Der B (slT (k - d)):=by
 intro d
 induction d with
 | zero=>intro _;exact .base h0
 | succ d ih =>
  intro hd
  have h1:=ih (by omega)
  obtain ⟨j,hj⟩:∃j,k - d=j+1:=⟨k - d - 1,by omega⟩
  have hj2:k - (d+1)=j:=by omega
  rw [hj] at h1
  rw [hj2]
  have h2:Der B (slP j):=.opened h1 (by rw [da];simp) (slT_l j) (.base (hk j (by omega)))
  exact .part h2 rfl (by rw [slP_l];simp)
/-- A key isn't there: what lies within isn't derived. -/
theorem sl_no {B:Tm→Prop} {k j:Nat} (hj:j<k) (hk9:k≤40) (hB:∀t,B t→t=slT k∨∃i,i<k∧i≠j∧t=slK i):¬Der B (slT 0):=by
 intro h
 have h1:=h.syn (T:=fun t=>(∃i,i≤k∧t=slT i)∨(∃i,i<k∧t=slP i)∨(∃i,i<k∧t=slK i)∨∃i,i<k∧t=slN i)
  (K:=fun t=>(∃i,j<i∧i≤k∧t=slT i)∨(∃i,j<i∧i<k∧t=slP i)∨(∃i,i<k∧i≠j∧t=slK i)∨∃i,j<i∧i<k∧t=slN i)
  (by
   rintro t (⟨i,hi,rfl⟩|⟨i,hi,rfl⟩|⟨i,hi,rfl⟩|⟨i,hi,rfl⟩) x hx
   ·cases i with
    | zero=>rw [slT,ax] at hx;cases hx
    | succ i =>
     rw [slT_l] at hx
     simp only [List.mem_cons,List.not_mem_nil,or_false] at hx
     rcases hx with rfl|rfl
     ·exact Or.inr (Or.inr (Or.inl ⟨i,by omega,rfl⟩))
     ·exact Or.inr (Or.inl ⟨i,by omega,rfl⟩)
   ·rw [slP_l] at hx
    simp only [List.mem_cons,List.not_mem_nil,or_false] at hx
    rcases hx with rfl|rfl
    ·exact Or.inl ⟨i,by omega,rfl⟩
    ·exact Or.inr (Or.inr (Or.inr ⟨i,hi,rfl⟩))
   ·rw [slK,ax] at hx;cases hx
   ·rw [slN,ax] at hx;cases hx)
  (by
   rintro t (⟨i,_,hi,rfl⟩|⟨i,_,hi,rfl⟩|⟨i,hi,_,rfl⟩|⟨i,_,hi,rfl⟩)
   ·exact Or.inl ⟨i,hi,rfl⟩
   ·exact Or.inr (Or.inl ⟨i,hi,rfl⟩)
   ·exact Or.inr (Or.inr (Or.inl ⟨i,hi,rfl⟩))
   ·exact Or.inr (Or.inr (Or.inr ⟨i,hi,rfl⟩)))
  (by
   intro t hb
   rcases hB t hb with rfl|⟨i,h1,h2,rfl⟩
   ·exact Or.inl ⟨k,hj,Nat.le_refl _,rfl⟩
   ·exact Or.inr (Or.inr (Or.inl ⟨i,h1,h2,rfl⟩)))
  (by
   refine ⟨?_,?_,?_⟩
   ·rintro t x (⟨i,_,hi,rfl⟩|⟨i,hji,hi,rfl⟩|⟨i,hi,_,rfl⟩|⟨i,_,hi,rfl⟩) hk hx
    ·rw [da] at hk
     split at hk<;>cases hk
    ·rw [slP_l] at hx
     simp only [List.mem_cons,List.not_mem_nil,or_false] at hx
     rcases hx with rfl|rfl
     ·exact Or.inl ⟨i,hji,by omega,rfl⟩
     ·exact Or.inr (Or.inr (Or.inr ⟨i,hji,hi,rfl⟩))
    ·exact absurd (show (2:Int)=4 from hk) (by decide)
    ·exact absurd (show (1:Int)=4 from hk) (by decide)
   ·rintro t a b (⟨i,hji,hi,rfl⟩|⟨i,hji,hi,rfl⟩|⟨i,hi,_,rfl⟩|⟨i,_,hi,rfl⟩) hk hl ha
    ·obtain ⟨i,rfl⟩:∃i',i=i'+1:=⟨i - 1,by omega⟩
     rw [slT_l] at hl
     simp only [List.cons.injEq,and_true] at hl
     obtain ⟨rfl,rfl⟩:=hl
     have hij:i≠j:=by
      rcases ha with ⟨n,_,_,hn⟩|⟨n,_,_,hn⟩|⟨n,_,hn2,hn⟩|⟨n,_,_,hn⟩
      ·have:=congrArg Tm.k hn
       rw [da] at this
       split at this<;>cases this
      ·exact absurd (show (2:Int)=4 from congrArg Tm.k hn) (by decide)
      ·rw [slK_inj hn];exact hn2
      ·exact absurd (show (2:Int)=1 from congrArg Tm.k hn) (by decide)
     exact Or.inr (Or.inl ⟨i,by omega,by omega,rfl⟩)
    ·exact absurd (show (4:Int)=3 from hk) (by decide)
    ·exact absurd (show (2:Int)=3 from hk) (by decide)
    ·exact absurd (show (1:Int)=3 from hk) (by decide)
   ·rintro t (⟨i,hi,rfl⟩|⟨i,hi,rfl⟩|⟨i,hi,rfl⟩|⟨i,hi,rfl⟩) h0 hx
    ·cases i with
     | zero=>exact absurd (by rw [slT,ax]) h0
     | succ i =>
      rcases hx (slP i) (by rw [slT_l];simp) with ⟨n,_,_,hn⟩|⟨n,hn1,_,hn⟩|⟨n,_,_,hn⟩|⟨n,_,_,hn⟩
      ·have:=congrArg Tm.k hn
       rw [da] at this
       split at this<;>cases this
      ·have:=slP_inj hn
       exact Or.inl ⟨i+1,by omega,hi,rfl⟩
      ·exact absurd (show (4:Int)=2 from congrArg Tm.k hn) (by decide)
      ·exact absurd (show (4:Int)=1 from congrArg Tm.k hn) (by decide)
    ·rcases hx (slT i) (by rw [slP_l];simp) with ⟨n,hn1,_,hn⟩|⟨n,_,_,hn⟩|⟨n,_,_,hn⟩|⟨n,_,_,hn⟩
     ·have:=slT_inj hn
      exact Or.inr (Or.inl ⟨i,by omega,hi,rfl⟩)
     ·have:=congrArg Tm.k hn
      rw [da] at this
      split at this<;>cases this
     ·have h8:=congrArg Tm.k hn
      rw [da] at h8
      split at h8<;>cases h8
     ·have h8:=congrArg Tm.n hn
      have h9:=congrArg Tm.k hn
      rw [da] at h9
      split at h9
      ·next he =>
       rw [he] at h8
       have h10:(50:Int)=(n:Int):=h8
       omega
      ·cases h9
    ·exact absurd (by rw [slK,ax]) h0
    ·exact absurd (by rw [slN,ax]) h0)
 rcases h1.cs with (⟨i,h2,_,h3⟩|⟨i,_,_,h3⟩|⟨i,_,_,h3⟩|⟨i,_,h2,h3⟩)|⟨h2,_⟩
 ·have:=slT_inj h3
  omega
 ·exact absurd (show (1:Int)=4 from congrArg Tm.k h3) (by decide)
 ·exact absurd (show (1:Int)=2 from congrArg Tm.k h3) (by decide)
 ·have h4:(50:Int)=(i:Int):=congrArg Tm.n h3
  omega
 ·exact h2 (by rw [slT,ax])
end Go.Proofs.YtcibhfcjbokdlaaGreatDoor
