import Derived.Test.YtdmohffogfbnbaaDoorQx04
import Derived.Shelf.SlSortCmp.NoneTotal
import Derived.Shelf.SortM.Plain
import Derived.Shelf.SortM.SortNone
import Derived.Test.YtdmohffogfbnbaaDoorChecked
import Derived.Calls
import Derived.Shelf.Abstract
import Derived.Sort.Grow
import Derived.Sort.Walk0
import Derived.Maps.RangeWalk
set_option maxRecDepth 100000
set_option maxHeartbeats 4000000
namespace Go.Proofs.YtdmohffogfbnbaaDoor
open Go Go.RowKit Go.Maps
section
variable {P:Program} {a:Act} {w:World} {dst:Option Tmp} {typ:TypeId} {pos:String} {aft:Array Edge} {gd:Option (Nat×Bool)}
theorem bD {t:TypeId} {xs:Array (Nat×Operand)} (l:List Value) (vs:List (Nat×Value)) (hv:(xs.map fun q=>(q.1,a.eval q.2)).toList=vs) (hb:P.built t vs=some l.toArray) :
  (execOp a.eval {dst:=dst,op:=.build t xs,type:=typ,pos:=pos,after:=aft,guard:=gd}).run P w=.ok (.value (.agg l.toArray)) w:=by
 have e:(xs.map fun (i,x)=>(i,a.eval x)).toList=vs:=hv
 unfold execOp
 simp only [Sem.run_bind,run_build w t _ l.toArray (by rw [e];exact hb),Result.andThen_ok,Sem.run_pure]
end
theorem built_np (s u:ByteArray):Tryd.prog.built 42 [(0,.string s),(1,.string u)]=some [Value.string s,.string u].toArray:=by kernel_rfl
theorem two_one (x y:ByteArray):∀v∈[Value.string x,.string y],v.oneCell'=true:=by intro v hv;simp at hv;rcases hv with rfl|rfl<;>rfl
section
variable {a:Act} {w:World} {dst:Option Tmp} {typ:TypeId} {pos:String} {aft:Array Edge} {gd:Option (Nat×Bool)}
theorem exec_ixS1 {x ix:Operand} {b n cap:Nat} (i:Nat) {ii:Int} (hx:a.eval x=.slice (some ⟨b,0,none⟩) n cap) (hix:a.eval ix=.int .i64 ii) (hii:ii=(i:Int)) (hi:i<n) :
  (execOp a.eval {dst:=dst,op:=.indexAddr 53 x ix,type:=typ,pos:=pos,after:=aft,guard:=gd}).run Tryd.prog w=.ok (.value (.pointer (some ⟨b,i,none⟩))) w:=by
 subst hii
 have h0:(0:Int)≤(i:Int)∧(i:Int)<(n:Int):=by omega
 unfold execOp
 simp [hx,hix,Instr.indexAt,asIntOf,run_underlying bA,h0,bO]
 omega
end
theorem split_cells (s:ByteArray) (w:World) (hs:s.size≤1000) (hM:MaxL w) (ks:List ByteArray) (hk:ks=segsB s) (n:Nat) (hn:n=ks.length) (h0:0<n) :
  Calls Tryd.prog 27 #[.string s] w fun e w'=>∃b cap,e=.returned (.slice (some ⟨b,0,none⟩) n cap)∧n≤cap∧w.heap.size≤b∧b<w'.heap.size∧(∀k,k<n→w'.cell? ⟨b,k,none⟩=some (.string (ks.getD k noStr)))∧Below w.heap.size w w':=by
 refine (cw s w hs hM).mono ?_
 rintro e w' ⟨v,rfl,ho,hb⟩
 have hl:=World.ownsRow.lt ho
 have hc:=@World.ownsRow.cells _ _ _ _ _ _ _ ho
 rw [←hk,←hn] at ho
 obtain ⟨h1,h2⟩:=ho
 rcases h2 with ⟨_,h3⟩|⟨g,cap,cur,hv,hbg,hcur,hcap,h4⟩
 ·omega
 ·subst hv
  have h5:=hl g rfl
  refine ⟨g,cap,rfl,hcap,h5.1,h5.2,fun k hk2=>?_,hb⟩
  have h6:=hc (g:=g) rfl k (.string (ks.getD k noStr)) (by
   rw [←hk]
   unfold strs
   rw [List.getElem?_map,List.getElem?_eq_getElem (by omega)]
   simp [show k<ks.length by omega])
  have hadd:(⟨g,0,none⟩:Addr).add k=⟨g,k,none⟩:=by unfold Addr.add;split<;>simp_all
  rwa [hadd] at h6
theorem sls_cells {w:World} {b m n cap:Nat} {ks:List ByteArray} (hm:m≤n) (hn:n=ks.length) (hcap:n≤cap) (hc:∀k,k<n→w.cell? ⟨b,k,none⟩=some (.string (ks.getD k noStr))):SlS w (.slice (some ⟨b,0,none⟩) m cap) (ks.take m):=by
 have hl:(ks.take m).length=m:=by rw [List.length_take];omega
 refine ⟨some ⟨b,0,none⟩,cap,by rw [hl],by rw [hl];omega,by simp [strs],fun h0=>⟨b,0,rfl,fun j u hu=>?_⟩⟩
 have hjm:j<m:=by
  rcases Nat.lt_or_ge j m with h'|h'
  ·exact h'
  ·rw [List.getElem?_eq_none (by simp [strs];omega)] at hu;cases hu
 rw [Nat.zero_add,hc j (by omega),←hu]
 unfold strs
 rw [List.getElem?_map,List.getElem?_take,if_pos hjm,List.getElem?_eq_getElem (by omega)]
 simp [show j<ks.length by omega]
theorem cy (s:ByteArray) (w:World) (hs:s.size≤1000) (hM:MaxL w) :
  Calls Tryd.prog 16 #[.string s] w fun e w'=>e=.returned (.tuple #[.agg (pvv (segsB s)).toArray,.bool (isP (bs s))])∧Below w.heap.size w w':=by
 have hm:=Mem.start w
 have HM:Hid (MaxL w):=hM
 obtain ⟨ks,hks⟩:∃ks,ks=segsB s:=⟨_,rfl⟩
 obtain ⟨r,hr⟩:∃r,r=isP (bs s):=⟨_,rfl⟩
 obtain ⟨n,hn⟩:∃n,n=ks.length:=⟨_,rfl⟩
 have hok:PlOk ks:=by rw [hks];exact a8 s
 have HK:Hid (∀_:Unit,PlOk ks):=fun _=>hok
 have hn3:n≤3:=by rw [hn];exact hok.len
 have HI:Hid (∀W,MaxL W→Calls Tryd.prog 28 #[.string s] W fun e w'=>e=.returned (.bool r)∧Below W.heap.size W w'):=fun W hW=>by rw [hr];exact is_any s W hs hW
 rw [←hks,←hr]
 by_cases h0:n=0
 ·have hks0:ks=[]:=List.length_eq_zero_iff.1 (by omega)
  have HSP:Hid (∀W,MaxL W→Calls Tryd.prog 27 #[.string s] W fun e w'=>∃p cap,e=.returned (.slice p 0 cap)∧Below W.heap.size W w'):=fun W hW=>by
   refine (cw s W hs hW).mono ?_
   rintro e w' ⟨v,rfl,ho,hb⟩
   obtain ⟨p,cap,hv,_⟩:=SlV.len (own_sl ho)
   subst hv
   rw [←hks,hks0]
   exact ⟨p,cap,rfl,hb⟩
  subst hks0
  clear hM hs hr hks hok hn h0 hn3
  go_enter Tryd.func16,Tryd.ntmps16
  go_wp2_with (first
   | ((with_reducible refine aa (some 2) (.alloc 42) ?_);refine ad _ aD hm ?_;clear hm;intro w1 g2 hm)
   | (go_at_call 27;refine (HSP.out _ (HM.out.below hm.below)).mono ?_;rintro e w' ⟨p9,cap9,he,hb⟩;subst he;replace hm:=hm.call hb;clear hb)
   | (go_at_call 15;refine (br _).mono ?_;rintro e w' ⟨he,hb⟩;subst he;replace hm:=hm.call hb;clear hb)
   | (go_at_call 28;refine (HI.out _ (HM.out.below hm.below)).mono ?_;rintro e w' ⟨he,hb⟩;subst he;replace hm:=hm.call hb;clear hb)
   | ((with_reducible refine aa none (.store 42 (.tmp 2) (.tmp 11)) ?_);refine af 0 (pvv []) hm rfl rfl rfl 2 ao rfl rfl (aH _) ?_;clear hm;intro w6 hm))
  refine bo 0 (.bool r) hm rfl Tryd.results16 rfl rfl _ aF rfl 2 ao rfl rfl ?_
  exact ⟨rfl,hm.below⟩
 ·obtain ⟨m,hm1⟩:∃m,n=m+1:=⟨n - 1,by omega⟩
  have hne:ks≠[]:=fun h=>h0 (by rw [hn,h];rfl)
  have hrt:r=true:=by
   rw [hr]
   cases hi:isP (bs s) with
   | true=>rfl
   | false =>
    have h1:=segsOf_no hi
    exact absurd (by rw [hks];unfold segsB;rw [h1];rfl) hne
  subst hrt
  have HSP:Hid (∀W,MaxL W→Calls Tryd.prog 27 #[.string s] W fun e w'=>∃b cap,e=.returned (.slice (some ⟨b,0,none⟩) n cap)∧n≤cap∧W.heap.size≤b∧b<w'.heap.size∧(∀k,k<n→w'.cell? ⟨b,k,none⟩=some (.string (ks.getD k noStr)))∧Below W.heap.size W w'):=fun W hW=>split_cells s W hs hW ks hks n hn (by omega)
  obtain ⟨x,hx⟩:∃x,x=lastS ks:=⟨_,rfl⟩
  obtain ⟨y,hy⟩:∃y,y=tx ks.dropLast:=⟨_,rfl⟩
  have hxm:ks.getD m noStr=x:=by
   rw [hx];unfold lastS
   rw [List.getLast?_eq_getElem?,List.getD_eq_getElem?_getD,show ks.length - 1=m by omega]
  have HPV:Hid (∀_:Unit,pvv ks=[.string y,.string x]):=fun _=>by rw [hx,hy];rfl
  have HJ:Hid (∀(W:World) (b cap:Nat),n≤cap→(∀k,k<n→W.cell? ⟨b,k,none⟩=some (.string (ks.getD k noStr)))→Calls Tryd.prog 29 #[.slice (some ⟨b,0,none⟩) m cap] W fun e w'=>e=.returned (.string y)∧Below W.heap.size W w'):=fun W b cap h1 h2=>by
   have h3:=joinP_any (ks.take m) (.slice (some ⟨b,0,none⟩) m cap) W (sls_cells (n:=n) (by omega) hn h1 h2)
   have h4:ks.take m=ks.dropLast:=by rw [List.dropLast_eq_take,←hn,hm1,Nat.add_sub_cancel]
   rw [h4,plOf_self hok.drop] at h3
   rw [hy];exact h3
  have HXM:Hid (∀_:Unit,ks.getD m noStr=x):=fun _=>hxm
  have hmn:m<n:=by omega
  have h0i:((n:Int)==0)=false:=by rw [beq_eq_false_iff_ne];omega
  have hwr:IntKind.i64.wrap ((n:Int) - 1)=(m:Int):=(wrapi _ (by omega) (by omega)).trans (by omega)
  have hm0:(0:Int)≤(m:Int):=by omega
  have hmi:(m:Int)<(n:Int):=by omega
  clear hM hs hr hks hok hn h0 hn3 hne hx hy hxm hm1 HI
  go_enter Tryd.func16,Tryd.ntmps16
  go_wp2_with (first
   | ((with_reducible refine aa (some 2) (.alloc 42) ?_);refine ad _ aD hm ?_;clear hm;intro w1 g2 hm)
   | (go_at_call 27;refine (HSP.out _ (HM.out.below hm.below)).mono ?_;rintro e w3 ⟨b,cap,he,hcap,hb1,hb2,hc,hb⟩;subst he;have hgs:=Row.lt (hm.get 0 rfl);have hzs:=hm.size;replace hm:=hm.call hb;clear hb))
  have HB3:Hid (Below w.heap.size w w3):=hm.below
  have HC:Hid (∀k,k<n→w3.cell? ⟨b,k,none⟩=some (.string (ks.getD k noStr))):=hc
  have hg2:w.heap.size≤g2:=(hm.fresh (g2,pvv [],42) (by simp)).resolve_left (by simp)
  have hw3:=hm.size
  have hbg:b≠g2:=by omega
  clear hc
  replace hm:=Mem.enter (hm.get 0 rfl)
  refine am ?_
  refine ag (T:=fun W=>∃l,Mem w3 [g2] W [(g2,l,42)]) (by kernel_rfl) hm ?_
  intro wc hbw hmw
  clear hm
  have hm:=hmw
  clear hbw hmw
  refine aT 0 (v:=.slice (some ⟨b,0,none⟩) n cap) rfl (by kernel_rfl) rfl (fun W _=>by go_simp) ⟨_,hm⟩ ?_
  go_simp
  refine aT 1 (v:=.int .i64 (m:Int)) rfl (by kernel_rfl) rfl (fun W _=>by go_simp) ⟨_,hm⟩ ?_
  go_simp
  refine aT 2 (v:=.slice (some ⟨b,0,none⟩) m cap) rfl (by kernel_rfl) rfl (fun W _=>exec_hiB m (by omega) rfl rfl rfl) ⟨_,hm⟩ ?_
  go_simp
  refine aT 4 (v:=.slice (some ⟨b,0,none⟩) n cap) rfl (by kernel_rfl) rfl (fun W _=>by go_simp) ⟨_,hm⟩ ?_
  go_simp
  refine aT 5 (v:=.int .i64 (m:Int)) rfl (by kernel_rfl) rfl (fun W _=>by go_simp) ⟨_,hm⟩ ?_
  go_simp
  refine aT 6 (v:=.pointer (some ⟨b,m,none⟩)) rfl (by kernel_rfl) rfl (fun W _=>exec_ixS1 m rfl rfl rfl hmn) ⟨_,hm⟩ ?_
  go_simp
  refine aT 7 (v:=.string x) rfl (by kernel_rfl) rfl (fun W hW=>by obtain ⟨l,hW⟩:=hW;exact cZ (.string x) ((hW.old (p:=⟨b,m,none⟩) hb2 (by simpa using hbg)).trans ((HC.out m hmn).trans (by rw [HXM.out ()]))) rfl az) ⟨_,hm⟩ ?_
  go_simp
  refine aO 3 (by kernel_rfl) rfl rfl ?_
  intro K hK
  go_wp2_with (go_at_call 29;refine (HJ.out _ b cap hcap (fun k hk=>(hm.old (p:=⟨b,k,none⟩) hb2 (by simpa using hbg)).trans (HC.out k hk))).mono ?_;rintro e w' ⟨he,hb⟩;subst he;replace hm:=hm.call hb;clear hb)
  refine hK _ _ ⟨_,hm⟩ ?_
  clear hK K
  go_simp
  refine aT 8 (v:=.agg [Value.string y,.string x].toArray) rfl (by kernel_rfl) rfl (fun W _=>bD _ [(0,.string y),(1,.string x)] (by go_simp) (built_np y x)) ⟨_,hm⟩ ?_
  go_simp
  refine aO 9 (by kernel_rfl) rfl rfl ?_
  intro K hK
  refine af 0 [Value.string y,.string x] hm rfl rfl rfl 2 ao rfl rfl (two_one y x) ?_
  clear hm
  intro w9 hm
  refine wpList_nil ?_
  refine hK _ _ ⟨_,hm⟩ ?_
  clear hK K
  go_simp
  refine aT 10 (v:=.bool true) rfl (by kernel_rfl) rfl (fun W _=>by go_simp) ⟨_,hm⟩ ?_
  go_simp
  refine wpAnyH_done (by kernel_rfl) ?_ _
  simp only [endsIn]
  go_wp2_with fail
  refine bo 0 (.bool true) hm rfl Tryd.results16 rfl rfl _ aF rfl 2 ao rfl rfl ?_
  exact ⟨by rw [HPV.out ()],aQ HB3.out hm.toUpd hg2 hw3⟩
theorem cM {ks:List ByteArray} (h:PlOk ks) (w:World) (hM:MaxL w) :
  Calls Tryd.prog 19 #[.agg (pvv ks).toArray] w fun e w'=>e=.returned (.agg (pvv ks.dropLast).toArray)∧Below w.heap.size w w':=by
 have hm:=Mem.start w
 have HM:Hid (MaxL w):=hM
 obtain ⟨y,hy⟩:∃y,y=tx ks.dropLast:=⟨_,rfl⟩
 have HC0:Hid ((pvv ks)[0]?=some (.string y)):=by rw [hy];rfl
 have HP:Hid (∀W,MaxL W→Calls Tryd.prog 16 #[.string y] W fun e w'=>e=.returned (.tuple #[.agg (pvv ks.dropLast).toArray,.bool true])∧Below W.heap.size W w'):=fun W hW=>by
  have h1:=cy (tx ks.dropLast) W (by have:=bd h.drop;omega) hW
  rw [co h.drop,isP_tx h.drop] at h1
  rw [hy];exact h1
 clear h hM hy
 go_enter Tryd.func19,Tryd.ntmps19
 go_wp2_with (first
  | ((with_reducible refine aa (some 1) (.box 42 (.tmp 0)) ?_);refine aE (pvv ks) rfl hm ?_;clear hm;intro w1 g1 hm)
  | ((with_reducible refine aa (some 2) (.alloc 42) ?_);refine ad _ aD hm ?_;clear hm;intro w2 g2 hm)
  | ((with_reducible refine aa (some 7) (.load 9 (.tmp 6)) ?_);refine al 1 0 (.string y) hm rfl rfl az (HC0.out) ?_)
  | (go_at_call 16;refine (HP.out _ (HM.out.below hm.below)).mono ?_;rintro e w' ⟨he,hb⟩;subst he;replace hm:=hm.call hb;clear hb)
  | ((with_reducible refine aa (some 3) (.alloc 42) ?_);refine ad _ aD hm ?_;clear hm;intro w3 g3 hm)
  | ((with_reducible refine aa none (.store 42 (.tmp 3) (.tmp 9)) ?_);refine af 0 (pvv ks.dropLast) hm rfl rfl rfl 2 ao rfl rfl (aH _) ?_;clear hm;intro w4 hm)
  | ((with_reducible refine aa (some 11) (.load 42 (.tmp 3)) ?_);refine ak 0 hm rfl rfl _ aF rfl 2 ao (by rfl) ?_)
  | ((with_reducible refine aa none (.store 42 (.tmp 2) (.tmp 11)) ?_);refine af 1 (pvv ks.dropLast) hm rfl rfl rfl 2 ao rfl rfl (aH _) ?_;clear hm;intro w5 hm))
 refine bv 1 hm rfl Tryd.results19 rfl _ aF rfl 2 ao rfl rfl ?_
 exact ⟨rfl,hm.below⟩
def cfN (ks qs:List ByteArray):Int:=cfB (mkS (cd ks)) (mkS (cd qs))
open Go Go.RowKit Go.Maps
section
variable {P:Program} {kT:TypeId} {w w':World} {m q:Nat} {p:Value→Value→Prop}
theorem KM.look1No (h:KM P kT w m q p) (K:Keyed P kT) {t e:TypeId} (ht:P.underlying t=some (.map kT e)) {z:Value} (hz:(zeroValue e).run P w=.ok z w) {key:Value} {kl:Lit} (hk:keyOf P kT key=some kl) (hp:∀v,¬p key v) :
  (Instr.lookup t (.map (some m)) key false).run P w=.ok z w:=by
 obtain ⟨D,ho,h1,h2⟩:=h
 obtain ⟨u,ps,hr,hv⟩:=ho.lookup K ht hz (show rdV z=some (.held z,[]) from rfl) hk
 have e1:=cK hv
 have hn:Maps.has D kl=false:=by
  cases hh:Maps.has D kl with
  | false=>rfl
  | true=>obtain ⟨v,hv⟩:=(h1 key kl hk).1 hh;exact absurd hv (hp v)
 rw [atKey_of_not_has hn] at e1
 simp only [DataW.held.injEq] at e1
 rw [hr,←e1]
end
theorem aj:∀w,(isAgg 3).run Tryd.prog w=.ok false w:=by intro w;simp [go_sem]
theorem bV:(Tryd.prog.info? 3).map (·.size)=some 1:=by kernel_rfl
def lookV (p:Nms) (ks:List ByteArray):List Value:=match getN p ks with|some x=>spv x|none=>spZ
theorem lookV5 (p:Nms) (ks:List ByteArray):(lookV p ks).length=5:=by unfold lookV;split<;>rfl
theorem spv_one (x:Sp):∀v∈spv x,v.oneCell'=true:=by intro v hv;simp [spv] at hv;rcases hv with rfl|rfl|rfl|rfl|rfl<;>rfl
theorem spw_one (x:Sp):∀v∈spw x,v.oneCell'=true:=by
 intro v hv
 rcases List.mem_append.1 hv with h|h
 ·exact spv_one x v h
 ·simp at h;rcases h with rfl|rfl<;>rfl
def lookW (p:Nms) (ks:List ByteArray):List Value:=match getN p ks with|some x=>spw x|none=>swZ
theorem lookW7 (p:Nms) (ks:List ByteArray):(lookW p ks).length=7:=by unfold lookW;split<;>rfl
theorem cS {p:Nms} {ks:List ByteArray} {x:Sp} (h:getN p ks=some x):lookW p ks=spw x:=by unfold lookW;rw [h]
theorem cY {p:Nms} {ks:List ByteArray} (h:getN p ks=none):lookW p ks=swZ:=by unfold lookW;rw [h]
theorem lookW_one (p:Nms) (ks:List ByteArray):∀v∈lookW p ks,v.oneCell'=true:=by
 unfold lookW
 split
 ·exact spw_one _
 ·intro v hv
  simp [swZ,spZ] at hv
  rcases hv with rfl|rfl<;>rfl
theorem look_part (p:Nms) (ks:List ByteArray):∃a b,lookW p ks=lookV p ks++[.int .i64 a,.int .i64 b]:=by
 unfold lookW lookV
 split
 ·exact ⟨_,_,rfl⟩
 ·exact ⟨0,0,rfl⟩
theorem lookV_one (p:Nms) (ks:List ByteArray):∀v∈lookV p ks,v.oneCell'=true:=by
 unfold lookV
 split
 ·exact spv_one _
 ·exact ba [] 0 0
theorem NmOk.get {p:Nms} (h:NmOk p) {x:Sp} (hx:x∈p):getN p x.1=some x:=by
 cases hg:getN p x.1 with
 | none=>have:=ar.2 ⟨x,hx,rfl⟩;rw [getN_none hg] at this;cases this
 | some y=>rw [h.uniq (bb hg).1 hx (bb hg).2]
structure NmAt (w:World) (nb m c:Nat) (p:Nms):Prop where
 row:Row w nb [.map (some m)] 48
 map:∃q,q≤c∧KM Tryd.prog 42 w m q (NmK p)
 ok:NmOk p
theorem NmAt.below {w w':World} {nb m c:Nat} {p:Nms} (h:NmAt w nb m c p) (hb:Below w.heap.size w w'):NmAt w' nb m c p:=by
 obtain ⟨q,hq,hk⟩:=h.map
 exact ⟨Row.bel h.row hb,⟨q,hq,hk.below hb⟩,h.ok⟩
theorem NmAt.mono {w:World} {nb m c c':Nat} {p:Nms} (h:NmAt w nb m c p) (hc:c≤c'):NmAt w nb m c' p:=by
 obtain ⟨q,hq,hk⟩:=h.map
 exact ⟨h.row,⟨q,by omega,hk⟩,h.ok⟩
theorem NmAt.isMap {w:World} {nb m c:Nat} {p:Nms} (h:NmAt w nb m c p):∃es n,w.heap[m]?=some (.map es n):=by
 obtain ⟨q,_,hk⟩:=h.map
 exact hk.isMap
theorem NmAt.lt {w:World} {nb m c:Nat} {p:Nms} (h:NmAt w nb m c p):m<w.heap.size:=by
 obtain ⟨q,_,hk⟩:=h.map
 exact hk.lt
theorem nmK_val {p:Nms} {ks:List ByteArray} (hp:NmOk p) (hk:PlOk ks) {v:Value} (h:NmK p (.agg (pvv ks).toArray) v):∃x,getN p ks=some x∧v=.agg (spw x).toArray:=by
 obtain ⟨x,hx,he,rfl⟩:=h
 obtain rfl:=bG hk (hp.ok x hx) he
 exact ⟨x,hp.get hx,rfl⟩
theorem cg (w:World):(zeroValue 45).run Tryd.prog w=.ok (.agg swZ.toArray) w:=aR w
theorem NmAt.look {w:World} {nb m c:Nat} {p:Nms} (h:NmAt w nb m c p) {ks:List ByteArray} (hk:PlOk ks) (V:List Value) (b:Bool) (hV:V=lookW p ks) (hb:b=hasN p ks) :
  (Instr.lookup 46 (.map (some m)) (.agg (pvv ks).toArray) true).run Tryd.prog w=.ok (.tuple #[.agg V.toArray,.bool b]) w:=by
 obtain ⟨q,_,km⟩:=h.map
 obtain ⟨kl,hkl⟩:=cD hk
 subst hV hb
 rw [getN_has]
 cases hl:getN p ks with
 | none =>
  rw [cY hl]
  exact km.lookNo ax bp (cg w) hkl (fun v hv=>by obtain ⟨n,h1,_⟩:=nmK_val h.ok hk hv;rw [hl] at h1;cases h1)
 | some x =>
  rw [cS hl]
  exact km.look ax bp (cg w) hkl ⟨x,(bb hl).1,by rw [(bb hl).2],rfl⟩
theorem NmAt.look1 {w:World} {nb m c:Nat} {p:Nms} (h:NmAt w nb m c p) {ks:List ByteArray} (hk:PlOk ks) (V:List Value) (hV:V=lookW p ks) :
  (Instr.lookup 46 (.map (some m)) (.agg (pvv ks).toArray) false).run Tryd.prog w=.ok (.agg V.toArray) w:=by
 obtain ⟨q,_,km⟩:=h.map
 obtain ⟨kl,hkl⟩:=cD hk
 subst hV
 cases hl:getN p ks with
 | none =>
  rw [cY hl]
  exact km.look1No ax bp (cg w) hkl (fun v hv=>by obtain ⟨n,h1,_⟩:=nmK_val h.ok hk hv;rw [hl] at h1;cases h1)
 | some x =>
  rw [cS hl]
  exact km.look1 ax bp (cg w) hkl ⟨x,(bb hl).1,by rw [(bb hl).2],rfl⟩
theorem has_n {nb m c:Nat} {p:Nms} {ks:List ByteArray} (hk:PlOk ks) (r:Bool) (hr:r=hasN p ks) (w:World) (h:NmAt w nb m c p) :
  Calls Tryd.prog 18 #[.pointer (some ⟨nb,0,none⟩),.agg (pvv ks).toArray] w fun e w'=>e=.returned (.bool r)∧Below w.heap.size w w':=by
 have hm:=Mem.start w
 have HR:Hid (NmAt w nb m c p):=h
 have HK:Hid (∀_:Unit,PlOk ks):=fun _=>hk
 obtain ⟨V,hV⟩:∃V,V=lookW p ks:=⟨_,rfl⟩
 have HV:Hid (∀_:Unit,V=lookW p ks):=fun _=>hV
 have HV5:Hid (V.length=7):=by rw [hV];exact lookW7 p ks
 have HV1:Hid (∀v∈V,v.oneCell'=true):=by rw [hV];exact lookW_one p ks
 have HRR:Hid (∀_:Unit,r=hasN p ks):=fun _=>hr
 clear hk h hV hr
 go_enter Tryd.func18,Tryd.ntmps18
 go_wp2_with (first
  | ((with_reducible refine aa (some 3) (.box 42 (.tmp 1)) ?_);refine aE (pvv ks) rfl hm ?_;clear hm;intro w1 g3 hm))
 refine am ?_
 refine ag (T:=fun W=>∃l,Mem w [] W (l++[(g3,pvv ks,42)])) (by kernel_rfl) hm ?_
 intro wc hbw hmw
 clear hm
 have hm:=hmw
 clear hbw hmw
 refine aT 0 (v:=.pointer (some ⟨nb,0,none⟩)) rfl (by kernel_rfl) rfl (fun W _=>by go_simp) ⟨[],hm⟩ ?_
 go_simp
 refine aT 1 (v:=.pointer (some ⟨nb,0,none⟩)) rfl (by kernel_rfl) rfl (fun W _=>by go_simp) ⟨[],hm⟩ ?_
 go_simp
 refine aT 2 (v:=.pointer (some ⟨nb,0,none⟩)) rfl (by kernel_rfl) rfl (fun W _=>by go_simp) ⟨[],hm⟩ ?_
 go_simp
 refine aT 3 (v:=.map (some m)) rfl (by kernel_rfl) rfl (fun W hW=>by obtain ⟨l,hW⟩:=hW;exact ae 0 (.map (some m)) ((HR.out.below hW.below).row) rfl bR rfl) ⟨[],hm⟩ ?_
 go_simp
 refine aT 4 (v:=.agg (pvv ks).toArray) rfl (by kernel_rfl) rfl (fun W hW=>by obtain ⟨l,hW⟩:=hW;exact ai 0 (pvv ks) (hW.row (g3,pvv ks,42) (by simp)) rfl _ aF rfl 2 ao (Nat.le_refl 2) rfl) ⟨[],hm⟩ ?_
 go_simp
 refine aT 5 (v:=.tuple #[.agg V.toArray,.bool r]) rfl (by kernel_rfl) rfl (fun W hW=>by obtain ⟨l,hW⟩:=hW;exact bH ((HR.out.below hW.below).look (HK.out ()) V r (HV.out ()) (HRR.out ())) rfl rfl) ⟨[],hm⟩ ?_
 go_simp
 refine aT 6 (v:=.tuple #[.agg V.toArray,.bool r]) rfl (by kernel_rfl) rfl (fun W _=>by go_simp) ⟨[],hm⟩ ?_
 go_simp
 refine aT 7 (v:=.agg V.toArray) rfl (by kernel_rfl) rfl (fun W _=>by go_simp) ⟨[],hm⟩ ?_
 go_simp
 refine aT 8 (v:=.bool r) rfl (by kernel_rfl) rfl (fun W _=>by go_simp) ⟨[],hm⟩ ?_
 go_simp
 refine aO 9 (by kernel_rfl) rfl rfl ?_
 intro K hK
 refine ad _ aR hm ?_
 clear hm
 intro w4 g5 hm
 refine wpList_nil ?_
 refine hK _ _ ⟨[_],hm⟩ ?_
 clear hK K
 go_simp
 refine aO 10 (by kernel_rfl) rfl rfl ?_
 intro K hK
 refine af 0 V hm rfl rfl rfl 7 bq rfl HV5.out HV1.out ?_
 clear hm
 intro w5 hm
 refine wpList_nil ?_
 refine hK _ _ ⟨[_],hm⟩ ?_
 clear hK K
 go_simp
 refine aT 11 (v:=.bool r) rfl (by kernel_rfl) rfl (fun W _=>by go_simp) ⟨[_],hm⟩ ?_
 go_simp
 refine wpAnyH_done (by kernel_rfl) ?_ _
 simp only [endsIn]
 go_wp2_with fail
 go_ret
 exact ⟨rfl,hm.below⟩
theorem held_n (ks:List ByteArray) (b e:Int) (w:World) :
  Calls Tryd.prog 14 #[.agg (spc ks b e).toArray] w fun e_ w'=>e_=.returned (.agg (spc ks (heldI b) (heldI e)).toArray)∧Below w.heap.size w w':=by
 have hm:=Mem.start w
 go_enter Tryd.func14,Tryd.ntmps14
 go_wp2_with (first
  | ((with_reducible refine aa (some 1) (.box 32 (.tmp 0)) ?_);refine aE (spc ks b e) rfl hm ?_;clear hm;intro w1 g1 hm)
  | ((with_reducible refine aa (some 2) (.alloc 32) ?_);refine ad _ aN hm ?_;clear hm;intro w2 g2 hm)
  | ((with_reducible refine aa (some 4) (.load 3 (.tmp 3)) ?_);refine al 1 1 (.int .i64 b) hm rfl rfl aj (rfl) ?_)
  | ((with_reducible refine aa (some 9) (.load 3 (.tmp 8)) ?_);refine al 1 2 (.int .i64 e) hm rfl rfl aj (rfl) ?_)
  | ((with_reducible refine aa none (.store 3 (.tmp 7) (.tmp 6)) ?_);refine bh 1 1 (.int .i64 (heldI b)) hm rfl rfl rfl bV (show _<5 by omega) rfl rfl ?_;clear hm;intro w3 hm)
  | ((with_reducible refine aa none (.store 3 (.tmp 12) (.tmp 11)) ?_);refine bh 1 2 (.int .i64 (heldI e)) hm rfl rfl rfl bV (show _<5 by omega) rfl rfl ?_;clear hm;intro w3 hm)
  | ((with_reducible refine aa (some 13) (.load 32 (.tmp 1)) ?_);refine ak 1 hm rfl rfl _ bj rfl 5 aJ (rfl) ?_)
  | ((with_reducible refine aa none (.store 32 (.tmp 2) (.tmp 13)) ?_);refine af 0 (spc ks (heldI b) (heldI e)) hm rfl rfl rfl 5 aJ rfl rfl (ba _ _ _) ?_;clear hm;intro w6 hm))
 refine bv 0 hm rfl Tryd.results14 rfl _ bj rfl 5 aJ rfl rfl ?_
 exact ⟨rfl,hm.below⟩
open Go Go.RowKit Go.Sort Go.Shelf Go.Proofs
def sortS_ren:Go.Shelf.Ren:=⟨fun | 6=>30 | 8=>39 | 9=>38 | 19=>59 | 20=>60 | 21=>50 | 22=>51 | 23=>52 | 24=>53 | 25=>54 | 26=>55 | 27=>56 | 28=>57 | 29=>58 | 36=>68 | 31=>69 | 32=>70 | 37=>71 | 38=>72 | 39=>73 | 41=>77|n=>n,fun | 27=>53 | 29=>9 | 3=>3 | 32=>82 | 26=>53 | 0=>0 | 44=>104 | 46=>106 | 4=>4 | 36=>97 | 35=>96 | 41=>101 | 5=>5 | 9=>9 | 53=>119 | 57=>123 | 63=>127 | 64=>128|n=>n,fun|n=>n⟩
theorem sortS:Go.Proofs.SlLaysM.n6 Tryd.prog sortS_ren:={
 mixed:=by kernel_rfl
 f6:=⟨Tryd.f30.name,by decide,Tryd.func30.trans (congrArg some (by kernel_rfl))⟩
 f8:=Tryd.func39.trans (congrArg some (by kernel_rfl))
 f9:=⟨Tryd.f38.name,by decide,Tryd.func38.trans (congrArg some (by kernel_rfl))⟩
 f19:=Tryd.func59.trans (congrArg some (by kernel_rfl))
 f20:=Tryd.func60.trans (congrArg some (by kernel_rfl))
 f21:=⟨Tryd.f50.name,by decide,Tryd.func50.trans (congrArg some (by kernel_rfl))⟩
 f22:=⟨Tryd.f51.name,by decide,Tryd.func51.trans (congrArg some (by kernel_rfl))⟩
 f23:=⟨Tryd.f52.name,by decide,Tryd.func52.trans (congrArg some (by kernel_rfl))⟩
 f24:=⟨Tryd.f53.name,by decide,Tryd.func53.trans (congrArg some (by kernel_rfl))⟩
 f25:=⟨Tryd.f54.name,by decide,Tryd.func54.trans (congrArg some (by kernel_rfl))⟩
 f26:=⟨Tryd.f55.name,by decide,Tryd.func55.trans (congrArg some (by kernel_rfl))⟩
 f27:=⟨Tryd.f56.name,by decide,Tryd.func56.trans (congrArg some (by kernel_rfl))⟩
 f28:=⟨Tryd.f57.name,by decide,Tryd.func57.trans (congrArg some (by kernel_rfl))⟩
 f29:=⟨Tryd.f58.name,by decide,Tryd.func58.trans (congrArg some (by kernel_rfl))⟩
 f31:=Tryd.func69.trans (congrArg some (by kernel_rfl))
 f32:=Tryd.func70.trans (congrArg some (by kernel_rfl))
 f36:=⟨Tryd.f68.name,by decide,Tryd.func68.trans (congrArg some (by kernel_rfl))⟩
 f37:=⟨Tryd.f71.name,by decide,Tryd.func71.trans (congrArg some (by kernel_rfl))⟩
 f38:=⟨Tryd.f72.name,by decide,Tryd.func72.trans (congrArg some (by kernel_rfl))⟩
 f39:=⟨Tryd.f73.name,by decide,Tryd.func73.trans (congrArg some (by kernel_rfl))⟩
 f41:=⟨Tryd.f77.name,by decide,Tryd.func77.trans (congrArg some (by kernel_rfl))⟩
 t0:=Tryd.underlying0
 a0:=Tryd.isAgg0
 z0:=Tryd.sizeOf0
 v0:=Tryd.zeroValue0
 t3:=Tryd.underlying3
 a3:=Tryd.isAgg3
 z3:=Tryd.sizeOf3
 v3:=Tryd.zeroValue3
 t4:=Tryd.underlying4
 a4:=Tryd.isAgg4
 z4:=Tryd.sizeOf4
 v4:=Tryd.zeroValue4
 t5:=Tryd.underlying5
 a5:=Tryd.isAgg5
 z5:=Tryd.sizeOf5
 v5:=Tryd.zeroValue5
 t9:=Tryd.underlying9
 a9:=Tryd.isAgg9
 z9:=Tryd.sizeOf9
 v9:=Tryd.zeroValue9
 t26:=Tryd.underlying53
 a26:=Tryd.isAgg53
 z26:=Tryd.sizeOf53
 v26:=Tryd.zeroValue53
 t27:=Tryd.underlying53
 a27:=Tryd.isAgg53
 z27:=Tryd.sizeOf53
 v27:=Tryd.zeroValue53
 t29:=Tryd.underlying9
 a29:=Tryd.isAgg9
 z29:=Tryd.sizeOf9
 v29:=Tryd.zeroValue9
 t32:=Tryd.underlying82
 a32:=Tryd.isAgg82
 z32:=Tryd.sizeOf82
 v32:=Tryd.zeroValue82
 t35:=Tryd.underlying96
 a35:=Tryd.isAgg96
 z35:=Tryd.sizeOf96
 v35:=Tryd.zeroValue96
 t36:=Tryd.underlying97
 a36:=Tryd.isAgg97
 z36:=Tryd.sizeOf97
 v36:=Tryd.zeroValue97
 t41:=Tryd.underlying101
 a41:=Tryd.isAgg101
 z41:=Tryd.sizeOf101
 v41:=Tryd.zeroValue101
 t44:=Tryd.underlying104
 a44:=Tryd.isAgg104
 z44:=Tryd.sizeOf104
 v44:=Tryd.zeroValue104
 t46:=Tryd.underlying106
 a46:=Tryd.isAgg106
 z46:=Tryd.sizeOf106
 v46:=Tryd.zeroValue106
 t53:=Tryd.underlying119
 a53:=Tryd.isAgg119
 z53:=Tryd.sizeOf119
 v53:=Tryd.zeroValue119
 t57:=Tryd.underlying123
 a57:=Tryd.isAgg123
 z57:=Tryd.sizeOf123
 v57:=Tryd.zeroValue123
 t63:=Tryd.underlying127
 a63:=Tryd.isAgg127
 z63:=Tryd.sizeOf127
 v63:=Tryd.zeroValue127
 t64:=Tryd.underlying128
 a64:=Tryd.isAgg128
 z64:=Tryd.sizeOf128
 v64:=Tryd.zeroValue128}
open Go
def rlow {α:Type} (d:Nat):Result α→Prop
 | .ok _ w=>d≤w.drawn
 | .halt _ w=>d≤w.drawn
def glow (d:Nat):GStep→Prop
 | .go _ w _=>d≤w.drawn
 | .comm _ _ _ _ w _=>d≤w.drawn
 | .spawn _ _ w _=>d≤w.drawn
 | .count _ w _=>d≤w.drawn
 | .timer _ _ w _=>d≤w.drawn
 | .alone _ _ w _=>d≤w.drawn
 | .newcoro _ _ _ w _=>d≤w.drawn
 | .coroswitch _ _ _ w _=>d≤w.drawn
 | .collect _ w _=>d≤w.drawn
 | .watch _ w _=>d≤w.drawn
 | .ended _ _ _=>True
def slow (d:Nat):Stepped→Prop
 | .next m=>d≤m.world.drawn
 | .ended _ _=>True
def mlow (d:Nat):Move→Prop
 | .goroutine m _=>d≤m.world.drawn
 | .machine s _=>slow d s
open Go Go.RowKit Go.Maps Go.Sort
abbrev Plc:={ks:List ByteArray // PlOk ks}
def encN (x:Plc):List Value:=pvv x.1
def cfP (x y:Plc):Int:=cfN x.1 y.1
theorem MaxL.at0 {w w':World} (h:MaxL w) (hb:w'.heap[0]?=w.heap[0]?):MaxL w':=by
 obtain ⟨m,hm⟩:=h
 exact ⟨m,by rw [World.cell?_of_block (a:=⟨0,0,none⟩) hb];exact hm⟩
theorem MaxL.lt0 {w:World} (h:MaxL w):0<w.heap.size:=by
 obtain ⟨m,hm⟩:=h
 exact block_lt_of_cell hm
open Go Go.RowKit Go.Maps
section
variable {P:Program} {kT:TypeId} {ops:Array Oper} {rest:List Oper} {a:Act} {w w0 w1:World} {Q:Exit→Act→World→Prop} {dst:Option Tmp} {typ:TypeId} {pos:String} {aft:Array Edge} {gd:Option (Nat×Bool)} {S:List Nat} {rows:List (Nat×List Value×TypeId)}
theorem wpl_rangeR {x:Operand} {t e:TypeId} {m q:Nat} {p:Value→Value→Prop} (km:KM P kT w m q p) (K:Keyed P kT) (ht:P.underlying t=some (.map kT e)) (hx:a.eval x=.map (some m))
  (h:∀w' r D,w'.ranges P kT rdV m r q D (Maps.has D) (Maps.size D)→(∀k kl,keyOf P kT k=some kl→(Maps.has D kl=true↔∃v,p k v))→Below w.heap.size w w'→w.heap.size≤r→r<w'.heap.size→wpList P ops Q rest (a.put dst (.pointer (some ⟨r,0,none⟩))) w') :
  wpList P ops Q ({dst:=dst,op:=.range t x,type:=typ,pos:=pos,after:=aft,guard:=none}::rest) a w:=by
 obtain ⟨D,ho,h1,h2⟩:=km
 refine wpList_range_own w rfl x t rfl kT e K ht rdV m q D hx ho ?_
 intro w' hrg hg hs
 exact h w' w.heap.size D hrg h1 ⟨hg.os,hg.tape,hg.output,hg.size,fun k hk=>hg.block k hk (by simp)⟩ (Nat.le_refl _) (by omega)
theorem ap {x:Operand} {r:Nat} {v:Value} (hr:(Instr.next (.pointer (some ⟨r,0,none⟩)) false typ).run P w=.ok v w1) (hx:a.eval x=.pointer (some ⟨r,0,none⟩)) (h:wpList P ops Q rest (a.put dst v) w1) :
  wpList P ops Q ({dst:=dst,op:=.next x false,type:=typ,pos:=pos,after:=aft,guard:=none}::rest) a w:=by
 refine wpList_plain rfl fun K hK=>?_
 have hh:=hK _ _ h
 unfold Oper.wp
 simp [execOp,hx,hr,Result.andThen]
 exact hh
theorem av {x:Operand} {r:Nat} {v:Value} (hr:(Instr.entry (.pointer (some ⟨r,0,none⟩))).run P w=.ok v w) (hx:a.eval x=.pointer (some ⟨r,0,none⟩)) :
  (execOp a.eval {dst:=dst,op:=.entry x,type:=typ,pos:=pos,after:=aft,guard:=gd}).run P w=.ok (.value v) w:=by
 unfold execOp
 simp only [hx,hr,Sem.run_bind,Sem.run_pure,Result.andThen_ok]
end
theorem ranges_le {w:World} {P:Program} {k:TypeId} {R:Value→Option (DataW Value×List MemPlace)} {b r n:Nat} {D:DataW Value} {left:Lit→Bool} {cnt:Nat} (h:w.ranges P k R b r n D left cnt):cnt≤n:=by
 obtain ⟨es,_,_,_,_,_,_,hs,_,_,_,hl,_⟩:=h
 rw [←hl]
 exact Nat.le_trans (by unfold leftOf;exact Array.size_filter_le ..) hs
theorem bS {left:Lit→Bool} {kl z:Lit} (hk:WideAt.IsKeyLit kl):(left z && !z.sameKey kl)=false↔(left z=false∨z=kl):=by
 by_cases h:z=kl
 ·subst h;simp [WideAt.sameKey_self hk]
 ·simp [Maps.sameKey_ne h,h]
structure ColW (w2 wr:World) (r:Nat) (eT:TypeId) (K:Nat) (F:List ByteArray→List Value) (v:Value) (L:List (List ByteArray)):Prop where
 upd:Upd r w2 wr
 own:wr.ownsRow w2.heap.size eT K v L.length (L.flatMap F)
theorem upd_of_grown {r:Nat} {w w':World} (h:w.grownBy w' (some r)):Upd r w w':=⟨h.os,h.tape,h.output,h.size,fun k hk hn=>h.block k hk (by simpa using hn)⟩
section
variable {w2 wr w':World} {r:Nat} {eT:TypeId} {K:Nat} {F:List ByteArray→List Value} {v:Value} {L:List (List ByteArray)}
theorem ColW.below (h:ColW w2 wr r eT K F v L) (hb:Below wr.heap.size wr w'):ColW w2 w' r eT K F v L:=⟨h.upd.trans (Upd.of_below hb),cu h.own hb⟩
theorem ColW.next (h:ColW w2 wr r eT K F v L) (hg:wr.grownBy w' (some r)) (hr:r<w2.heap.size):ColW w2 w' r eT K F v L:=by
 refine ⟨h.upd.trans (upd_of_grown hg),World.ownsRow.kept h.own hg ?_⟩
 cases hv:v.ownBlock with
 | none=>exact Or.inl rfl
 | some k =>
  refine Or.inr (fun e=>?_)
  have:=(World.ownsRow.lt h.own k hv).1
  simp only [Option.some.injEq] at e
  omega
theorem ColW.ne (h:ColW w2 wr r eT K F v L) {k:Nat} (hk:k<w2.heap.size):some k≠v.ownBlock:=fun e=>by have:=(World.ownsRow.lt h.own k e.symm).1;omega
theorem ColW.app {ks:List ByteArray} {v':Value} (h:ColW w2 wr r eT K F v L) (hg:wr.grownBy w' v.ownBlock) (ho:w'.ownsRow w2.heap.size eT K v' (L.length+1) (L.flatMap F++F ks)):ColW w2 w' r eT K F v' (L++[ks]):=by
 refine ⟨⟨hg.os.trans h.upd.os,hg.tape.trans h.upd.tape,hg.output.trans h.upd.output,Nat.le_trans h.upd.size hg.size,fun k hk hn=>(hg.block k (Nat.lt_of_lt_of_le hk h.upd.size) (h.ne hk)).trans (h.upd.block k hk hn)⟩,?_⟩
 ·rw [List.length_append,List.flatMap_append]
  simpa using ho
end
theorem NmAt.updO {w w':World} {nb m c r:Nat} {p:Nms} (h:NmAt w nb m c p) (hu:Upd r w w') (h1:r≠nb) (h2:r≠m):NmAt w' nb m c p:=by
 obtain ⟨q,hq,hk⟩:=h.map
 exact ⟨hu.row h.row (fun e=>h1 e.symm),⟨q,hq,hk.upd hu h2⟩,h.ok⟩
structure ColL (p:Nms) (T:List ByteArray→Bool) (D:DataW Value) (L:List (List ByteArray)) (left:Lit→Bool):Prop where
 sub:∀kl,left kl=true→Maps.has D kl=true
 mem:∀ks∈L,hasN p ks=true∧T ks=true
 all:∀ks kl,PlOk ks→keyOf Tryd.prog 42 (.agg (pvv ks).toArray)=some kl→hasN p ks=true→T ks=true→left kl=false→ks∈L
 gone:∀ks kl,ks∈L→keyOf Tryd.prog 42 (.agg (pvv ks).toArray)=some kl→left kl=false
 nd:L.Nodup
theorem ColL.start {p:Nms} {T:List ByteArray→Bool} {D:DataW Value} (h1:∀k kl,keyOf Tryd.prog 42 k=some kl→(Maps.has D kl=true↔∃v,NmK p k v)):ColL p T D [] (Maps.has D):=by
 refine ⟨fun _ h=>h,fun _ h=>(by cases h),fun ks kl hk hkl hl _ hno=>?_,fun _ _ h=>(by cases h),List.nodup_nil⟩
 obtain ⟨x,hx,rfl⟩:=ar.1 hl
 have:=(h1 _ kl hkl).2 ⟨_,x,hx,rfl,rfl⟩
 rw [hno] at this;cases this
theorem ColL.skip {p:Nms} {T:List ByteArray→Bool} {ks:List ByteArray} {D:DataW Value} {L:List (List ByteArray)} {left:Lit→Bool} {kl:Lit} (h:ColL p T D L left) (hk:PlOk ks) (hkl:keyOf Tryd.prog 42 (.agg (pvv ks).toArray)=some kl) (hu:T ks=false):ColL p T D L (fun z=>left z && !z.sameKey kl):=by
 have hK:=ax.key hkl
 refine ⟨fun z hz=>h.sub z (by simp at hz;exact hz.1),h.mem,fun ks' kl' hk' hkl' hl hu' hz=>?_,fun ks' kl' hm hkl'=>(bS hK).2 (Or.inl (h.gone ks' kl' hm hkl')),h.nd⟩
 rcases (bS hK).1 hz with h1|h1
 ·exact h.all ks' kl' hk' hkl' hl hu' h1
 ·subst h1
  have:=bG hk' hk (ax.inj hkl' hkl)
  subst this
  rw [hu] at hu';cases hu'
theorem ColL.more {p:Nms} {T:List ByteArray→Bool} {ks:List ByteArray} {D:DataW Value} {L:List (List ByteArray)} {left:Lit→Bool} {kl:Lit} (h:ColL p T D L left) (hk:PlOk ks) (hkl:keyOf Tryd.prog 42 (.agg (pvv ks).toArray)=some kl) (hl:hasN p ks=true) (hlk:left kl=true) (hu:T ks=true):ColL p T D (L++[ks]) (fun z=>left z && !z.sameKey kl):=by
 have hK:=ax.key hkl
 refine ⟨fun z hz=>h.sub z (by simp at hz;exact hz.1),fun x hx=>?_,fun ks' kl' hk' hkl' hl' hu' hz=>?_,fun ks' kl' hm hkl'=>?_,?_⟩
 ·rcases List.mem_append.1 hx with h1|h1
  ·exact h.mem x h1
  ·rw [List.mem_singleton.1 h1];exact ⟨hl,hu⟩
 ·rcases (bS hK).1 hz with h1|h1
  ·exact List.mem_append.2 (Or.inl (h.all ks' kl' hk' hkl' hl' hu' h1))
  ·subst h1
   have:=bG hk' hk (ax.inj hkl' hkl)
   subst this
   exact List.mem_append.2 (Or.inr (List.mem_singleton.2 rfl))
 ·rcases List.mem_append.1 hm with h1|h1
  ·exact (bS hK).2 (Or.inl (h.gone ks' kl' h1 hkl'))
  ·rw [List.mem_singleton.1 h1,hkl] at hkl'
   exact (bS hK).2 (Or.inr (Option.some.inj hkl').symm)
 ·refine List.nodup_append.2 ⟨h.nd,by simp,fun a ha b hb=>?_⟩
  rw [List.mem_singleton.1 hb]
  rintro rfl
  have:=h.gone a kl ha hkl
  rw [hlk] at this;cases this
theorem nodup_fst {p:Nms} (h:p.Pairwise fun x y=>cd x.1<cd y.1):(p.map (·.1)).Nodup:=by
 rw [List.Nodup,List.pairwise_map]
 exact h.imp fun {x y} h1 e=>by rw [e] at h1;exact List.lt_irrefl _ h1
theorem ColL.whole {p:Nms} {T:List ByteArray→Bool} {D:DataW Value} {L:List (List ByteArray)} {left:Lit→Bool} (hp:NmOk p) (h:ColL p T D L left) (h0:∀kl,left kl=false):L.Perm ((p.filter fun x=>T x.1).map (·.1)):=by
 refine (List.perm_ext_iff_of_nodup h.nd (nodup_fst (hp.srt.sublist List.filter_sublist))).2 fun ks=>?_
 rw [List.mem_map]
 constructor
 ·intro hk
  obtain ⟨h1,h2⟩:=h.mem ks hk
  obtain ⟨x,hx,rfl⟩:=ar.1 h1
  exact ⟨x,List.mem_filter.2 ⟨hx,h2⟩,rfl⟩
 ·rintro ⟨x,hx,rfl⟩
  obtain ⟨h1,h2⟩:=List.mem_filter.1 hx
  obtain ⟨kl,hkl⟩:=cD (hp.ok x h1)
  exact h.all x.1 kl (hp.ok x h1) hkl (ar.2 ⟨x,h1,rfl⟩) h2 (h0 kl)
theorem uniq_sorted {α:Type} {f:α→List UInt8}:∀ {A B:List α},A.Perm B→A.Pairwise (fun a b=>¬f b<f a)→B.Pairwise (fun a b=>f a<f b)→A=B:=by
 intro A
 induction A with
 | nil=>intro B h _ _;exact (List.nil_perm.1 h).symm
 | cons a A ih =>
  intro B h hA hB
  cases B with
  | nil=>exact absurd h.symm (by simp)
  | cons b B =>
   obtain ⟨a1,a2⟩:=List.pairwise_cons.1 hA
   obtain ⟨b1,b2⟩:=List.pairwise_cons.1 hB
   have hab:a=b:=by
    rcases List.mem_cons.1 (h.mem_iff.1 (List.mem_cons_self ..)) with h1|h1
    ·exact h1
    ·rcases List.mem_cons.1 (h.mem_iff.2 (List.mem_cons_self ..)) with h2|h2
     ·exact h2.symm
     ·exact absurd (b1 a h1) (a1 b h2)
   subst hab
   rw [ih ((List.perm_cons a).1 h) a2 b2]
theorem flat_getN {F:List ByteArray→List Value} {K:Nat} (hF:∀x,(F x).length=K) {L:List (List ByteArray)}:∀ {i:Nat} {ks:List ByteArray},L[i]?=some ks→∀j x,(F ks)[j]?=some x→(L.flatMap F)[i * K+j]?=some x:=by
 induction L with
 | nil=>intro i ks h;simp at h
 | cons y L ih =>
  intro i ks h j x hx
  have hjK:j<K:=by
   rcases Nat.lt_or_ge j K with h'|h'
   ·exact h'
   ·rw [List.getElem?_eq_none (by rw [hF];exact h')] at hx;cases hx
  rw [List.flatMap_cons]
  cases i with
  | zero =>
   simp only [List.getElem?_cons_zero,Option.some.injEq] at h
   subst h
   rw [Nat.zero_mul,Nat.zero_add,List.getElem?_append_left (by rw [hF];exact hjK)]
   exact hx
  | succ i =>
   rw [List.getElem?_append_right (by rw [hF,Nat.succ_mul];omega),hF,show (i+1) * K+j - K=i * K+j by rw [Nat.succ_mul];omega]
   exact ih (by simpa using h) j x hx
def PlN (B:Nat) (w:World) (v:Value) (L:List (List ByteArray)):Prop :=
 ∃p cap,v=.slice p L.length cap∧(0<L.length→∃b,p=some ⟨b,0,none⟩∧B≤b∧b<w.heap.size∧∀i ks,L[i]?=some ks→∀j x,(pvv ks)[j]?=some x→w.cell? ⟨b,i * 2+j,none⟩=some x)
open Go Go.RowKit Go.Maps
open Go Go.RowKit Go.Maps Go.Sort
def StN (B:Nat) (w:World) (v:Value) (L:List ByteArray):Prop :=
 ∃p cap,v=.slice p L.length cap∧(0<L.length→∃b,p=some ⟨b,0,none⟩∧B≤b∧b<w.heap.size∧∀i x,L[i]?=some x→w.cell? ⟨b,i,none⟩=some (.string x))
theorem app_lt {A u v:List UInt8}:A++u<A++v↔u<v:=by
 induction A with
 | nil=>rfl
 | cons a A ih =>
  rw [List.cons_append,List.cons_append,List.cons_lt_cons_iff,ih]
  exact ⟨fun h=>h.elim (fun h=>absurd h (UInt8.lt_irrefl _)) (·.2),fun h=>Or.inr ⟨rfl,h⟩⟩
theorem end_lt:∀ {a b:List UInt8},0 ∉ a→0 ∉ b→a++[0]<b++[0]→a<b
 | [],[],_,_,h=>absurd h (List.lt_irrefl _)
 | [],_::_,_,_,_=>by simp
 | x::a,[],ha,_,h=>by
  rw [List.nil_append,List.cons_append,List.cons_lt_cons_iff] at h
  rcases h with h|h
  ·exact absurd h (by simp)
  ·exact absurd (by rw [h.1];exact List.mem_cons_self ..) ha
 | x::a,y::b,ha,hb,h=>by
  rw [List.cons_append,List.cons_append,List.cons_lt_cons_iff] at h
  rw [List.cons_lt_cons_iff]
  rcases h with h|h
  ·exact Or.inl h
  ·exact Or.inr ⟨h.1,end_lt (fun h=>ha (List.mem_cons_of_mem _ h)) (fun h=>hb (List.mem_cons_of_mem _ h)) h.2⟩
theorem cd_last {ks:List ByteArray} (h0:ks≠[]):cd ks=codeOf (ks.dropLast.map bs)++(bs (lastS ks)++[0]):=by
 conv=>lhs;rw [←ck h0]
 unfold cd
 rw [List.map_append,db]
 rfl
theorem last0S {ks:List ByteArray} (h:PlOk ks) (h0:ks≠[]):0 ∉ bs (lastS ks):=by
 refine no0 h _ (List.mem_map.2 ⟨lastS ks,?_,rfl⟩)
 have h1:lastS ks∈ks.dropLast++[lastS ks]:=by simp
 rwa [ck h0] at h1
theorem kidsN_srt {p:Nms} (hp:NmOk p) (s:ByteArray):(kidsN p s).Pairwise fun x y=>bs x<bs y:=by
 unfold kidsN
 rw [List.pairwise_map]
 refine (hp.srt.sublist List.filter_sublist).imp_of_mem fun {x y} hx hy h=>?_
 obtain ⟨x1,x2⟩:=List.mem_filter.1 hx
 obtain ⟨y1,y2⟩:=List.mem_filter.1 hy
 simp only [Bool.and_eq_true,decide_eq_true_eq,Bool.not_eq_true',decide_eq_false_iff_not] at x2 y2
 have e:x.1.dropLast=y.1.dropLast:=tx_inj (hp.ok x x1).drop (hp.ok y y1).drop (x2.1.trans y2.1.symm)
 rw [cd_last x2.2,cd_last y2.2,e,app_lt] at h
 exact end_lt (last0S (hp.ok x x1) x2.2) (last0S (hp.ok y y1) y2.2) h
theorem sort_s {w:World} {g cap:Nat} (S:List ByteArray) (cur:Array Value) (e:TypeId) (hg:w.heap[g]?=some (.cells cur e (0,0))) (hc:∀i x,S[i]?=some x→w.cell? ⟨g,i,none⟩=some (.string x)) (hsz:S.length≤100000) (R:List ByteArray) (hR:S.Perm R) (hs:R.Pairwise fun x y=>bs x<bs y) :
  Calls Tryd.prog 30 #[.slice (some ⟨g,0,none⟩) S.length cap] w fun e w'=>e=.returned (.tuple #[])∧(∀i x,R[i]?=some x→w'.cell? ⟨g,i,none⟩=some (.string x))∧w.grownBy w' (some g):=by
 have hglt:g<w.heap.size:=(Array.getElem?_eq_some_iff.1 hg).1
 obtain ⟨ss,hss⟩:∃ss,ss=S.map bs:=⟨_,rfl⟩
 have hsl:ss.length=S.length:=by rw [hss,List.length_map]
 have hH:Holds encStr w g 0 ss.toArray:=by
  intro j hj
  have hj2:j<S.length:=by simpa [hsl] using hj
  refine ⟨?_,by simp [World.frozen?,hg]⟩
  rw [Nat.zero_add,hc j S[j] (by simp [hj2]),hss]
  simp only [encStr]
  congr 1
  simp [hj2,bs]
 have hcon:=AnyM.slices_Sort_string sortS g 0 cap ss w hH hglt (by omega)
 rw [hsl] at hcon
 refine Calls.mono (show Calls Tryd.prog 30 _ w _ from hcon) ?_
 rintro e' w' ⟨rfl,n,os,hw⟩
 obtain ⟨M,hM⟩:∃M,M=ss.mergeSort fun x y=>decide (x≤y):=⟨_,rfl⟩
 rw [←hM] at hw
 have hMp:M.Perm (R.map bs):=by
  rw [hM,hss]
  exact (List.mergeSort_perm _ _).trans (hR.map bs)
 have hMs:M.Pairwise fun x y=>¬y<x:=by
  rw [hM]
  refine (List.pairwise_mergeSort (le:=fun x y:List UInt8=>decide (x≤y)) (fun a b c h1 h2=>?_) (fun a b=>?_) ss).imp fun {x y} h=>?_
  ·rw [decide_eq_true_eq] at *
   exact List.le_trans h1 h2
  ·rw [Bool.or_eq_true,decide_eq_true_eq,decide_eq_true_eq]
   exact List.le_total a b
  ·exact List.not_lt.2 (of_decide_eq_true h)
 have hMR:M=R.map bs:=uniq_sorted (f:=id) hMp hMs (by rw [List.pairwise_map];exact hs)
 have hMl:M.length=ss.length:=by rw [hMp.length_eq,List.length_map,hsl,hR.length_eq]
 have hH':Holds encStr w' g 0 M.toArray:=by
  rw [hw]
  refine holds_grow encStr _ os g 0 M.toArray (by rw [size_putRow];exact hglt) (holds_putRow encStr _ g 0 ss.toArray M.toArray (holds_ahead encStr w n g 0 _ hH) (by simpa using hMl))
 refine ⟨rfl,fun i x hx=>?_,?_⟩
 ·have hiR:i<R.length:=by
   rcases Nat.lt_or_ge i R.length with h'|h'
   ·exact h'
   ·rw [List.getElem?_eq_none h'] at hx;cases hx
  have h1:=(hH' i (by rw [hMR];simpa using hiR)).1
  rw [Nat.zero_add] at h1
  rw [h1,hMR]
  have e1:R[i]=x:=by simpa [hiR] using hx
  simp only [encStr]
  simp [hiR,e1,bs]
 ·rw [hw]
  refine ⟨rfl,rfl,rfl,?_,fun k hk hne=>?_⟩
  ·show w.heap.size≤((w.heap.modify g _)++os).size
   simp
  ·show ((w.heap.modify g _)++os)[k]?=w.heap[k]?
   rw [Array.getElem?_append_left (by simpa using hk),Array.getElem?_modify,if_neg (fun h=>hne (by rw [h]))]
def kT (s:ByteArray) (ks:List ByteArray):Bool:=decide (tx ks.dropLast=s) && !decide (ks=[])
def kF (ks:List ByteArray):List Value:=[.string (lastS ks)]
theorem kF1 (ks:List ByteArray):(kF ks).length=1:=rfl
end Go.Proofs.YtdmohffogfbnbaaDoor
