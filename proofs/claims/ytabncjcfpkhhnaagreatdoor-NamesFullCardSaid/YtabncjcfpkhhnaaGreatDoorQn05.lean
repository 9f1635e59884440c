import Derived.Test.YtabncjcfpkhhnaaGreatDoorQn04
import Derived.Shelf.SlSortCmp.NoneTotal
import Derived.Shelf.SortM.Plain
import Derived.Shelf.SortM.SortNone
import Derived.Test.YtabncjcfpkhhnaaGreatDoorChecked
import Derived.Calls
set_option maxRecDepth 100000
set_option maxHeartbeats 4000000
namespace Go.Proofs.YtabncjcfpkhhnaaGreatDoor
open Go Go.RowKit Go.Maps
section
variable {P:Program} {a:Act} {w:World} {dst:Option Tmp} {typ:TypeId} {pos:String} {aft:Array Edge} {gd:Option (Nat×Bool)}
theorem bT {t:TypeId} {xs:Array (Nat×Operand)} (l:List Value) (vs:List (Nat×Value)) (hv:(xs.map fun q=>(q.1,a.eval q.2)).toList=vs) (hb:P.built t vs=some l.toArray) :
  (execOp a.eval {dst:=dst,op:=.build t xs,type:=typ,pos:=pos,after:=aft,guard:=gd}).run P w=.ok (.value (.agg l.toArray)) w:=by
 have e:(xs.map fun (i,x)=>(i,a.eval x)).toList=vs:=hv
 unfold execOp
 simp only [Sem.run_bind,run_build w t _ l.toArray (by rw [e];exact hb),Result.andThen_ok,Sem.run_pure]
end
theorem built_np (s u:ByteArray):Tryz.prog.built 63 [(0,.string s),(1,.string u)]=some [Value.string s,.string u].toArray:=by kernel_rfl
theorem two_one (x y:ByteArray):∀v∈[Value.string x,.string y],v.oneCell'=true:=by intro v hv;simp at hv;rcases hv with rfl|rfl<;>rfl
section
variable {a:Act} {w:World} {dst:Option Tmp} {typ:TypeId} {pos:String} {aft:Array Edge} {gd:Option (Nat×Bool)}
theorem cy {x ix:Operand} {b n cap:Nat} (i:Nat) {ii:Int} (hx:a.eval x=.slice (some ⟨b,0,none⟩) n cap) (hix:a.eval ix=.int .i64 ii) (hii:ii=(i:Int)) (hi:i<n) :
  (execOp a.eval {dst:=dst,op:=.indexAddr 33 x ix,type:=typ,pos:=pos,after:=aft,guard:=gd}).run Tryz.prog w=.ok (.value (.pointer (some ⟨b,i,none⟩))) w:=by
 subst hii
 have h0:(0:Int)≤(i:Int)∧(i:Int)<(n:Int):=by omega
 unfold execOp
 simp [hx,hix,Instr.indexAt,asIntOf,run_underlying bf,h0,ba]
 omega
end
theorem split_cells (s:ByteArray) (w:World) (hs:s.size≤1000) (hM:MaxL w) (ks:List ByteArray) (hk:ks=segsB s) (n:Nat) (hn:n=ks.length) (h0:0<n) :
  Calls Tryz.prog 42 #[.string s] w fun e w'=>∃b cap,e=.returned (.slice (some ⟨b,0,none⟩) n cap)∧n≤cap∧w.heap.size≤b∧b<w'.heap.size∧(∀k,k<n→w'.cell? ⟨b,k,none⟩=some (.string (ks.getD k noStr)))∧Below w.heap.size w w':=by
 refine (cq s w hs hM).mono ?_
 rintro e w' ⟨v,rfl,ho,hb⟩
 have hl:=World.ownsRow.lt ho
 have hc:=@World.ownsRow.cells _ _ _ _ _ _ _ ho
 rw [←hk,←hn] at ho
 obtain ⟨h1,h2⟩:=ho
 rcases h2 with ⟨_,h3⟩|⟨g,cap,cur,hv,hbg,hcur,hcap,h4⟩
 ·omega
 ·subst hv
  have h5:=hl g rfl
  refine ⟨g,cap,rfl,hcap,h5.1,h5.2,fun k hk2=>?_,hb⟩
  have h6:=hc (g:=g) rfl k (.string (ks.getD k noStr)) (by
   rw [←hk]
   unfold strs
   rw [List.getElem?_map,List.getElem?_eq_getElem (by omega)]
   simp [show k<ks.length by omega])
  have hadd:(⟨g,0,none⟩:Addr).add k=⟨g,k,none⟩:=by unfold Addr.add;split<;>simp_all
  rwa [hadd] at h6
theorem sls_cells {w:World} {b m n cap:Nat} {ks:List ByteArray} (hm:m≤n) (hn:n=ks.length) (hcap:n≤cap) (hc:∀k,k<n→w.cell? ⟨b,k,none⟩=some (.string (ks.getD k noStr))):SlS w (.slice (some ⟨b,0,none⟩) m cap) (ks.take m):=by
 have hl:(ks.take m).length=m:=by rw [List.length_take];omega
 refine ⟨some ⟨b,0,none⟩,cap,by rw [hl],by rw [hl];omega,by simp [strs],fun h0=>⟨b,0,rfl,fun j u hu=>?_⟩⟩
 have hjm:j<m:=by
  rcases Nat.lt_or_ge j m with h'|h'
  ·exact h'
  ·rw [List.getElem?_eq_none (by simp [strs];omega)] at hu;cases hu
 rw [Nat.zero_add,hc j (by omega),←hu]
 unfold strs
 rw [List.getElem?_map,List.getElem?_take,if_pos hjm,List.getElem?_eq_getElem (by omega)]
 simp [show j<ks.length by omega]
theorem bV (s:ByteArray) (w:World) (hs:s.size≤1000) (hM:MaxL w) :
  Calls Tryz.prog 26 #[.string s] w fun e w'=>e=.returned (.tuple #[.agg (pvv (segsB s)).toArray,.bool (isP (bs s))])∧Below w.heap.size w w':=by
 have hm:=Mem.start w
 have HM:Hid (MaxL w):=hM
 obtain ⟨ks,hks⟩:∃ks,ks=segsB s:=⟨_,rfl⟩
 obtain ⟨r,hr⟩:∃r,r=isP (bs s):=⟨_,rfl⟩
 obtain ⟨n,hn⟩:∃n,n=ks.length:=⟨_,rfl⟩
 have hok:PlOk ks:=by rw [hks];exact a8 s
 have HK:Hid (∀_:Unit,PlOk ks):=fun _=>hok
 have hn3:n≤3:=by rw [hn];exact hok.len
 have HI:Hid (∀W,MaxL W→Calls Tryz.prog 43 #[.string s] W fun e w'=>e=.returned (.bool r)∧Below W.heap.size W w'):=fun W hW=>by rw [hr];exact is_any s W hs hW
 rw [←hks,←hr]
 by_cases h0:n=0
 ·have hks0:ks=[]:=List.length_eq_zero_iff.1 (by omega)
  have HSP:Hid (∀W,MaxL W→Calls Tryz.prog 42 #[.string s] W fun e w'=>∃p cap,e=.returned (.slice p 0 cap)∧Below W.heap.size W w'):=fun W hW=>by
   refine (cq s W hs hW).mono ?_
   rintro e w' ⟨v,rfl,ho,hb⟩
   obtain ⟨p,cap,hv,_⟩:=SlV.len (own_sl ho)
   subst hv
   rw [←hks,hks0]
   exact ⟨p,cap,rfl,hb⟩
  subst hks0
  clear hM hs hr hks hok hn h0 hn3
  go_enter Tryz.func26,Tryz.ntmps26
  go_wp2_with (first
   | ((with_reducible refine aa (some 2) (.alloc 63) ?_);refine ad _ av hm ?_;clear hm;intro w1 g2 hm)
   | (go_at_call 42;refine (HSP.out _ (HM.out.below hm.below)).mono ?_;rintro e w' ⟨p9,cap9,he,hb⟩;subst he;replace hm:=hm.call hb;clear hb)
   | (go_at_call 25;refine (aY _).mono ?_;rintro e w' ⟨he,hb⟩;subst he;replace hm:=hm.call hb;clear hb)
   | (go_at_call 43;refine (HI.out _ (HM.out.below hm.below)).mono ?_;rintro e w' ⟨he,hb⟩;subst he;replace hm:=hm.call hb;clear hb)
   | ((with_reducible refine aa none (.store 63 (.tmp 2) (.tmp 11)) ?_);refine ae 0 (pvv []) hm rfl rfl rfl 2 ai rfl rfl (ar _) ?_;clear hm;intro w6 hm))
  refine bp 0 (.bool r) hm rfl Tryz.results26 rfl rfl _ am rfl 2 ai rfl rfl ?_
  exact ⟨rfl,hm.below⟩
 ·obtain ⟨m,hm1⟩:∃m,n=m+1:=⟨n - 1,by omega⟩
  have hne:ks≠[]:=fun h=>h0 (by rw [hn,h];rfl)
  have hrt:r=true:=by
   rw [hr]
   cases hi:isP (bs s) with
   | true=>rfl
   | false =>
    have h1:=segsOf_no hi
    exact absurd (by rw [hks];unfold segsB;rw [h1];rfl) hne
  subst hrt
  have HSP:Hid (∀W,MaxL W→Calls Tryz.prog 42 #[.string s] W fun e w'=>∃b cap,e=.returned (.slice (some ⟨b,0,none⟩) n cap)∧n≤cap∧W.heap.size≤b∧b<w'.heap.size∧(∀k,k<n→w'.cell? ⟨b,k,none⟩=some (.string (ks.getD k noStr)))∧Below W.heap.size W w'):=fun W hW=>split_cells s W hs hW ks hks n hn (by omega)
  obtain ⟨x,hx⟩:∃x,x=lastS ks:=⟨_,rfl⟩
  obtain ⟨y,hy⟩:∃y,y=tx ks.dropLast:=⟨_,rfl⟩
  have hxm:ks.getD m noStr=x:=by
   rw [hx];unfold lastS
   rw [List.getLast?_eq_getElem?,List.getD_eq_getElem?_getD,show ks.length - 1=m by omega]
  have HPV:Hid (∀_:Unit,pvv ks=[.string y,.string x]):=fun _=>by rw [hx,hy];rfl
  have HJ:Hid (∀(W:World) (b cap:Nat),n≤cap→(∀k,k<n→W.cell? ⟨b,k,none⟩=some (.string (ks.getD k noStr)))→Calls Tryz.prog 44 #[.slice (some ⟨b,0,none⟩) m cap] W fun e w'=>e=.returned (.string y)∧Below W.heap.size W w'):=fun W b cap h1 h2=>by
   have h3:=joinP_any (ks.take m) (.slice (some ⟨b,0,none⟩) m cap) W (sls_cells (n:=n) (by omega) hn h1 h2)
   have h4:ks.take m=ks.dropLast:=by rw [List.dropLast_eq_take,←hn,hm1,Nat.add_sub_cancel]
   rw [h4,plOf_self hok.drop] at h3
   rw [hy];exact h3
  have HXM:Hid (∀_:Unit,ks.getD m noStr=x):=fun _=>hxm
  have hmn:m<n:=by omega
  have h0i:((n:Int)==0)=false:=by rw [beq_eq_false_iff_ne];omega
  have hwr:IntKind.i64.wrap ((n:Int) - 1)=(m:Int):=(wrapi _ (by omega) (by omega)).trans (by omega)
  have hm0:(0:Int)≤(m:Int):=by omega
  have hmi:(m:Int)<(n:Int):=by omega
  clear hM hs hr hks hok hn h0 hn3 hne hx hy hxm hm1 HI
  go_enter Tryz.func26,Tryz.ntmps26
  go_wp2_with (first
   | ((with_reducible refine aa (some 2) (.alloc 63) ?_);refine ad _ av hm ?_;clear hm;intro w1 g2 hm)
   | (go_at_call 42;refine (HSP.out _ (HM.out.below hm.below)).mono ?_;rintro e w3 ⟨b,cap,he,hcap,hb1,hb2,hc,hb⟩;subst he;have hgs:=Row.lt (hm.get 0 rfl);have hzs:=hm.size;replace hm:=hm.call hb;clear hb))
  have HB3:Hid (Below w.heap.size w w3):=hm.below
  have HC:Hid (∀k,k<n→w3.cell? ⟨b,k,none⟩=some (.string (ks.getD k noStr))):=hc
  have hg2:w.heap.size≤g2:=(hm.fresh (g2,pvv [],63) (by simp)).resolve_left (by simp)
  have hw3:=hm.size
  have hbg:b≠g2:=by omega
  clear hc
  replace hm:=Mem.enter (hm.get 0 rfl)
  refine ak ?_
  refine ag (T:=fun W=>∃l,Mem w3 [g2] W [(g2,l,63)]) (by kernel_rfl) hm ?_
  intro wc hbw hmw
  clear hm
  have hm:=hmw
  clear hbw hmw
  refine aT 0 (v:=.slice (some ⟨b,0,none⟩) n cap) rfl (by kernel_rfl) rfl (fun W _=>by go_simp) ⟨_,hm⟩ ?_
  go_simp
  refine aT 1 (v:=.int .i64 (m:Int)) rfl (by kernel_rfl) rfl (fun W _=>by go_simp) ⟨_,hm⟩ ?_
  go_simp
  refine aT 2 (v:=.slice (some ⟨b,0,none⟩) m cap) rfl (by kernel_rfl) rfl (fun W _=>exec_hiB m (by omega) rfl rfl rfl) ⟨_,hm⟩ ?_
  go_simp
  refine aT 4 (v:=.slice (some ⟨b,0,none⟩) n cap) rfl (by kernel_rfl) rfl (fun W _=>by go_simp) ⟨_,hm⟩ ?_
  go_simp
  refine aT 5 (v:=.int .i64 (m:Int)) rfl (by kernel_rfl) rfl (fun W _=>by go_simp) ⟨_,hm⟩ ?_
  go_simp
  refine aT 6 (v:=.pointer (some ⟨b,m,none⟩)) rfl (by kernel_rfl) rfl (fun W _=>cy m rfl rfl rfl hmn) ⟨_,hm⟩ ?_
  go_simp
  refine aT 7 (v:=.string x) rfl (by kernel_rfl) rfl (fun W hW=>by obtain ⟨l,hW⟩:=hW;exact bw (.string x) ((hW.old (p:=⟨b,m,none⟩) hb2 (by simpa using hbg)).trans ((HC.out m hmn).trans (by rw [HXM.out ()]))) rfl aq) ⟨_,hm⟩ ?_
  go_simp
  refine aO 3 (by kernel_rfl) rfl rfl ?_
  intro K hK
  go_wp2_with (go_at_call 44;refine (HJ.out _ b cap hcap (fun k hk=>(hm.old (p:=⟨b,k,none⟩) hb2 (by simpa using hbg)).trans (HC.out k hk))).mono ?_;rintro e w' ⟨he,hb⟩;subst he;replace hm:=hm.call hb;clear hb)
  refine hK _ _ ⟨_,hm⟩ ?_
  clear hK K
  go_simp
  refine aT 8 (v:=.agg [Value.string y,.string x].toArray) rfl (by kernel_rfl) rfl (fun W _=>bT _ [(0,.string y),(1,.string x)] (by go_simp) (built_np y x)) ⟨_,hm⟩ ?_
  go_simp
  refine aO 9 (by kernel_rfl) rfl rfl ?_
  intro K hK
  refine ae 0 [Value.string y,.string x] hm rfl rfl rfl 2 ai rfl rfl (two_one y x) ?_
  clear hm
  intro w9 hm
  refine wpList_nil ?_
  refine hK _ _ ⟨_,hm⟩ ?_
  clear hK K
  go_simp
  refine aT 10 (v:=.bool true) rfl (by kernel_rfl) rfl (fun W _=>by go_simp) ⟨_,hm⟩ ?_
  go_simp
  refine wpAnyH_done (by kernel_rfl) ?_ _
  simp only [endsIn]
  go_wp2_with fail
  refine bp 0 (.bool true) hm rfl Tryz.results26 rfl rfl _ am rfl 2 ai rfl rfl ?_
  exact ⟨by rw [HPV.out ()],aA HB3.out hm.toUpd hg2 hw3⟩
theorem cL {ks:List ByteArray} (h:PlOk ks) (w:World) (hM:MaxL w) :
  Calls Tryz.prog 29 #[.agg (pvv ks).toArray] w fun e w'=>e=.returned (.agg (pvv ks.dropLast).toArray)∧Below w.heap.size w w':=by
 have hm:=Mem.start w
 have HM:Hid (MaxL w):=hM
 obtain ⟨y,hy⟩:∃y,y=tx ks.dropLast:=⟨_,rfl⟩
 have HC0:Hid ((pvv ks)[0]?=some (.string y)):=by rw [hy];rfl
 have HP:Hid (∀W,MaxL W→Calls Tryz.prog 26 #[.string y] W fun e w'=>e=.returned (.tuple #[.agg (pvv ks.dropLast).toArray,.bool true])∧Below W.heap.size W w'):=fun W hW=>by
  have h1:=bV (tx ks.dropLast) W (by have:=bJ h.drop;omega) hW
  rw [cN h.drop,isP_tx h.drop] at h1
  rw [hy];exact h1
 clear h hM hy
 go_enter Tryz.func29,Tryz.ntmps29
 go_wp2_with (first
  | ((with_reducible refine aa (some 1) (.box 63 (.tmp 0)) ?_);refine aF (pvv ks) rfl hm ?_;clear hm;intro w1 g1 hm)
  | ((with_reducible refine aa (some 2) (.alloc 63) ?_);refine ad _ av hm ?_;clear hm;intro w2 g2 hm)
  | ((with_reducible refine aa (some 7) (.load 9 (.tmp 6)) ?_);refine aE 1 0 (.string y) hm rfl rfl aq (HC0.out) ?_)
  | (go_at_call 26;refine (HP.out _ (HM.out.below hm.below)).mono ?_;rintro e w' ⟨he,hb⟩;subst he;replace hm:=hm.call hb;clear hb)
  | ((with_reducible refine aa (some 3) (.alloc 63) ?_);refine ad _ av hm ?_;clear hm;intro w3 g3 hm)
  | ((with_reducible refine aa none (.store 63 (.tmp 3) (.tmp 9)) ?_);refine ae 0 (pvv ks.dropLast) hm rfl rfl rfl 2 ai rfl rfl (ar _) ?_;clear hm;intro w4 hm)
  | ((with_reducible refine aa (some 11) (.load 63 (.tmp 3)) ?_);refine al 0 hm rfl rfl _ am rfl 2 ai (by rfl) ?_)
  | ((with_reducible refine aa none (.store 63 (.tmp 2) (.tmp 11)) ?_);refine ae 1 (pvv ks.dropLast) hm rfl rfl rfl 2 ai rfl rfl (ar _) ?_;clear hm;intro w5 hm))
 refine bC 1 hm rfl Tryz.results29 rfl _ am rfl 2 ai rfl rfl ?_
 exact ⟨rfl,hm.below⟩
theorem isUnder_n {ks qs:List ByteArray} (h:PlOk ks) (h2:PlOk qs) (w:World) (hM:MaxL w) :
  Calls Tryz.prog 46 #[.agg (pvv ks).toArray,.agg (pvv qs).toArray] w fun e w'=>e=.returned (.bool (undB ks qs))∧Below w.heap.size w w':=by
 have hm:=Mem.start w
 have HM:Hid (MaxL w):=hM
 have HK:Hid (∀_:Unit,PlOk ks):=fun _=>h
 have HQ:Hid (∀_:Unit,PlOk qs):=fun _=>h2
 obtain ⟨r,hr⟩:∃r,r=undB ks qs:=⟨_,rfl⟩
 have HU:Hid (∀W,MaxL W→Calls Tryz.prog 61 #[.string (tx ks),.string (tx qs)] W fun e w'=>e=.returned (.bool r)∧Below W.heap.size W w'):=fun W hW=>by
  have h3:=under_any (tx ks) (tx qs) W (by have:=bJ h;omega) (by have:=bJ h2;omega) hW
  rw [und_tx h h2] at h3
  rw [hr];exact h3
 rw [←hr]
 clear h h2 hM hr
 go_enter Tryz.func46,Tryz.ntmps46
 go_wp2_with (first
  | ((with_reducible refine aa (some 2) (.box 63 (.tmp 0)) ?_);refine aF (pvv ks) rfl hm ?_;clear hm;intro w1 g2 hm)
  | ((with_reducible refine aa (some 3) (.box 63 (.tmp 1)) ?_);refine aF (pvv qs) rfl hm ?_;clear hm;intro w2 g3 hm))
 refine ak ?_
 refine ag (T:=fun W=>Mem w [] W [(g3,pvv qs,63),(g2,pvv ks,63)]) (by kernel_rfl) hm ?_
 intro wc hbw hmw
 clear hm
 have hm:=hmw
 clear hbw hmw
 refine aT 0 (v:=.agg (pvv ks).toArray) rfl (by kernel_rfl) rfl (fun W hW=>ah 0 (pvv ks) (Mem.get hW 1 rfl) rfl _ am rfl 2 ai (Nat.le_refl 2) rfl) hm ?_
 go_simp
 refine aT 2 (v:=.agg (pvv qs).toArray) rfl (by kernel_rfl) rfl (fun W hW=>ah 0 (pvv qs) (Mem.get hW 0 rfl) rfl _ am rfl 2 ai (Nat.le_refl 2) rfl) hm ?_
 go_simp
 refine aO 1 (by kernel_rfl) rfl rfl ?_
 intro K hK
 go_wp2_with (go_at_call 27;refine (bj (HK.out ()) _ (HM.out.below hm.below)).mono ?_;rintro e w' ⟨he,hb⟩;subst he;replace hm:=hm.call hb;clear hb)
 refine hK _ _ hm ?_
 clear hK K
 go_simp
 refine aO 3 (by kernel_rfl) rfl rfl ?_
 intro K hK
 go_wp2_with (go_at_call 27;refine (bj (HQ.out ()) _ (HM.out.below hm.below)).mono ?_;rintro e w' ⟨he,hb⟩;subst he;replace hm:=hm.call hb;clear hb)
 refine hK _ _ hm ?_
 clear hK K
 go_simp
 refine aO 4 (by kernel_rfl) rfl rfl ?_
 intro K hK
 go_wp2_with (go_at_call 61;refine (HU.out _ (HM.out.below hm.below)).mono ?_;rintro e w' ⟨he,hb⟩;subst he;replace hm:=hm.call hb;clear hb)
 refine hK _ _ hm ?_
 clear hK K
 go_simp
 refine aT 5 (v:=.bool r) rfl (by kernel_rfl) rfl (fun W _=>by go_simp) hm ?_
 go_simp
 refine wpAnyH_done (by kernel_rfl) ?_ _
 simp only [endsIn]
 go_wp2_with fail
 go_ret
 exact ⟨rfl,hm.below⟩
def cfN (ks qs:List ByteArray):Int:=cfB (mkS (cd ks)) (mkS (cd qs))
theorem byCode_n {ks qs:List ByteArray} (h:PlOk ks) (h2:PlOk qs) (w:World) (hM:MaxL w) :
  Calls Tryz.prog 48 #[.agg (pvv ks).toArray,.agg (pvv qs).toArray] w fun e w'=>e=.returned (.int .i64 (cfN ks qs))∧Below w.heap.size w w':=by
 have hm:=Mem.start w
 have HM:Hid (MaxL w):=hM
 have HK:Hid (∀_:Unit,PlOk ks):=fun _=>h
 have HQ:Hid (∀_:Unit,PlOk qs):=fun _=>h2
 obtain ⟨r,hr⟩:∃r,r=cfN ks qs:=⟨_,rfl⟩
 have HCK:Hid (∀W,MaxL W→Calls Tryz.prog 23 #[.string (tx ks)] W fun e w'=>e=.returned (.string (mkS (cd ks)))∧Below W.heap.size W w'):=fun W hW=>by
  have h3:=code_any (tx ks) W (by have:=bJ h;omega) hW
  rw [code_tx h] at h3
  exact h3
 have HCQ:Hid (∀W,MaxL W→Calls Tryz.prog 23 #[.string (tx qs)] W fun e w'=>e=.returned (.string (mkS (cd qs)))∧Below W.heap.size W w'):=fun W hW=>by
  have h3:=code_any (tx qs) W (by have:=bJ h2;omega) hW
  rw [code_tx h2] at h3
  exact h3
 have HCM:Hid (∀W,Calls Tryz.prog 63 #[.string (mkS (cd ks)),.string (mkS (cd qs))] W fun e w'=>e=.returned (.int .i64 r)∧w'=W):=fun W=>by
  rw [hr];exact compare_any _ _ W
 rw [←hr]
 clear h h2 hM hr
 go_enter Tryz.func48,Tryz.ntmps48
 go_wp2_with (first
  | ((with_reducible refine aa (some 2) (.box 63 (.tmp 0)) ?_);refine aF (pvv ks) rfl hm ?_;clear hm;intro w1 g2 hm)
  | ((with_reducible refine aa (some 3) (.box 63 (.tmp 1)) ?_);refine aF (pvv qs) rfl hm ?_;clear hm;intro w2 g3 hm))
 refine ak ?_
 refine ag (T:=fun W=>Mem w [] W [(g3,pvv qs,63),(g2,pvv ks,63)]) (by kernel_rfl) hm ?_
 intro wc hbw hmw
 clear hm
 have hm:=hmw
 clear hbw hmw
 refine aT 0 (v:=.agg (pvv ks).toArray) rfl (by kernel_rfl) rfl (fun W hW=>ah 0 (pvv ks) (Mem.get hW 1 rfl) rfl _ am rfl 2 ai (Nat.le_refl 2) rfl) hm ?_
 go_simp
 refine aT 3 (v:=.agg (pvv qs).toArray) rfl (by kernel_rfl) rfl (fun W hW=>ah 0 (pvv qs) (Mem.get hW 0 rfl) rfl _ am rfl 2 ai (Nat.le_refl 2) rfl) hm ?_
 go_simp
 refine aO 1 (by kernel_rfl) rfl rfl ?_
 intro K hK
 go_wp2_with (go_at_call 27;refine (bj (HK.out ()) _ (HM.out.below hm.below)).mono ?_;rintro e w' ⟨he,hb⟩;subst he;replace hm:=hm.call hb;clear hb)
 refine hK _ _ hm ?_
 clear hK K
 go_simp
 refine aO 2 (by kernel_rfl) rfl rfl ?_
 intro K hK
 go_wp2_with (go_at_call 23;refine (HCK.out _ (HM.out.below hm.below)).mono ?_;rintro e w' ⟨he,hb⟩;subst he;replace hm:=hm.call hb;clear hb)
 refine hK _ _ hm ?_
 clear hK K
 go_simp
 refine aO 4 (by kernel_rfl) rfl rfl ?_
 intro K hK
 go_wp2_with (go_at_call 27;refine (bj (HQ.out ()) _ (HM.out.below hm.below)).mono ?_;rintro e w' ⟨he,hb⟩;subst he;replace hm:=hm.call hb;clear hb)
 refine hK _ _ hm ?_
 clear hK K
 go_simp
 refine aO 5 (by kernel_rfl) rfl rfl ?_
 intro K hK
 go_wp2_with (go_at_call 23;refine (HCQ.out _ (HM.out.below hm.below)).mono ?_;rintro e w' ⟨he,hb⟩;subst he;replace hm:=hm.call hb;clear hb)
 refine hK _ _ hm ?_
 clear hK K
 go_simp
 refine aO 6 (by kernel_rfl) rfl rfl ?_
 intro K hK
 go_wp2_with (go_at_call 63;refine (HCM.out _).mono ?_;rintro e w' ⟨he,hw⟩;subst he hw)
 refine hK _ _ hm ?_
 clear hK K
 go_simp
 refine aT 7 (v:=.int .i64 r) rfl (by kernel_rfl) rfl (fun W _=>by go_simp) hm ?_
 go_simp
 refine wpAnyH_done (by kernel_rfl) ?_ _
 simp only [endsIn]
 go_wp2_with fail
 go_ret
 exact ⟨rfl,hm.below⟩
open Go Go.RowKit Go.Maps
section
variable {P:Program} {kT:TypeId} {w w':World} {m q:Nat} {p:Value→Value→Prop}
theorem KM.look1No (h:KM P kT w m q p) (K:Keyed P kT) {t e:TypeId} (ht:P.underlying t=some (.map kT e)) {z:Value} (hz:(zeroValue e).run P w=.ok z w) {key:Value} {kl:Lit} (hk:keyOf P kT key=some kl) (hp:∀v,¬p key v) :
  (Instr.lookup t (.map (some m)) key false).run P w=.ok z w:=by
 obtain ⟨D,ho,h1,h2⟩:=h
 obtain ⟨u,ps,hr,hv⟩:=ho.lookup K ht hz (show rdV z=some (.held z,[]) from rfl) hk
 have e1:=cM hv
 have hn:Maps.has D kl=false:=by
  cases hh:Maps.has D kl with
  | false=>rfl
  | true=>obtain ⟨v,hv⟩:=(h1 key kl hk).1 hh;exact absurd hv (hp v)
 rw [atKey_of_not_has hn] at e1
 simp only [DataW.held.injEq] at e1
 rw [hr,←e1]
end
theorem au:∀w,(isAgg 3).run Tryz.prog w=.ok false w:=by intro w;simp [go_sem]
theorem sz_int:(Tryz.prog.info? 3).map (·.size)=some 1:=by kernel_rfl
def lookV (p:Nms) (ks:List ByteArray):List Value:=match getN p ks with|some x=>spv x|none=>spZ
theorem lookV5 (p:Nms) (ks:List ByteArray):(lookV p ks).length=5:=by unfold lookV;split<;>rfl
theorem spv_one (x:Sp):∀v∈spv x,v.oneCell'=true:=by intro v hv;simp [spv] at hv;rcases hv with rfl|rfl|rfl|rfl|rfl<;>rfl
theorem spw_one (x:Sp):∀v∈spw x,v.oneCell'=true:=by
 intro v hv
 rcases List.mem_append.1 hv with h|h
 ·exact spv_one x v h
 ·simp at h;rcases h with rfl|rfl<;>rfl
def lookW (p:Nms) (ks:List ByteArray):List Value:=match getN p ks with|some x=>spw x|none=>swZ
theorem lookW7 (p:Nms) (ks:List ByteArray):(lookW p ks).length=7:=by unfold lookW;split<;>rfl
theorem b3 {p:Nms} {ks:List ByteArray} {x:Sp} (h:getN p ks=some x):lookW p ks=spw x:=by unfold lookW;rw [h]
theorem cU {p:Nms} {ks:List ByteArray} (h:getN p ks=none):lookW p ks=swZ:=by unfold lookW;rw [h]
theorem lookW_one (p:Nms) (ks:List ByteArray):∀v∈lookW p ks,v.oneCell'=true:=by
 unfold lookW
 split
 ·exact spw_one _
 ·intro v hv
  simp [swZ,spZ] at hv
  rcases hv with rfl|rfl<;>rfl
theorem look_part (p:Nms) (ks:List ByteArray):∃a b,lookW p ks=lookV p ks++[.int .i64 a,.int .i64 b]:=by
 unfold lookW lookV
 split
 ·exact ⟨_,_,rfl⟩
 ·exact ⟨0,0,rfl⟩
theorem lookV_one (p:Nms) (ks:List ByteArray):∀v∈lookV p ks,v.oneCell'=true:=by
 unfold lookV
 split
 ·exact spv_one _
 ·exact az [] 0 0
theorem lookV_some {p:Nms} {ks:List ByteArray} {x:Sp} (h:getN p ks=some x):lookV p ks=spv x:=by unfold lookV;rw [h]
theorem NmOk.get {p:Nms} (h:NmOk p) {x:Sp} (hx:x∈p):getN p x.1=some x:=by
 cases hg:getN p x.1 with
 | none=>have:=aM.2 ⟨x,hx,rfl⟩;rw [getN_none hg] at this;cases this
 | some y=>rw [h.uniq (aZ hg).1 hx (aZ hg).2]
structure NmAt (w:World) (nb m c:Nat) (p:Nms):Prop where
 row:Row w nb [.map (some m)] 69
 map:∃q,q≤c∧KM Tryz.prog 63 w m q (NmK p)
 ok:NmOk p
theorem NmAt.below {w w':World} {nb m c:Nat} {p:Nms} (h:NmAt w nb m c p) (hb:Below w.heap.size w w'):NmAt w' nb m c p:=by
 obtain ⟨q,hq,hk⟩:=h.map
 exact ⟨Row.bel h.row hb,⟨q,hq,hk.below hb⟩,h.ok⟩
theorem NmAt.mono {w:World} {nb m c c':Nat} {p:Nms} (h:NmAt w nb m c p) (hc:c≤c'):NmAt w nb m c' p:=by
 obtain ⟨q,hq,hk⟩:=h.map
 exact ⟨h.row,⟨q,by omega,hk⟩,h.ok⟩
theorem NmAt.isMap {w:World} {nb m c:Nat} {p:Nms} (h:NmAt w nb m c p):∃es n,w.heap[m]?=some (.map es n):=by
 obtain ⟨q,_,hk⟩:=h.map
 exact hk.isMap
theorem NmAt.lt {w:World} {nb m c:Nat} {p:Nms} (h:NmAt w nb m c p):m<w.heap.size:=by
 obtain ⟨q,_,hk⟩:=h.map
 exact hk.lt
theorem nmK_val {p:Nms} {ks:List ByteArray} (hp:NmOk p) (hk:PlOk ks) {v:Value} (h:NmK p (.agg (pvv ks).toArray) v):∃x,getN p ks=some x∧v=.agg (spw x).toArray:=by
 obtain ⟨x,hx,he,rfl⟩:=h
 obtain rfl:=bN hk (hp.ok x hx) he
 exact ⟨x,hp.get hx,rfl⟩
theorem cg (w:World):(zeroValue 66).run Tryz.prog w=.ok (.agg swZ.toArray) w:=zero_sw w
theorem NmAt.look {w:World} {nb m c:Nat} {p:Nms} (h:NmAt w nb m c p) {ks:List ByteArray} (hk:PlOk ks) (V:List Value) (b:Bool) (hV:V=lookW p ks) (hb:b=hasN p ks) :
  (Instr.lookup 67 (.map (some m)) (.agg (pvv ks).toArray) true).run Tryz.prog w=.ok (.tuple #[.agg V.toArray,.bool b]) w:=by
 obtain ⟨q,_,km⟩:=h.map
 obtain ⟨kl,hkl⟩:=cu hk
 subst hV hb
 rw [getN_has]
 cases hl:getN p ks with
 | none =>
  rw [cU hl]
  exact km.lookNo aU bY (cg w) hkl (fun v hv=>by obtain ⟨n,h1,_⟩:=nmK_val h.ok hk hv;rw [hl] at h1;cases h1)
 | some x =>
  rw [b3 hl]
  exact km.look aU bY (cg w) hkl ⟨x,(aZ hl).1,by rw [(aZ hl).2],rfl⟩
theorem NmAt.look1 {w:World} {nb m c:Nat} {p:Nms} (h:NmAt w nb m c p) {ks:List ByteArray} (hk:PlOk ks) (V:List Value) (hV:V=lookW p ks) :
  (Instr.lookup 67 (.map (some m)) (.agg (pvv ks).toArray) false).run Tryz.prog w=.ok (.agg V.toArray) w:=by
 obtain ⟨q,_,km⟩:=h.map
 obtain ⟨kl,hkl⟩:=cu hk
 subst hV
 cases hl:getN p ks with
 | none =>
  rw [cU hl]
  exact km.look1No aU bY (cg w) hkl (fun v hv=>by obtain ⟨n,h1,_⟩:=nmK_val h.ok hk hv;rw [hl] at h1;cases h1)
 | some x =>
  rw [b3 hl]
  exact km.look1 aU bY (cg w) hkl ⟨x,(aZ hl).1,by rw [(aZ hl).2],rfl⟩
theorem has_n {nb m c:Nat} {p:Nms} {ks:List ByteArray} (hk:PlOk ks) (r:Bool) (hr:r=hasN p ks) (w:World) (h:NmAt w nb m c p) :
  Calls Tryz.prog 28 #[.pointer (some ⟨nb,0,none⟩),.agg (pvv ks).toArray] w fun e w'=>e=.returned (.bool r)∧Below w.heap.size w w':=by
 have hm:=Mem.start w
 have HR:Hid (NmAt w nb m c p):=h
 have HK:Hid (∀_:Unit,PlOk ks):=fun _=>hk
 obtain ⟨V,hV⟩:∃V,V=lookW p ks:=⟨_,rfl⟩
 have HV:Hid (∀_:Unit,V=lookW p ks):=fun _=>hV
 have HV5:Hid (V.length=7):=by rw [hV];exact lookW7 p ks
 have HV1:Hid (∀v∈V,v.oneCell'=true):=by rw [hV];exact lookW_one p ks
 have HRR:Hid (∀_:Unit,r=hasN p ks):=fun _=>hr
 clear hk h hV hr
 go_enter Tryz.func28,Tryz.ntmps28
 go_wp2_with (first
  | ((with_reducible refine aa (some 3) (.box 63 (.tmp 1)) ?_);refine aF (pvv ks) rfl hm ?_;clear hm;intro w1 g3 hm))
 refine ak ?_
 refine ag (T:=fun W=>∃l,Mem w [] W (l++[(g3,pvv ks,63)])) (by kernel_rfl) hm ?_
 intro wc hbw hmw
 clear hm
 have hm:=hmw
 clear hbw hmw
 refine aT 0 (v:=.pointer (some ⟨nb,0,none⟩)) rfl (by kernel_rfl) rfl (fun W _=>by go_simp) ⟨[],hm⟩ ?_
 go_simp
 refine aT 1 (v:=.pointer (some ⟨nb,0,none⟩)) rfl (by kernel_rfl) rfl (fun W _=>by go_simp) ⟨[],hm⟩ ?_
 go_simp
 refine aT 2 (v:=.pointer (some ⟨nb,0,none⟩)) rfl (by kernel_rfl) rfl (fun W _=>by go_simp) ⟨[],hm⟩ ?_
 go_simp
 refine aT 3 (v:=.map (some m)) rfl (by kernel_rfl) rfl (fun W hW=>by obtain ⟨l,hW⟩:=hW;exact af 0 (.map (some m)) ((HR.out.below hW.below).row) rfl ag_nm rfl) ⟨[],hm⟩ ?_
 go_simp
 refine aT 4 (v:=.agg (pvv ks).toArray) rfl (by kernel_rfl) rfl (fun W hW=>by obtain ⟨l,hW⟩:=hW;exact ah 0 (pvv ks) (hW.row (g3,pvv ks,63) (by simp)) rfl _ am rfl 2 ai (Nat.le_refl 2) rfl) ⟨[],hm⟩ ?_
 go_simp
 refine aT 5 (v:=.tuple #[.agg V.toArray,.bool r]) rfl (by kernel_rfl) rfl (fun W hW=>by obtain ⟨l,hW⟩:=hW;exact bW ((HR.out.below hW.below).look (HK.out ()) V r (HV.out ()) (HRR.out ())) rfl rfl) ⟨[],hm⟩ ?_
 go_simp
 refine aT 6 (v:=.tuple #[.agg V.toArray,.bool r]) rfl (by kernel_rfl) rfl (fun W _=>by go_simp) ⟨[],hm⟩ ?_
 go_simp
 refine aT 7 (v:=.agg V.toArray) rfl (by kernel_rfl) rfl (fun W _=>by go_simp) ⟨[],hm⟩ ?_
 go_simp
 refine aT 8 (v:=.bool r) rfl (by kernel_rfl) rfl (fun W _=>by go_simp) ⟨[],hm⟩ ?_
 go_simp
 refine aO 9 (by kernel_rfl) rfl rfl ?_
 intro K hK
 refine ad _ zero_sw hm ?_
 clear hm
 intro w4 g5 hm
 refine wpList_nil ?_
 refine hK _ _ ⟨[_],hm⟩ ?_
 clear hK K
 go_simp
 refine aO 10 (by kernel_rfl) rfl rfl ?_
 intro K hK
 refine ae 0 V hm rfl rfl rfl 7 sz_sw rfl HV5.out HV1.out ?_
 clear hm
 intro w5 hm
 refine wpList_nil ?_
 refine hK _ _ ⟨[_],hm⟩ ?_
 clear hK K
 go_simp
 refine aT 11 (v:=.bool r) rfl (by kernel_rfl) rfl (fun W _=>by go_simp) ⟨[_],hm⟩ ?_
 go_simp
 refine wpAnyH_done (by kernel_rfl) ?_ _
 simp only [endsIn]
 go_wp2_with fail
 go_ret
 exact ⟨rfl,hm.below⟩
theorem held_n (ks:List ByteArray) (b e:Int) (w:World) :
  Calls Tryz.prog 24 #[.agg (spc ks b e).toArray] w fun e_ w'=>e_=.returned (.agg (spc ks (heldI b) (heldI e)).toArray)∧Below w.heap.size w w':=by
 have hm:=Mem.start w
 go_enter Tryz.func24,Tryz.ntmps24
 go_wp2_with (first
  | ((with_reducible refine aa (some 1) (.box 40 (.tmp 0)) ?_);refine aF (spc ks b e) rfl hm ?_;clear hm;intro w1 g1 hm)
  | ((with_reducible refine aa (some 2) (.alloc 40) ?_);refine ad _ ay hm ?_;clear hm;intro w2 g2 hm)
  | ((with_reducible refine aa (some 4) (.load 3 (.tmp 3)) ?_);refine aE 1 1 (.int .i64 b) hm rfl rfl au (rfl) ?_)
  | ((with_reducible refine aa (some 9) (.load 3 (.tmp 8)) ?_);refine aE 1 2 (.int .i64 e) hm rfl rfl au (rfl) ?_)
  | ((with_reducible refine aa none (.store 3 (.tmp 7) (.tmp 6)) ?_);refine cK 1 1 (.int .i64 (heldI b)) hm rfl rfl rfl sz_int (show _<5 by omega) rfl rfl ?_;clear hm;intro w3 hm)
  | ((with_reducible refine aa none (.store 3 (.tmp 12) (.tmp 11)) ?_);refine cK 1 2 (.int .i64 (heldI e)) hm rfl rfl rfl sz_int (show _<5 by omega) rfl rfl ?_;clear hm;intro w3 hm)
  | ((with_reducible refine aa (some 13) (.load 40 (.tmp 1)) ?_);refine al 1 hm rfl rfl _ bi rfl 5 ax (rfl) ?_)
  | ((with_reducible refine aa none (.store 40 (.tmp 2) (.tmp 13)) ?_);refine ae 0 (spc ks (heldI b) (heldI e)) hm rfl rfl rfl 5 ax rfl rfl (az _ _ _) ?_;clear hm;intro w6 hm))
 refine bC 0 hm rfl Tryz.results24 rfl _ bi rfl 5 ax rfl rfl ?_
 exact ⟨rfl,hm.below⟩
open Go Go.RowKit Go.Sort Go.Shelf Go.Proofs
def sortN_ren:Go.Shelf.Ren:=⟨fun | 6=>47 | 15=>51 | 14=>62 | 28=>73 | 29=>74 | 20=>83 | 21=>84 | 22=>85 | 23=>86 | 24=>87 | 25=>88 | 26=>89 | 27=>90 | 46=>103 | 47=>93 | 48=>94 | 49=>104 | 50=>105 | 57=>113|n=>n,fun | 22=>74 | 24=>63 | 25=>88 | 3=>3 | 39=>91 | 0=>0 | 53=>110 | 55=>112 | 4=>4 | 46=>103 | 45=>102 | 50=>107 | 5=>5 | 9=>9 | 66=>133 | 70=>137 | 76=>144 | 77=>145|n=>n,fun|n=>n⟩
theorem sortN:Go.Proofs.SlLaysF0.n6 Tryz.prog sortN_ren:={
 mixed:=by kernel_rfl
 f6:=⟨Tryz.f47.name,by decide,Tryz.func47.trans (congrArg some (by kernel_rfl))⟩
 f14:=⟨Tryz.f62.name,by decide,Tryz.func62.trans (congrArg some (by kernel_rfl))⟩
 f15:=Tryz.func51.trans (congrArg some (by kernel_rfl))
 f20:=⟨Tryz.f83.name,by decide,Tryz.func83.trans (congrArg some (by kernel_rfl))⟩
 f21:=⟨Tryz.f84.name,by decide,Tryz.func84.trans (congrArg some (by kernel_rfl))⟩
 f22:=⟨Tryz.f85.name,by decide,Tryz.func85.trans (congrArg some (by kernel_rfl))⟩
 f23:=⟨Tryz.f86.name,by decide,Tryz.func86.trans (congrArg some (by kernel_rfl))⟩
 f24:=⟨Tryz.f87.name,by decide,Tryz.func87.trans (congrArg some (by kernel_rfl))⟩
 f25:=⟨Tryz.f88.name,by decide,Tryz.func88.trans (congrArg some (by kernel_rfl))⟩
 f26:=⟨Tryz.f89.name,by decide,Tryz.func89.trans (congrArg some (by kernel_rfl))⟩
 f27:=⟨Tryz.f90.name,by decide,Tryz.func90.trans (congrArg some (by kernel_rfl))⟩
 f28:=Tryz.func73.trans (congrArg some (by kernel_rfl))
 f29:=Tryz.func74.trans (congrArg some (by kernel_rfl))
 f46:=⟨Tryz.f103.name,by decide,Tryz.func103.trans (congrArg some (by kernel_rfl))⟩
 f47:=Tryz.func93.trans (congrArg some (by kernel_rfl))
 f48:=Tryz.func94.trans (congrArg some (by kernel_rfl))
 f49:=⟨Tryz.f104.name,by decide,Tryz.func104.trans (congrArg some (by kernel_rfl))⟩
 f50:=⟨Tryz.f105.name,by decide,Tryz.func105.trans (congrArg some (by kernel_rfl))⟩
 f57:=⟨Tryz.f113.name,by decide,Tryz.func113.trans (congrArg some (by kernel_rfl))⟩
 t0:=Tryz.underlying0
 a0:=Tryz.isAgg0
 z0:=Tryz.sizeOf0
 v0:=Tryz.zeroValue0
 t3:=Tryz.underlying3
 a3:=Tryz.isAgg3
 z3:=Tryz.sizeOf3
 v3:=Tryz.zeroValue3
 t4:=Tryz.underlying4
 a4:=Tryz.isAgg4
 z4:=Tryz.sizeOf4
 v4:=Tryz.zeroValue4
 t5:=Tryz.underlying5
 a5:=Tryz.isAgg5
 z5:=Tryz.sizeOf5
 v5:=Tryz.zeroValue5
 t9:=Tryz.underlying9
 a9:=Tryz.isAgg9
 z9:=Tryz.sizeOf9
 v9:=Tryz.zeroValue9
 t22:=Tryz.underlying74
 a22:=Tryz.isAgg74
 z22:=Tryz.sizeOf74
 v22:=Tryz.zeroValue74
 t25:=Tryz.underlying88
 a25:=Tryz.isAgg88
 z25:=Tryz.sizeOf88
 v25:=Tryz.zeroValue88
 t39:=Tryz.underlying91
 a39:=Tryz.isAgg91
 z39:=Tryz.sizeOf91
 v39:=Tryz.zeroValue91
 t45:=Tryz.underlying102
 a45:=Tryz.isAgg102
 z45:=Tryz.sizeOf102
 v45:=Tryz.zeroValue102
 t46:=Tryz.underlying103
 a46:=Tryz.isAgg103
 z46:=Tryz.sizeOf103
 v46:=Tryz.zeroValue103
 t50:=Tryz.underlying107
 a50:=Tryz.isAgg107
 z50:=Tryz.sizeOf107
 v50:=Tryz.zeroValue107
 t53:=Tryz.underlying110
 a53:=Tryz.isAgg110
 z53:=Tryz.sizeOf110
 v53:=Tryz.zeroValue110
 t55:=Tryz.underlying112
 a55:=Tryz.isAgg112
 z55:=Tryz.sizeOf112
 v55:=Tryz.zeroValue112
 t66:=Tryz.underlying133
 a66:=Tryz.isAgg133
 z66:=Tryz.sizeOf133
 v66:=Tryz.zeroValue133
 t70:=Tryz.underlying137
 a70:=Tryz.isAgg137
 z70:=Tryz.sizeOf137
 v70:=Tryz.zeroValue137
 t76:=Tryz.underlying144
 a76:=Tryz.isAgg144
 z76:=Tryz.sizeOf144
 v76:=Tryz.zeroValue144
 t77:=Tryz.underlying145
 a77:=Tryz.isAgg145
 z77:=Tryz.sizeOf145
 v77:=Tryz.zeroValue145}
def sortS_ren:Go.Shelf.Ren:=⟨fun | 6=>34 | 8=>51 | 9=>50 | 19=>73 | 20=>74 | 21=>64 | 22=>65 | 23=>66 | 24=>67 | 25=>68 | 26=>69 | 27=>70 | 28=>71 | 29=>72 | 36=>92 | 31=>93 | 32=>94 | 37=>95 | 38=>96 | 39=>97 | 41=>107|n=>n,fun | 27=>33 | 29=>9 | 3=>3 | 32=>91 | 26=>33 | 0=>0 | 44=>110 | 46=>112 | 4=>4 | 36=>103 | 35=>102 | 41=>107 | 5=>5 | 9=>9 | 53=>133 | 57=>137 | 63=>144 | 64=>145|n=>n,fun|n=>n⟩
theorem sortS:Go.Proofs.SlLaysM.n6 Tryz.prog sortS_ren:={
 mixed:=by kernel_rfl
 f6:=⟨Tryz.f34.name,by decide,Tryz.func34.trans (congrArg some (by kernel_rfl))⟩
 f8:=Tryz.func51.trans (congrArg some (by kernel_rfl))
 f9:=⟨Tryz.f50.name,by decide,Tryz.func50.trans (congrArg some (by kernel_rfl))⟩
 f19:=Tryz.func73.trans (congrArg some (by kernel_rfl))
 f20:=Tryz.func74.trans (congrArg some (by kernel_rfl))
 f21:=⟨Tryz.f64.name,by decide,Tryz.func64.trans (congrArg some (by kernel_rfl))⟩
 f22:=⟨Tryz.f65.name,by decide,Tryz.func65.trans (congrArg some (by kernel_rfl))⟩
 f23:=⟨Tryz.f66.name,by decide,Tryz.func66.trans (congrArg some (by kernel_rfl))⟩
 f24:=⟨Tryz.f67.name,by decide,Tryz.func67.trans (congrArg some (by kernel_rfl))⟩
 f25:=⟨Tryz.f68.name,by decide,Tryz.func68.trans (congrArg some (by kernel_rfl))⟩
 f26:=⟨Tryz.f69.name,by decide,Tryz.func69.trans (congrArg some (by kernel_rfl))⟩
 f27:=⟨Tryz.f70.name,by decide,Tryz.func70.trans (congrArg some (by kernel_rfl))⟩
 f28:=⟨Tryz.f71.name,by decide,Tryz.func71.trans (congrArg some (by kernel_rfl))⟩
 f29:=⟨Tryz.f72.name,by decide,Tryz.func72.trans (congrArg some (by kernel_rfl))⟩
 f31:=Tryz.func93.trans (congrArg some (by kernel_rfl))
 f32:=Tryz.func94.trans (congrArg some (by kernel_rfl))
 f36:=⟨Tryz.f92.name,by decide,Tryz.func92.trans (congrArg some (by kernel_rfl))⟩
 f37:=⟨Tryz.f95.name,by decide,Tryz.func95.trans (congrArg some (by kernel_rfl))⟩
 f38:=⟨Tryz.f96.name,by decide,Tryz.func96.trans (congrArg some (by kernel_rfl))⟩
 f39:=⟨Tryz.f97.name,by decide,Tryz.func97.trans (congrArg some (by kernel_rfl))⟩
 f41:=⟨Tryz.f107.name,by decide,Tryz.func107.trans (congrArg some (by kernel_rfl))⟩
 t0:=Tryz.underlying0
 a0:=Tryz.isAgg0
 z0:=Tryz.sizeOf0
 v0:=Tryz.zeroValue0
 t3:=Tryz.underlying3
 a3:=Tryz.isAgg3
 z3:=Tryz.sizeOf3
 v3:=Tryz.zeroValue3
 t4:=Tryz.underlying4
 a4:=Tryz.isAgg4
 z4:=Tryz.sizeOf4
 v4:=Tryz.zeroValue4
 t5:=Tryz.underlying5
 a5:=Tryz.isAgg5
 z5:=Tryz.sizeOf5
 v5:=Tryz.zeroValue5
 t9:=Tryz.underlying9
 a9:=Tryz.isAgg9
 z9:=Tryz.sizeOf9
 v9:=Tryz.zeroValue9
 t26:=Tryz.underlying33
 a26:=Tryz.isAgg33
 z26:=Tryz.sizeOf33
 v26:=Tryz.zeroValue33
 t27:=Tryz.underlying33
 a27:=Tryz.isAgg33
 z27:=Tryz.sizeOf33
 v27:=Tryz.zeroValue33
 t29:=Tryz.underlying9
 a29:=Tryz.isAgg9
 z29:=Tryz.sizeOf9
 v29:=Tryz.zeroValue9
 t32:=Tryz.underlying91
 a32:=Tryz.isAgg91
 z32:=Tryz.sizeOf91
 v32:=Tryz.zeroValue91
 t35:=Tryz.underlying102
 a35:=Tryz.isAgg102
 z35:=Tryz.sizeOf102
 v35:=Tryz.zeroValue102
 t36:=Tryz.underlying103
 a36:=Tryz.isAgg103
 z36:=Tryz.sizeOf103
 v36:=Tryz.zeroValue103
 t41:=Tryz.underlying107
 a41:=Tryz.isAgg107
 z41:=Tryz.sizeOf107
 v41:=Tryz.zeroValue107
 t44:=Tryz.underlying110
 a44:=Tryz.isAgg110
 z44:=Tryz.sizeOf110
 v44:=Tryz.zeroValue110
 t46:=Tryz.underlying112
 a46:=Tryz.isAgg112
 z46:=Tryz.sizeOf112
 v46:=Tryz.zeroValue112
 t53:=Tryz.underlying133
 a53:=Tryz.isAgg133
 z53:=Tryz.sizeOf133
 v53:=Tryz.zeroValue133
 t57:=Tryz.underlying137
 a57:=Tryz.isAgg137
 z57:=Tryz.sizeOf137
 v57:=Tryz.zeroValue137
 t63:=Tryz.underlying144
 a63:=Tryz.isAgg144
 z63:=Tryz.sizeOf144
 v63:=Tryz.zeroValue144
 t64:=Tryz.underlying145
 a64:=Tryz.isAgg145
 z64:=Tryz.sizeOf145
 v64:=Tryz.zeroValue145}
open Go
theorem ask_drawn {α:Type} (k:Ask α):∀w:World,w.drawn≤(w.ask k).2.drawn:=by
 induction k with
 | done a=>intro w;exact Nat.le_refl _
 | ask what range k ih =>
  intro w
  unfold World.ask
  simp only
  split
  ·exact ih _ w
  ·exact Nat.le_trans (Nat.le_succ _) (ih _ {w with drawn:=w.drawn+1})
theorem sys_drawn (w:World) (c:Sys):w.drawn≤(w.sys c).2.drawn:=by
 have h:=ask_drawn (Kernel.perform c w.os) w
 unfold World.sys
 split
 ·exact Nat.le_refl _
 ·rename_i heq
  rw [heq] at h
  exact h
theorem c7 {p:Program} {w w':World} {a:Addr} {v:Value} {b:Bool} {l:List Addr} (h:w.farStore p a v b=.ok (w',l)):w'.drawn=w.drawn:=by
 unfold World.farStore at h
 split at h
 ·split at h
  ·rename_i r hr
   cases h
   unfold World.viewStore at hr
   simp only [bind,Except.bind,pure,Except.pure] at hr
   repeat' (split at hr)
   all_goals first|(cases hr;done)|(cases hr;rfl)|skip
  ·cases h
 ·cases h
def rlow {α:Type} (d:Nat):Result α→Prop
 | .ok _ w=>d≤w.drawn
 | .halt _ w=>d≤w.drawn
theorem bX {α:Type} {c d:Nat} {r:Result α} (h:rlow d r) (hc:c≤d):rlow c r:=by
 cases r<;>exact Nat.le_trans hc h
theorem freeze_drawn (w:World) (a:Addr) (n:Nat):(w.freeze a n).drawn=w.drawn:=by
 unfold World.freeze;split<;>rfl
theorem run_drawn {α:Type} (p:Program) (s:Sem α):∀w:World,rlow w.drawn (s.run p w):=by
 induction s with
 | pure a=>intro w;exact Nat.le_refl _
 | load m a k ih =>
  intro w;unfold Sem.run
  split
  ·exact ih _ w
  ·split
   ·exact ih _ w
   ·exact Nat.le_refl _
 | store m a v k ih =>
  intro w
  cases v
  case agg=>exact Nat.le_refl _
  case tuple=>exact Nat.le_refl _
  all_goals
   unfold Sem.run
   split
   ·split
    ·exact Nat.le_refl _
    ·exact ih (w.setCell a _)
   ·split
    ·rename_i h
     exact bX (ih _) (Nat.le_of_eq (c7 h).symm)
    ·exact Nat.le_refl _
 | new o k ih=>intro w;exact ih _ {w with heap:=w.heap.push o}
 | shape r k ih=>intro w;exact ih _ w
 | freeze a n k ih=>intro w;exact bX (ih (w.freeze a n)) (Nat.le_of_eq (freeze_drawn w a n).symm)
 | frozen a k ih=>intro w;exact ih _ w
 | getObj r k ih =>
  intro w;unfold Sem.run
  split
  ·exact Nat.le_refl _
  ·exact ih _ w
  ·exact Nat.le_refl _
 | setObj r o k ih =>
  intro w;unfold Sem.run
  split
  ·exact Nat.le_refl _
  ·exact ih {w with heap:=w.heap.setIfInBounds r o}
  ·exact Nat.le_refl _
 | choose q k ih =>
  intro w;unfold Sem.run
  split
  ·exact ih _ w
  ·exact bX (ih _ {w with drawn:=w.drawn+1}) (Nat.le_succ _)
 | sys c k ih =>
  intro w;unfold Sem.run
  exact bX (ih (w.sys c).1 (w.sys c).2) (sys_drawn w c)
 | program k ih=>intro w;exact ih _ w
 | mark m k ih=>intro w;exact ih w
 | halt h=>intro w;exact Nat.le_refl _
theorem aB {α:Type} {p:Program} {s:Sem α} {w w':World} {a:α} (h:s.run p w=.ok a w'):w.drawn≤w'.drawn:=by
 have:=run_drawn p s w;rw [h] at this;exact this
theorem aW {α:Type} {p:Program} {s:Sem α} {w w':World} {a:Halt} (h:s.run p w=.halt a w'):w.drawn≤w'.drawn:=by
 have:=run_drawn p s w;rw [h] at this;exact this
def glow (d:Nat):GStep→Prop
 | .go _ w _=>d≤w.drawn
 | .comm _ _ _ _ w _=>d≤w.drawn
 | .spawn _ _ w _=>d≤w.drawn
 | .count _ w _=>d≤w.drawn
 | .timer _ _ w _=>d≤w.drawn
 | .alone _ _ w _=>d≤w.drawn
 | .newcoro _ _ _ w _=>d≤w.drawn
 | .coroswitch _ _ _ w _=>d≤w.drawn
 | .collect _ w _=>d≤w.drawn
 | .watch _ w _=>d≤w.drawn
 | .ended _ _ _=>True
theorem bn {d:Nat} {es:Array Event} {s:GStep} (h:glow d s):glow d (GStep.after es s):=by
 cases s<;>exact h
theorem aL {c d:Nat} {s:GStep} (h:glow d s) (hc:c≤d):glow c s:=by
 cases s<;>first|exact Nat.le_trans hc h|trivial
theorem bF (p:Program) (main:Bool) (fr:Frame) (callers:List Frame) (dying:Option Dying) (v:Value) (w:World):glow w.drawn (doReturn p main fr callers dying v w):=by
 unfold doReturn
 simp only []
 repeat' first
  | exact Nat.le_refl _
  | exact trivial
  | split
theorem bH (fr:Frame) (m:String) (w:World):glow w.drawn (endThrow fr m w):=Nat.le_refl _
theorem endWith_low (d:Nat) (w:World) (fd:Nat) (t:ByteArray) (o:Outcome):glow d (endWith w fd t o):=by
 unfold endWith
 simp only []
 repeat' first
  | exact trivial
  | split
theorem bK (p:Program) (fr:Frame) (v:Value) (w:World):glow w.drawn (endPrinting p fr v w):=by
 unfold endPrinting
 simp only []
 repeat' first
  | exact Nat.le_refl _
  | exact trivial
  | split
theorem ite_low {c:Prop} [Decidable c] {d:Nat} {a b:GStep} (ha:glow d a) (hb:glow d b):glow d (if c then a else b):=by
 split
 ·exact ha
 ·exact hb
theorem cm (p:Program) (fr:Frame) (cs:List Frame) (dy:Option Dying) (m:String) (w:World):glow w.drawn (endFatal p fr cs dy m w):=by
 unfold endFatal
 simp only []
 repeat' first
  | exact trivial
  | exact aB (by assumption)
  | split
theorem writeOn_low (p:Program) (fr:Frame) (d:Dying) (f:Fatal) (w:World):glow w.drawn (writeOn p fr d f w):=by
 unfold writeOn
 simp only [Sem.runT_eq]
 split
 ·exact trivial
 ·split
  ·rename_i h;exact aB (Prod.mk.inj h).1
  ·rename_i h;exact aW (Prod.mk.inj h).1
  ·exact trivial
  ·exact trivial
theorem die_low (p:Program) (fr:Frame) (d:Dying) (w:World):glow w.drawn (die p fr d w):=by
 unfold die
 simp only [Sem.runT_eq]
 repeat' first
  | exact writeOn_low _ _ _ _ _
  | exact endWith_low _ _ _ _ _
  | exact Nat.le_refl _
  | exact aB (by assumption)
  | exact aL (bK _ _ _ _) (aW (by assumption))
  | exact trivial
  | refine bn ?_
  | split
theorem cn (p:Program) (fr:Frame) (cs:List Frame) (dy:Option Dying) (d:Deferred) (w:World):glow w.drawn (callDeferred p fr cs dy d w):=by
 unfold callDeferred
 simp only [Sem.runT_eq]
 refine ite_low trivial ?_
 refine bn ?_
 repeat' first
  | exact trivial
  | exact aB (by assumption)
  | exact aW (by assumption)
  | exact aL (cm _ _ _ _ _ _) (aW (by assumption))
  | exact aL (bH _ _ _) (aW (by assumption))
  | split
theorem unwind_low (p:Program) (main:Bool) (fr:Frame) (cs:List Frame) (dy:Option Dying) (w:World):glow w.drawn (unwind p main fr cs dy w):=by
 unfold unwind
 simp only [Sem.runT_eq]
 repeat' first
  | exact cn _ _ _ _ _ _
  | exact bK _ _ _ _
  | exact bF _ _ _ _ _ _ _
  | exact aL (bF _ _ _ _ _ _ _) (aB (by assumption))
  | exact Nat.le_refl _
  | exact aB (by assumption)
  | exact trivial
  | refine bn ?_
  | split
theorem early_low (p:Program) (fr:Frame) (cs:List Frame) (dy:Option Dying) (g:Nat) (w:World):glow w.drawn (early p fr cs dy g w):=by
 unfold early
 simp only []
 repeat' first
  | exact Nat.le_refl _
  | exact aB (by assumption)
  | exact trivial
  | (refine Nat.le_trans (aB ‹Sem.run _ _ _=Result.ok _ _›) ?_;exact Nat.le_refl _)
  | split
theorem cp (p:Program) (b:Bool) (fr:Frame) (cs:List Frame) (dy:Option Dying) (s:Sem Next) (w:World):glow w.drawn (stepG.apply p b fr cs dy s w):=by
 unfold stepG.apply
 have e:(if b=true then s.runT p w #[] else (s.run p w,#[])).1=s.run p w:=by split;exact Sem.runT_fst _ _ _ _;rfl
 generalize (if b=true then s.runT p w #[] else (s.run p w,#[]))=r at e
 obtain ⟨r,es⟩:=r
 simp only at e
 subst e
 simp only []
 refine bn ?_
 repeat' first
  | exact trivial
  | exact aB (by assumption)
  | exact aW (by assumption)
  | exact aL (cm _ _ _ _ _ _) (aW (by assumption))
  | exact aL (bH _ _ _) (aW (by assumption))
  | exact aL (bH _ _ _) (aB (by assumption))
  | exact aL (early_low _ _ _ _ _ _) (aW (by assumption))
  | split
theorem oper_low (p:Program) (b:Bool) (fr:Frame) (cs:List Frame) (dy:Option Dying) (w:World):glow w.drawn (stepG.oper p b fr cs dy w):=by
 unfold stepG.oper
 repeat' first
  | exact trivial
  | exact cp _ _ _ _ _ _ _
  | split
theorem elim_low {A:Type} {o:Option A} {d:Nat} {a:GStep} {f:A→GStep} (ha:glow d a) (hf:∀x,glow d (f x)):glow d (o.elim a f):=by
 cases o
 ·exact ha
 ·exact hf _
theorem exec_low (p:Program) (main b:Bool) (fr:Frame) (cs:List Frame) (dy:Option Dying) (w:World):glow w.drawn (stepG.exec p main b fr cs dy w):=by
 unfold stepG.exec
 simp only [Sem.runT_eq]
 repeat' first
  | exact trivial
  | exact Nat.le_refl _
  | exact cp _ _ _ _ _ _ _
  | exact oper_low _ _ _ _ _ _
  | refine elim_low ?_ (fun _=>?_)
  | exact aB (by assumption)
  | exact aW (by assumption)
  | exact aL (bF _ _ _ _ _ _ _) (aB (by assumption))
  | exact aL (cp _ _ _ _ _ _ _) (aB (by assumption))
  | refine bn ?_
  | split
theorem stepG_low (p:Program) (main:Bool) (g:Goroutine) (w:World) (b:Bool):glow w.drawn (stepG p main g w b):=by
 unfold stepG
 simp only []
 repeat' first
  | exact die_low _ _ _ _
  | exact exec_low _ _ _ _ _ _ _
  | exact unwind_low _ _ _ _ _ _
  | split
theorem cI {rest:Rest} {cases:Array CommCase} {w w':World} (h:waitingAt rest cases w=some w'):w'.drawn=w.drawn:=by
 unfold waitingAt at h
 repeat' first
  | (cases h;done)
  | (cases h;rfl)
  | split at h
def slow (d:Nat):Stepped→Prop
 | .next m=>d≤m.world.drawn
 | .ended _ _=>True
theorem bc {c d:Nat} {s:Stepped} (h:slow d s) (hc:c≤d):slow c s:=by
 cases s
 ·exact Nat.le_trans hc h
 ·trivial
theorem cH (p:Program) (rest:Rest) (gs:Array Goroutine) (i:Nat) (g:Goroutine) (cases:Array CommCase) (blocking:Bool)
  (shape:CommShape) (w:World):slow w.drawn (communicate p rest gs i g cases blocking shape w).1:=by
 unfold communicate
 simp only []
 repeat' first
  | exact trivial
  | exact Nat.le_refl _
  | exact Nat.le_of_eq (cI (by assumption)).symm
  | (refine Nat.le_trans (aB ‹Sem.run _ _ _=Result.ok (_,_) _›) ?_;exact Nat.le_refl _)
  | (refine Nat.le_trans (aB ‹Sem.run _ _ _=Result.ok (_,_) _›) (Nat.le_trans (aB ‹Sem.run _ _ _=Result.ok (_:Nat) _›) ?_);exact Nat.le_refl _)
  | split
theorem look_low (p:Program) (gs:Array Goroutine) (rest:Rest) (w:World):slow w.drawn (look p gs rest w):=by
 unfold look
 simp only []
 repeat' first
  | exact trivial
  | (refine Nat.le_trans (aB ‹Sem.run _ _ _=Result.ok _ _›) ?_;exact Nat.le_refl _)
  | split
theorem drain_drawn (w:World) (c:Nat):(drain w c).2.drawn=w.drawn:=by
 unfold drain
 split<;>rfl
theorem b7 (m:Machine) (k:Nat) (t:Timer) (a b:Nat):(retime m k t a b).2.world.drawn=m.world.drawn:=by
 unfold retime
 simp only []
 split
 ·exact drain_drawn _ _
 ·rfl
theorem da {m m':Machine} {op:TimerOp} {v:Value} (h:timerOp m op=.ok (v,m')):m'.world.drawn=m.world.drawn:=by
 unfold timerOp at h
 cases op with
 | new t =>
  simp only [] at h
  repeat' first
   | (cases h;done)
   | (cases h;rfl)
   | split at h
 | stop var =>
  simp only [timerOp.named] at h
  split at h
  ·have e:=Except.ok.inj h
   have:=b7 m ‹Nat› (m.rest.timers.getD ‹Nat› default) 0 (m.rest.timers.getD ‹Nat› default).period
   rw [e] at this
   exact this
  ·cases h
 | reset var a b =>
  simp only [timerOp.named] at h
  split at h
  ·rename_i m2 ho
   have h2:m2.world.drawn=m.world.drawn:=by
    unfold timerOp.opened at ho
    repeat' first
     | (cases ho;done)
     | (cases ho;rfl)
     | split at ho
   split at h
   ·have e:=Except.ok.inj h
    have:=b7 m2 ‹Nat› (m.rest.timers.getD ‹Nat› default) a b
    rw [e] at this
    exact this.trans h2
   ·cases h
  ·cases h
 | deadline a b c d =>
  simp only [] at h
  cases h
  rfl
theorem runT_low (p:Program) (m:Machine) (i:Nat) (b:Bool):slow m.world.drawn (runT p m i b).1:=by
 simp only [runT]
 generalize m.gs.swapAt! _ _=gg
 have hs:=stepG_low p (i==0) gg.1 m.world b
 generalize stepG p _ gg.1 m.world b=s at hs
 cases s<;>simp only []
 all_goals first
  | exact hs
  | exact trivial
  | exact bc (cH _ _ _ _ _ _ _ _ _) hs
  | exact bc (look_low _ _ _ _) hs
  | (split;exact trivial;exact hs)
  | skip
 ·repeat' first
   | exact hs
   | exact trivial
   | exact Nat.le_trans hs (Nat.le_of_eq (da (by assumption)).symm)
   | split
 ·repeat' first
   | exact hs
   | exact trivial
   | split
theorem serve_low (p:Program) (m:Machine) (k:Nat):slow m.world.drawn (serve p m k):=by
 unfold serve
 simp only []
 repeat' first
  | exact trivial
  | exact Nat.le_refl _
  | split
def mlow (d:Nat):Move→Prop
 | .goroutine m _=>d≤m.world.drawn
 | .machine s _=>slow d s
theorem bz {c d:Nat} {s:Move} (h:mlow d s) (hc:c≤d):mlow c s:=by
 cases s
 ·exact Nat.le_trans hc h
 ·exact bc h hc
theorem cx (p:Program) (m:Machine):mlow m.world.drawn (askOn p m):=by
 unfold askOn
 extract_lets mono rs ds pick
 have hp:∀m:Machine,mlow m.world.drawn (pick m):=by
  intro m
  simp only [pick]
  split
  ·exact trivial
  ·rename_i h
   have h0:=aB h
   split
   ·exact h0
   ·split
    ·exact trivial
    ·rename_i h2
     have h3:=aB h2
     exact Nat.le_trans h0 h3
 clear_value pick rs
 simp only []
 split
 ·exact trivial
 ·rename_i k w h
  have h0:=aB h
  split
  ·exact bc (serve_low p {m with world:=w} _) h0
  ·split
   ·split
    ·exact h0
    ·split
     ·exact h0
     ·unfold endWith
      try simp only []
      repeat' first
       | exact trivial
       | split
   ·split
    ·exact bz (hp {m with world:=w}) h0
    ·split
     ·exact trivial
     ·rename_i w2 h2
      exact bz (hp {m with world:=w2}) (Nat.le_trans h0 (aB h2))
     ·rename_i w2 h2
      have h3:=aB h2
      exact Nat.le_trans h0 h3
     ·rename_i w2 h2
      have h3:=aB h2
      exact bz (hp (({m with world:=w2}:Machine).advanceTo _)) (Nat.le_trans h0 h3)
theorem ask_low (p:Program) (m:Machine):mlow m.world.drawn (ask p m):=by
 unfold ask
 split
 ·split
  ·exact trivial
  ·rename_i h
   have h0:=aB h
   have hl:=look_low p m.gs m.rest ‹World›
   split
   ·rename_i m2 e
    rw [e] at hl
    exact bz (cx p m2) (Nat.le_trans h0 hl)
   ·exact bc hl h0
  ·rename_i h
   exact bz (cx p _) (aB h)
 ·exact cx p m
theorem move_low (p:Program) (m:Machine):mlow m.world.drawn (move p m):=by
 unfold move
 repeat' first
  | exact trivial
  | exact Nat.le_refl _
  | exact ask_low p m
  | exact ask_low p {m with rest:={m.rest with slice:=none}}
  | split
theorem step_low (p:Program) (m:Machine):slow m.world.drawn (step p m):=by
 unfold step stepT
 have h:=move_low p m
 cases hm:move p m with
 | goroutine m2 i=>rw [hm] at h;exact bc (runT_low p m2 i true) h
 | machine s ops=>rw [hm] at h;exact h
theorem runN_low (p:Program) (n:Nat):∀m:Machine,slow m.world.drawn (runN p n m):=by
 induction n with
 | zero=>intro m;exact Nat.le_refl _
 | succ n ih =>
  intro m
  have h:=step_low p m
  unfold runN
  cases hs:step p m with
  | next m2=>rw [hs] at h;exact bc (ih m2) h
  | ended o w=>exact trivial
theorem steps_drawn {P:Program} {m m':Machine} (h:Steps P m m'):m.world.drawn≤m'.world.drawn:=by
 obtain ⟨n,hn⟩:=h
 have:=runN_low P n m
 rw [hn] at this
 exact this
theorem calls_drawn {P:Program} {f:FuncId} {args:Array Value} {w:World} {v:Value} {R:World→Prop} (h:Calls P f args w fun e w'=>e=.returned v∧R w') :
  Calls P f args w fun e w'=>e=.returned v∧R w'∧w.drawn≤w'.drawn:=by
 intro cs
 obtain ⟨e,w',fr,⟨rfl,hR⟩,hc,hf,hl⟩:=h cs
 exact ⟨_,w',fr,⟨rfl,hR,steps_drawn hc⟩,hc,hf,hl⟩
end Go.Proofs.YtabncjcfpkhhnaaGreatDoor
