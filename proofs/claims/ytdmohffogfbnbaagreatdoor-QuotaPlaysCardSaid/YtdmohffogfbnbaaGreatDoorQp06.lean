import Derived.Lib.Bytealg
import Derived.Test.YtdmohffogfbnbaaGreatDoorQp05
import Derived.Test.YtdmohffogfbnbaaGreatDoorQp04
import Derived.Shelf.SlSortCmp.NoneTotal
import Derived.Shelf.SortM.Plain
import Derived.Shelf.SortM.SortNone
import Derived.Test.YtdmohffogfbnbaaGreatDoorChecked
set_option maxRecDepth 100000
set_option maxHeartbeats 4000000
namespace Go.Proofs.YtdmohffogfbnbaaGreatDoor
open Go Go.RowKit Go.Maps
theorem cmpB_neg:∀(a b:List UInt8),Lib.compareBytes a b<0↔a<b
 | [],[]=>by simp [Lib.compareBytes]
 | [],_::_=>by simp [Lib.compareBytes]
 | _::_,[]=>by simp [Lib.compareBytes]
 | a::as_,b::bs_=>by
  have ih:=cmpB_neg as_ bs_
  rw [List.cons_lt_cons_iff]
  unfold Lib.compareBytes
  by_cases h1:a<b
  ·rw [if_pos h1];exact ⟨fun _=>Or.inl h1,fun _=>by omega⟩
  ·rw [if_neg h1]
   by_cases h2:b<a
   ·rw [if_pos h2]
    exact ⟨fun h=>by omega,fun h=>h.elim (fun h=>absurd h h1) (fun h=>absurd h2 (by rw [h.1];exact UInt8.lt_irrefl _))⟩
   ·rw [if_neg h2,ih]
    have he:a=b:=UInt8.le_antisymm (UInt8.not_lt.1 h2) (UInt8.not_lt.1 h1)
    exact ⟨fun h=>Or.inr ⟨he,h⟩,fun h=>h.elim (fun h=>absurd h h1) (·.2)⟩
def cfB (x y:ByteArray):Int:=Lib.compareBytes (bs x) (bs y)
theorem cstr_any (x y:ByteArray) (w:World):Calls Tryz.prog 107 #[.string x,.string y] w fun e w'=>e=.returned (.int .i64 (cfB x y))∧w'=w:=by
 go_enter Tryz.func107,Tryz.ntmps107
 go_wp2
 rw [run_callFunc_extern Tryz.func122 (by kernel_rfl) (by kernel_rfl) (by kernel_rfl) (e:=Extern.BytealgCompare.compare) (by kernel_rfl),Lib.run_compareString]
 simp only [Result.andThen]
 rw [Oper.upon_value]
 go_wp2
 go_ret
 exact ⟨rfl,rfl⟩
theorem compare_any (x y:ByteArray) (w:World):Calls Tryz.prog 78 #[.string x,.string y] w fun e w'=>e=.returned (.int .i64 (cfB x y))∧w'=w:=by
 go_enter Tryz.func78,Tryz.ntmps78
 go_wp2_with (go_at_call 107;refine (cstr_any x y _).mono ?_;rintro e w' ⟨he,hw⟩;subst he hw)
 go_ret
 exact ⟨rfl,rfl⟩
theorem Row.bel {w w':World} {g:Nat} {l:List Value} {t:TypeId} (hr:Row w g l t) (hb:Below w.heap.size w w'):Row w' g l t:=(hb.block g (Row.lt hr)).trans hr
theorem bG (w:World) :
  Calls Tryz.prog 28 #[] w fun e w'=>e=.returned (.agg (pvv []).toArray)∧Below w.heap.size w w':=by
 have hm:=Mem.start w
 go_enter Tryz.func28,Tryz.ntmps28
 go_wp2_with (first
  | ((with_reducible refine ab (some 0) (.alloc 63) ?_);refine ae _ aL hm ?_;clear hm;intro w1 g0 hm)
  | ((with_reducible refine ab (some 1) (.build 63 #[]) ?_);refine az (pvv []) [] rfl (by kernel_rfl) ?_)
  | ((with_reducible refine ab none (.store 63 (.tmp 0) (.tmp 1)) ?_);refine af 0 (pvv []) hm rfl rfl rfl 2 au rfl rfl (aI _) ?_;clear hm;intro w2 hm))
 refine ct 0 hm rfl Tryz.results28 rfl _ aH rfl 2 au rfl rfl ?_
 exact ⟨rfl,hm.below⟩
theorem Mem.grownB {w0 w w':World} {rows:List (Nat×List Value×TypeId)} {base:Nat} {e:TypeId} {K:Nat} {v:Value} {n:Nat} {cs:List Value} (hm:Mem w0 [] w rows) (hg:w.grownBy w' v.ownBlock) (ho:w.ownsRow base e K v n cs) (hlow:∀r∈rows,r.1<base) (hw:w0.heap.size≤base):Mem w0 [] w' rows:=by
 have hne:∀k,k<base→some k≠v.ownBlock:=fun k hk e=>by have:=(World.ownsRow.lt ho k e.symm).1;omega
 refine ⟨hg.os.trans hm.os,hg.tape.trans hm.tape,hg.output.trans hm.output,Nat.le_trans hm.size hg.size,fun k hk hn=>?_,fun r hr=>?_,hm.nodup,hm.fresh⟩
 ·exact (hg.block k (Nat.lt_of_lt_of_le hk hm.size) (hne k (by omega))).trans (hm.block k hk hn)
 ·have h1:=hm.row r hr
  exact (hg.block r.1 (Row.lt h1) (hne _ (hlow r hr))).trans h1
theorem cP (x:ByteArray):∀u∈[Value.string x],u.oneCell'=true:=by
 intro u hu
 rw [List.mem_singleton.1 hu];rfl
theorem join_dl {ks:List ByteArray} (h:PlOk ks):mkS (jn 47 ((plOf (ks.dropLast++[lastS ks])).map bs))=tx ks:=by
 by_cases h0:ks=[]
 ·subst h0
  rw [show ([]:List ByteArray).dropLast++[lastS []]=[noStr] from rfl,plOf_empty];rfl
 ·rw [dS h0,plOf_self h];rfl
theorem bY {ks:List ByteArray} (h:PlOk ks) (w:World) (hM:MaxL w) :
  Calls Tryz.prog 35 #[.agg (pvv ks).toArray] w fun e w'=>e=.returned (.string (tx ks))∧Below w.heap.size w w':=by
 have hm:=Mem.start w
 have HM:Hid (MaxL w):=hM
 obtain ⟨ds,hds⟩:∃x,x=ks.dropLast:=⟨_,rfl⟩
 obtain ⟨x,hx⟩:∃x,x=lastS ks:=⟨_,rfl⟩
 obtain ⟨n,hn⟩:∃n,n=ds.length:=⟨_,rfl⟩
 have hn3:n≤3:=by rw [hn,hds];exact h.drop.len
 have HC0:Hid ((pvv ks)[0]?=some (.string (tx ds))):=by rw [hds];rfl
 have HC1:Hid ((pvv ks)[1]?=some (.string x)):=by rw [hx];rfl
 have HSP:Hid (∀W,MaxL W→Calls Tryz.prog 57 #[.string (tx ds)] W fun e w'=>∃v,e=.returned v∧w'.ownsRow W.heap.size 9 1 v n (strs ds)∧Below W.heap.size W w'):=fun W hW=>by
  have h1:=el (tx ks.dropLast) W (by have:=aX h.drop;omega) hW
  rw [cF h.drop] at h1
  rw [hn,hds];exact h1
 have HJ:Hid (∀(W:World) (v:Value) (b:Nat),W.ownsRow b 9 1 v (n+1) (strs ds++[.string x])→Calls Tryz.prog 59 #[v] W fun e w'=>e=.returned (.string (tx ks))∧Below W.heap.size W w'):=fun W v b hv=>by
  have h1:=joinP_any (ks.dropLast++[lastS ks]) v W (by
   have h2:=ej hv
   rw [hn,hds,hx] at h2
   unfold SlS
   rw [show strs (ks.dropLast++[lastS ks])=strs ks.dropLast++[.string (lastS ks)] by unfold strs;rw [List.map_append];rfl,List.length_append]
   exact h2)
  rw [join_dl h] at h1
  exact h1
 clear h hM hds hx hn
 go_enter Tryz.func35,Tryz.ntmps35
 go_wp2_with (first
  | ((with_reducible refine ab (some 1) (.box 63 (.tmp 0)) ?_);refine aU (pvv ks) rfl hm ?_;clear hm;intro w1 g1 hm))
 have HROW:Hid (Row w1 g1 (pvv ks) 63):=hm.get 0 rfl
 have HB1:Hid (Below w.heap.size w w1):=hm.below
 have hz1:=hm.size
 replace HM:Hid (MaxL w1):=HM.out.below HB1.out
 clear hm
 have hm:=Mem.start w1
 refine am ?_
 refine ag (T:=fun W=>∃l,Mem w1 [] W l) (by kernel_rfl) hm ?_
 intro wc hbw hmw
 clear hm
 have hm:=hmw
 clear hbw hmw
 refine aT 0 (v:=.pointer (some ⟨g1,0,none⟩)) rfl (by kernel_rfl) rfl (fun W _=>by go_simp) ⟨_,hm⟩ ?_
 go_simp
 refine aT 1 (v:=.string (tx ds)) rfl (by kernel_rfl) rfl (fun W hW=>by obtain ⟨l,hW⟩:=hW;exact ad 0 (.string (tx ds)) (Row.bel HROW.out hW.below) rfl aj HC0.out) ⟨_,hm⟩ ?_
 go_simp
 refine aT 3 (v:=.pointer (some ⟨g1,1,none⟩)) rfl (by kernel_rfl) rfl (fun W _=>by go_simp) ⟨_,hm⟩ ?_
 go_simp
 refine aT 4 (v:=.string x) rfl (by kernel_rfl) rfl (fun W hW=>by obtain ⟨l,hW⟩:=hW;exact ad 1 (.string x) (Row.bel HROW.out hW.below) rfl aj HC1.out) ⟨_,hm⟩ ?_
 go_simp
 refine wpAnyH_all (rs:=[2,5]) (by kernel_rfl) (by simp) ?_
 intro i hi
 simp only [List.mem_cons,List.not_mem_nil,or_false] at hi
 rcases hi with rfl|rfl
 ·refine di 2 rfl rfl ?_
  intro Kc hK
  go_wp2_with (go_at_call 57;refine (HSP.out _ (HM.out.below hm.below)).mono ?_;rintro e w' ⟨v,he,ho,hb⟩;subst he;have HO:Hid (w'.ownsRow w1.heap.size 9 1 v n (strs ds)):=dZ hm.size ho;clear ho;replace hm:=hm.call hb;clear hb)
  refine hK _ _ ⟨_,hm⟩ ?_
  clear hK Kc
  go_simp
  refine aO 5 (by kernel_rfl) rfl rfl ?_
  intro K hK
  refine bK rfl (.string noStr) (.string x) aW bL rfl rfl rfl hm ?_
  clear hm
  intro w6 g8 hb6 hm
  replace HO:Hid (w6.ownsRow w1.heap.size 9 1 v n (strs ds)):=aq HO.out hb6
  clear hb6
  have HG8:Hid (Row w6 g8 [.string x] 9):=hm.get 0 rfl
  refine wpList_nil ?_
  refine hK _ _ ⟨_,hm⟩ ?_
  clear hK K
  go_simp
  refine aO 6 (by kernel_rfl) rfl rfl ?_
  intro K hK
  refine bg (.string noStr) 1 16 rfl aW bD rfl (by omega) (by omega) HO.out hm.size rfl rfl (Row.bel HG8.out (Below.refl _ _)) rfl (cP x) (by omega) ?_
  intro v9 w9 ho9 hg9 hl9
  replace hm:=(hm.sub (List.nil_sublist _)).grownB hg9 HO.out (by simp) (Nat.le_refl _)
  clear HO
  have HO:Hid (w9.ownsRow w1.heap.size 9 1 v9 (n+1) (strs ds++[.string x])):=ho9
  clear ho9 hg9 hl9
  refine wpList_nil ?_
  refine hK _ _ ⟨_,hm⟩ ?_
  clear hK K
  go_simp
  refine aO 7 (by kernel_rfl) rfl rfl ?_
  intro K hK
  go_wp2_with (go_at_call 59;refine (HJ.out _ _ _ HO.out).mono ?_;rintro e w' ⟨he,hb⟩;subst he;replace hm:=hm.call hb;clear hb)
  refine hK _ _ ⟨_,hm⟩ ?_
  clear hK K
  go_simp
  refine aT 8 (v:=.string (tx ks)) rfl (by kernel_rfl) rfl (fun W _=>by go_simp) ⟨_,hm⟩ ?_
  go_simp
  refine wpAnyH_done (by kernel_rfl) ?_ _
  simp only [endsIn]
  go_wp2_with fail
  go_ret
  exact ⟨rfl,HB1.out.trans (hm.below.mono hz1)⟩
 ·refine di 5 rfl rfl ?_
  intro Kc hK
  refine bK rfl (.string noStr) (.string x) aW bL rfl rfl rfl hm ?_
  clear hm
  intro w6 g8 hb6 hm
  clear hb6
  have HG8:Hid (Row w6 g8 [.string x] 9):=hm.get 0 rfl
  refine wpList_nil ?_
  refine hK _ _ ⟨_,hm⟩ ?_
  clear hK Kc
  go_simp
  refine aO 2 (by kernel_rfl) rfl rfl ?_
  intro K hK
  go_wp2_with (go_at_call 57;refine (HSP.out _ (HM.out.below hm.below)).mono ?_;rintro e w' ⟨v,he,ho,hb⟩;subst he;have HO:Hid (w'.ownsRow w1.heap.size 9 1 v n (strs ds)):=dZ hm.size ho;clear ho;replace HG8:Hid (Row w' g8 [.string x] 9):=Row.bel HG8.out hb;replace hm:=hm.call hb;clear hb)
  refine hK _ _ ⟨_,hm⟩ ?_
  clear hK K
  go_simp
  refine aO 6 (by kernel_rfl) rfl rfl ?_
  intro K hK
  refine bg (.string noStr) 1 16 rfl aW bD rfl (by omega) (by omega) HO.out hm.size rfl rfl HG8.out rfl (cP x) (by omega) ?_
  intro v9 w9 ho9 hg9 hl9
  replace hm:=(hm.sub (List.nil_sublist _)).grownB hg9 HO.out (by simp) (Nat.le_refl _)
  clear HO
  have HO:Hid (w9.ownsRow w1.heap.size 9 1 v9 (n+1) (strs ds++[.string x])):=ho9
  clear ho9 hg9 hl9
  refine wpList_nil ?_
  refine hK _ _ ⟨_,hm⟩ ?_
  clear hK K
  go_simp
  refine aO 7 (by kernel_rfl) rfl rfl ?_
  intro K hK
  go_wp2_with (go_at_call 59;refine (HJ.out _ _ _ HO.out).mono ?_;rintro e w' ⟨he,hb⟩;subst he;replace hm:=hm.call hb;clear hb)
  refine hK _ _ ⟨_,hm⟩ ?_
  clear hK K
  go_simp
  refine aT 8 (v:=.string (tx ks)) rfl (by kernel_rfl) rfl (fun W _=>by go_simp) ⟨_,hm⟩ ?_
  go_simp
  refine wpAnyH_done (by kernel_rfl) ?_ _
  simp only [endsIn]
  go_wp2_with fail
  go_ret
  exact ⟨rfl,HB1.out.trans (hm.below.mono hz1)⟩
open Go Go.RowKit Go.Maps
section
variable {P:Program} {a:Act} {w:World} {dst:Option Tmp} {typ:TypeId} {pos:String} {aft:Array Edge} {gd:Option (Nat×Bool)}
theorem cL {t:TypeId} {xs:Array (Nat×Operand)} (l:List Value) (vs:List (Nat×Value)) (hv:(xs.map fun q=>(q.1,a.eval q.2)).toList=vs) (hb:P.built t vs=some l.toArray) :
  (execOp a.eval {dst:=dst,op:=.build t xs,type:=typ,pos:=pos,after:=aft,guard:=gd}).run P w=.ok (.value (.agg l.toArray)) w:=by
 have e:(xs.map fun (i,x)=>(i,a.eval x)).toList=vs:=hv
 unfold execOp
 simp only [Sem.run_bind,run_build w t _ l.toArray (by rw [e];exact hb),Result.andThen_ok,Sem.run_pure]
end
theorem built_np (s u:ByteArray):Tryz.prog.built 63 [(0,.string s),(1,.string u)]=some [Value.string s,.string u].toArray:=by kernel_rfl
theorem two_one (x y:ByteArray):∀v∈[Value.string x,.string y],v.oneCell'=true:=by intro v hv;simp at hv;rcases hv with rfl|rfl<;>rfl
section
variable {a:Act} {w:World} {dst:Option Tmp} {typ:TypeId} {pos:String} {aft:Array Edge} {gd:Option (Nat×Bool)}
theorem exec_ixS1 {x ix:Operand} {b n cap:Nat} (i:Nat) {ii:Int} (hx:a.eval x=.slice (some ⟨b,0,none⟩) n cap) (hix:a.eval ix=.int .i64 ii) (hii:ii=(i:Int)) (hi:i<n) :
  (execOp a.eval {dst:=dst,op:=.indexAddr 37 x ix,type:=typ,pos:=pos,after:=aft,guard:=gd}).run Tryz.prog w=.ok (.value (.pointer (some ⟨b,i,none⟩))) w:=by
 subst hii
 have h0:(0:Int)≤(i:Int)∧(i:Int)<(n:Int):=by omega
 unfold execOp
 simp [hx,hix,Instr.indexAt,asIntOf,run_underlying aW,h0,bn]
 omega
end
theorem split_cells (s:ByteArray) (w:World) (hs:s.size≤1000) (hM:MaxL w) (ks:List ByteArray) (hk:ks=segsB s) (n:Nat) (hn:n=ks.length) (h0:0<n) :
  Calls Tryz.prog 57 #[.string s] w fun e w'=>∃b cap,e=.returned (.slice (some ⟨b,0,none⟩) n cap)∧n≤cap∧w.heap.size≤b∧b<w'.heap.size∧(∀k,k<n→w'.cell? ⟨b,k,none⟩=some (.string (ks.getD k noStr)))∧Below w.heap.size w w':=by
 refine (el s w hs hM).mono ?_
 rintro e w' ⟨v,rfl,ho,hb⟩
 have hl:=World.ownsRow.lt ho
 have hc:=@World.ownsRow.cells _ _ _ _ _ _ _ ho
 rw [←hk,←hn] at ho
 obtain ⟨h1,h2⟩:=ho
 rcases h2 with ⟨_,h3⟩|⟨g,cap,cur,hv,hbg,hcur,hcap,h4⟩
 ·omega
 ·subst hv
  have h5:=hl g rfl
  refine ⟨g,cap,rfl,hcap,h5.1,h5.2,fun k hk2=>?_,hb⟩
  have h6:=hc (g:=g) rfl k (.string (ks.getD k noStr)) (by
   rw [←hk]
   unfold strs
   rw [List.getElem?_map,List.getElem?_eq_getElem (by omega)]
   simp [show k<ks.length by omega])
  have hadd:(⟨g,0,none⟩:Addr).add k=⟨g,k,none⟩:=by unfold Addr.add;split<;>simp_all
  rwa [hadd] at h6
theorem sls_cells {w:World} {b m n cap:Nat} {ks:List ByteArray} (hm:m≤n) (hn:n=ks.length) (hcap:n≤cap) (hc:∀k,k<n→w.cell? ⟨b,k,none⟩=some (.string (ks.getD k noStr))):SlS w (.slice (some ⟨b,0,none⟩) m cap) (ks.take m):=by
 have hl:(ks.take m).length=m:=by rw [List.length_take];omega
 refine ⟨some ⟨b,0,none⟩,cap,by rw [hl],by rw [hl];omega,by simp [strs],fun h0=>⟨b,0,rfl,fun j u hu=>?_⟩⟩
 have hjm:j<m:=by
  rcases Nat.lt_or_ge j m with h'|h'
  ·exact h'
  ·rw [List.getElem?_eq_none (by simp [strs];omega)] at hu;cases hu
 rw [Nat.zero_add,hc j (by omega),←hu]
 unfold strs
 rw [List.getElem?_map,List.getElem?_take,if_pos hjm,List.getElem?_eq_getElem (by omega)]
 simp [show j<ks.length by omega]
theorem du (s:ByteArray) (w:World) (hs:s.size≤1000) (hM:MaxL w) :
  Calls Tryz.prog 34 #[.string s] w fun e w'=>e=.returned (.tuple #[.agg (pvv (segsB s)).toArray,.bool (isP (bs s))])∧Below w.heap.size w w':=by
 have hm:=Mem.start w
 have HM:Hid (MaxL w):=hM
 obtain ⟨ks,hks⟩:∃ks,ks=segsB s:=⟨_,rfl⟩
 obtain ⟨r,hr⟩:∃r,r=isP (bs s):=⟨_,rfl⟩
 obtain ⟨n,hn⟩:∃n,n=ks.length:=⟨_,rfl⟩
 have hok:PlOk ks:=by rw [hks];exact aR s
 have HK:Hid (∀_:Unit,PlOk ks):=fun _=>hok
 have hn3:n≤3:=by rw [hn];exact hok.len
 have HI:Hid (∀W,MaxL W→Calls Tryz.prog 58 #[.string s] W fun e w'=>e=.returned (.bool r)∧Below W.heap.size W w'):=fun W hW=>by rw [hr];exact is_any s W hs hW
 rw [←hks,←hr]
 by_cases h0:n=0
 ·have hks0:ks=[]:=List.length_eq_zero_iff.1 (by omega)
  have HSP:Hid (∀W,MaxL W→Calls Tryz.prog 57 #[.string s] W fun e w'=>∃p cap,e=.returned (.slice p 0 cap)∧Below W.heap.size W w'):=fun W hW=>by
   refine (el s W hs hW).mono ?_
   rintro e w' ⟨v,rfl,ho,hb⟩
   obtain ⟨p,cap,hv,_⟩:=SlV.len (ej ho)
   subst hv
   rw [←hks,hks0]
   exact ⟨p,cap,rfl,hb⟩
  subst hks0
  clear hM hs hr hks hok hn h0 hn3
  go_enter Tryz.func34,Tryz.ntmps34
  go_wp2_with (first
   | ((with_reducible refine ab (some 2) (.alloc 63) ?_);refine ae _ aL hm ?_;clear hm;intro w1 g2 hm)
   | (go_at_call 57;refine (HSP.out _ (HM.out.below hm.below)).mono ?_;rintro e w' ⟨p9,cap9,he,hb⟩;subst he;replace hm:=hm.call hb;clear hb)
   | (go_at_call 28;refine (bG _).mono ?_;rintro e w' ⟨he,hb⟩;subst he;replace hm:=hm.call hb;clear hb)
   | (go_at_call 58;refine (HI.out _ (HM.out.below hm.below)).mono ?_;rintro e w' ⟨he,hb⟩;subst he;replace hm:=hm.call hb;clear hb)
   | ((with_reducible refine ab none (.store 63 (.tmp 2) (.tmp 11)) ?_);refine af 0 (pvv []) hm rfl rfl rfl 2 au rfl rfl (aI _) ?_;clear hm;intro w6 hm))
  refine ce 0 (.bool r) hm rfl Tryz.results34 rfl rfl _ aH rfl 2 au rfl rfl ?_
  exact ⟨rfl,hm.below⟩
 ·obtain ⟨m,hm1⟩:∃m,n=m+1:=⟨n - 1,by omega⟩
  have hne:ks≠[]:=fun h=>h0 (by rw [hn,h];rfl)
  have hrt:r=true:=by
   rw [hr]
   cases hi:isP (bs s) with
   | true=>rfl
   | false =>
    have h1:=dm hi
    exact absurd (by rw [hks];unfold segsB;rw [h1];rfl) hne
  subst hrt
  have HSP:Hid (∀W,MaxL W→Calls Tryz.prog 57 #[.string s] W fun e w'=>∃b cap,e=.returned (.slice (some ⟨b,0,none⟩) n cap)∧n≤cap∧W.heap.size≤b∧b<w'.heap.size∧(∀k,k<n→w'.cell? ⟨b,k,none⟩=some (.string (ks.getD k noStr)))∧Below W.heap.size W w'):=fun W hW=>split_cells s W hs hW ks hks n hn (by omega)
  obtain ⟨x,hx⟩:∃x,x=lastS ks:=⟨_,rfl⟩
  obtain ⟨y,hy⟩:∃y,y=tx ks.dropLast:=⟨_,rfl⟩
  have hxm:ks.getD m noStr=x:=by
   rw [hx];unfold lastS
   rw [List.getLast?_eq_getElem?,List.getD_eq_getElem?_getD,show ks.length - 1=m by omega]
  have HPV:Hid (∀_:Unit,pvv ks=[.string y,.string x]):=fun _=>by rw [hx,hy];rfl
  have HJ:Hid (∀(W:World) (b cap:Nat),n≤cap→(∀k,k<n→W.cell? ⟨b,k,none⟩=some (.string (ks.getD k noStr)))→Calls Tryz.prog 59 #[.slice (some ⟨b,0,none⟩) m cap] W fun e w'=>e=.returned (.string y)∧Below W.heap.size W w'):=fun W b cap h1 h2=>by
   have h3:=joinP_any (ks.take m) (.slice (some ⟨b,0,none⟩) m cap) W (sls_cells (n:=n) (by omega) hn h1 h2)
   have h4:ks.take m=ks.dropLast:=by rw [List.dropLast_eq_take,←hn,hm1,Nat.add_sub_cancel]
   rw [h4,plOf_self hok.drop] at h3
   rw [hy];exact h3
  have HXM:Hid (∀_:Unit,ks.getD m noStr=x):=fun _=>hxm
  have hmn:m<n:=by omega
  have h0i:((n:Int)==0)=false:=by rw [beq_eq_false_iff_ne];omega
  have hwr:IntKind.i64.wrap ((n:Int) - 1)=(m:Int):=(bO _ (by omega) (by omega)).trans (by omega)
  have hm0:(0:Int)≤(m:Int):=by omega
  have hmi:(m:Int)<(n:Int):=by omega
  clear hM hs hr hks hok hn h0 hn3 hne hx hy hxm hm1 HI
  go_enter Tryz.func34,Tryz.ntmps34
  go_wp2_with (first
   | ((with_reducible refine ab (some 2) (.alloc 63) ?_);refine ae _ aL hm ?_;clear hm;intro w1 g2 hm)
   | (go_at_call 57;refine (HSP.out _ (HM.out.below hm.below)).mono ?_;rintro e w3 ⟨b,cap,he,hcap,hb1,hb2,hc,hb⟩;subst he;have hgs:=Row.lt (hm.get 0 rfl);have hzs:=hm.size;replace hm:=hm.call hb;clear hb))
  have HB3:Hid (Below w.heap.size w w3):=hm.below
  have HC:Hid (∀k,k<n→w3.cell? ⟨b,k,none⟩=some (.string (ks.getD k noStr))):=hc
  have hg2:w.heap.size≤g2:=(hm.fresh (g2,pvv [],63) (by simp)).resolve_left (by simp)
  have hw3:=hm.size
  have hbg:b≠g2:=by omega
  clear hc
  replace hm:=Mem.enter (hm.get 0 rfl)
  refine am ?_
  refine ag (T:=fun W=>∃l,Mem w3 [g2] W [(g2,l,63)]) (by kernel_rfl) hm ?_
  intro wc hbw hmw
  clear hm
  have hm:=hmw
  clear hbw hmw
  refine aT 0 (v:=.slice (some ⟨b,0,none⟩) n cap) rfl (by kernel_rfl) rfl (fun W _=>by go_simp) ⟨_,hm⟩ ?_
  go_simp
  refine aT 1 (v:=.int .i64 (m:Int)) rfl (by kernel_rfl) rfl (fun W _=>by go_simp) ⟨_,hm⟩ ?_
  go_simp
  refine aT 2 (v:=.slice (some ⟨b,0,none⟩) m cap) rfl (by kernel_rfl) rfl (fun W _=>exec_hiB m (by omega) rfl rfl rfl) ⟨_,hm⟩ ?_
  go_simp
  refine aT 4 (v:=.slice (some ⟨b,0,none⟩) n cap) rfl (by kernel_rfl) rfl (fun W _=>by go_simp) ⟨_,hm⟩ ?_
  go_simp
  refine aT 5 (v:=.int .i64 (m:Int)) rfl (by kernel_rfl) rfl (fun W _=>by go_simp) ⟨_,hm⟩ ?_
  go_simp
  refine aT 6 (v:=.pointer (some ⟨b,m,none⟩)) rfl (by kernel_rfl) rfl (fun W _=>exec_ixS1 m rfl rfl rfl hmn) ⟨_,hm⟩ ?_
  go_simp
  refine aT 7 (v:=.string x) rfl (by kernel_rfl) rfl (fun W hW=>by obtain ⟨l,hW⟩:=hW;exact ar (.string x) ((hW.old (p:=⟨b,m,none⟩) hb2 (by simpa using hbg)).trans ((HC.out m hmn).trans (by rw [HXM.out ()]))) rfl aj) ⟨_,hm⟩ ?_
  go_simp
  refine aO 3 (by kernel_rfl) rfl rfl ?_
  intro K hK
  go_wp2_with (go_at_call 59;refine (HJ.out _ b cap hcap (fun k hk=>(hm.old (p:=⟨b,k,none⟩) hb2 (by simpa using hbg)).trans (HC.out k hk))).mono ?_;rintro e w' ⟨he,hb⟩;subst he;replace hm:=hm.call hb;clear hb)
  refine hK _ _ ⟨_,hm⟩ ?_
  clear hK K
  go_simp
  refine aT 8 (v:=.agg [Value.string y,.string x].toArray) rfl (by kernel_rfl) rfl (fun W _=>cL _ [(0,.string y),(1,.string x)] (by go_simp) (built_np y x)) ⟨_,hm⟩ ?_
  go_simp
  refine aO 9 (by kernel_rfl) rfl rfl ?_
  intro K hK
  refine af 0 [Value.string y,.string x] hm rfl rfl rfl 2 au rfl rfl (two_one y x) ?_
  clear hm
  intro w9 hm
  refine wpList_nil ?_
  refine hK _ _ ⟨_,hm⟩ ?_
  clear hK K
  go_simp
  refine aT 10 (v:=.bool true) rfl (by kernel_rfl) rfl (fun W _=>by go_simp) ⟨_,hm⟩ ?_
  go_simp
  refine wpAnyH_done (by kernel_rfl) ?_ _
  simp only [endsIn]
  go_wp2_with fail
  refine ce 0 (.bool true) hm rfl Tryz.results34 rfl rfl _ aH rfl 2 au rfl rfl ?_
  exact ⟨by rw [HPV.out ()],be HB3.out hm.toUpd hg2 hw3⟩
theorem eP {ks:List ByteArray} (h:PlOk ks) (w:World) (hM:MaxL w) :
  Calls Tryz.prog 37 #[.agg (pvv ks).toArray] w fun e w'=>e=.returned (.agg (pvv ks.dropLast).toArray)∧Below w.heap.size w w':=by
 have hm:=Mem.start w
 have HM:Hid (MaxL w):=hM
 obtain ⟨y,hy⟩:∃y,y=tx ks.dropLast:=⟨_,rfl⟩
 have HC0:Hid ((pvv ks)[0]?=some (.string y)):=by rw [hy];rfl
 have HP:Hid (∀W,MaxL W→Calls Tryz.prog 34 #[.string y] W fun e w'=>e=.returned (.tuple #[.agg (pvv ks.dropLast).toArray,.bool true])∧Below W.heap.size W w'):=fun W hW=>by
  have h1:=du (tx ks.dropLast) W (by have:=aX h.drop;omega) hW
  rw [cF h.drop,dH h.drop] at h1
  rw [hy];exact h1
 clear h hM hy
 go_enter Tryz.func37,Tryz.ntmps37
 go_wp2_with (first
  | ((with_reducible refine ab (some 1) (.box 63 (.tmp 0)) ?_);refine aU (pvv ks) rfl hm ?_;clear hm;intro w1 g1 hm)
  | ((with_reducible refine ab (some 2) (.alloc 63) ?_);refine ae _ aL hm ?_;clear hm;intro w2 g2 hm)
  | ((with_reducible refine ab (some 7) (.load 9 (.tmp 6)) ?_);refine aw 1 0 (.string y) hm rfl rfl aj (HC0.out) ?_)
  | (go_at_call 34;refine (HP.out _ (HM.out.below hm.below)).mono ?_;rintro e w' ⟨he,hb⟩;subst he;replace hm:=hm.call hb;clear hb)
  | ((with_reducible refine ab (some 3) (.alloc 63) ?_);refine ae _ aL hm ?_;clear hm;intro w3 g3 hm)
  | ((with_reducible refine ab none (.store 63 (.tmp 3) (.tmp 9)) ?_);refine af 0 (pvv ks.dropLast) hm rfl rfl rfl 2 au rfl rfl (aI _) ?_;clear hm;intro w4 hm)
  | ((with_reducible refine ab (some 11) (.load 63 (.tmp 3)) ?_);refine av 0 hm rfl rfl _ aH rfl 2 au (by rfl) ?_)
  | ((with_reducible refine ab none (.store 63 (.tmp 2) (.tmp 11)) ?_);refine af 1 (pvv ks.dropLast) hm rfl rfl rfl 2 au rfl rfl (aI _) ?_;clear hm;intro w5 hm))
 refine ct 1 hm rfl Tryz.results37 rfl _ aH rfl 2 au rfl rfl ?_
 exact ⟨rfl,hm.below⟩
theorem isUnder_n {ks qs:List ByteArray} (h:PlOk ks) (h2:PlOk qs) (w:World) (hM:MaxL w) :
  Calls Tryz.prog 62 #[.agg (pvv ks).toArray,.agg (pvv qs).toArray] w fun e w'=>e=.returned (.bool (undB ks qs))∧Below w.heap.size w w':=by
 have hm:=Mem.start w
 have HM:Hid (MaxL w):=hM
 have HK:Hid (∀_:Unit,PlOk ks):=fun _=>h
 have HQ:Hid (∀_:Unit,PlOk qs):=fun _=>h2
 obtain ⟨r,hr⟩:∃r,r=undB ks qs:=⟨_,rfl⟩
 have HU:Hid (∀W,MaxL W→Calls Tryz.prog 56 #[.string (tx ks),.string (tx qs)] W fun e w'=>e=.returned (.bool r)∧Below W.heap.size W w'):=fun W hW=>by
  have h3:=ek (tx ks) (tx qs) W (by have:=aX h;omega) (by have:=aX h2;omega) hW
  rw [dg h h2] at h3
  rw [hr];exact h3
 rw [←hr]
 clear h h2 hM hr
 go_enter Tryz.func62,Tryz.ntmps62
 go_wp2_with (first
  | ((with_reducible refine ab (some 2) (.box 63 (.tmp 0)) ?_);refine aU (pvv ks) rfl hm ?_;clear hm;intro w1 g2 hm)
  | ((with_reducible refine ab (some 3) (.box 63 (.tmp 1)) ?_);refine aU (pvv qs) rfl hm ?_;clear hm;intro w2 g3 hm))
 refine am ?_
 refine ag (T:=fun W=>Mem w [] W [(g3,pvv qs,63),(g2,pvv ks,63)]) (by kernel_rfl) hm ?_
 intro wc hbw hmw
 clear hm
 have hm:=hmw
 clear hbw hmw
 refine aT 0 (v:=.agg (pvv ks).toArray) rfl (by kernel_rfl) rfl (fun W hW=>al 0 (pvv ks) (Mem.get hW 1 rfl) rfl _ aH rfl 2 au (Nat.le_refl 2) rfl) hm ?_
 go_simp
 refine aT 2 (v:=.agg (pvv qs).toArray) rfl (by kernel_rfl) rfl (fun W hW=>al 0 (pvv qs) (Mem.get hW 0 rfl) rfl _ aH rfl 2 au (Nat.le_refl 2) rfl) hm ?_
 go_simp
 refine aO 1 (by kernel_rfl) rfl rfl ?_
 intro K hK
 go_wp2_with (go_at_call 35;refine (bY (HK.out ()) _ (HM.out.below hm.below)).mono ?_;rintro e w' ⟨he,hb⟩;subst he;replace hm:=hm.call hb;clear hb)
 refine hK _ _ hm ?_
 clear hK K
 go_simp
 refine aO 3 (by kernel_rfl) rfl rfl ?_
 intro K hK
 go_wp2_with (go_at_call 35;refine (bY (HQ.out ()) _ (HM.out.below hm.below)).mono ?_;rintro e w' ⟨he,hb⟩;subst he;replace hm:=hm.call hb;clear hb)
 refine hK _ _ hm ?_
 clear hK K
 go_simp
 refine aO 4 (by kernel_rfl) rfl rfl ?_
 intro K hK
 go_wp2_with (go_at_call 56;refine (HU.out _ (HM.out.below hm.below)).mono ?_;rintro e w' ⟨he,hb⟩;subst he;replace hm:=hm.call hb;clear hb)
 refine hK _ _ hm ?_
 clear hK K
 go_simp
 refine aT 5 (v:=.bool r) rfl (by kernel_rfl) rfl (fun W _=>by go_simp) hm ?_
 go_simp
 refine wpAnyH_done (by kernel_rfl) ?_ _
 simp only [endsIn]
 go_wp2_with fail
 go_ret
 exact ⟨rfl,hm.below⟩
def cfN (ks qs:List ByteArray):Int:=cfB (mkS (cd ks)) (mkS (cd qs))
theorem byCode_n {ks qs:List ByteArray} (h:PlOk ks) (h2:PlOk qs) (w:World) (hM:MaxL w) :
  Calls Tryz.prog 64 #[.agg (pvv ks).toArray,.agg (pvv qs).toArray] w fun e w'=>e=.returned (.int .i64 (cfN ks qs))∧Below w.heap.size w w':=by
 have hm:=Mem.start w
 have HM:Hid (MaxL w):=hM
 have HK:Hid (∀_:Unit,PlOk ks):=fun _=>h
 have HQ:Hid (∀_:Unit,PlOk qs):=fun _=>h2
 obtain ⟨r,hr⟩:∃r,r=cfN ks qs:=⟨_,rfl⟩
 have HCK:Hid (∀W,MaxL W→Calls Tryz.prog 79 #[.string (tx ks)] W fun e w'=>e=.returned (.string (mkS (cd ks)))∧Below W.heap.size W w'):=fun W hW=>by
  have h3:=code_any (tx ks) W (by have:=aX h;omega) hW
  rw [eK h] at h3
  exact h3
 have HCQ:Hid (∀W,MaxL W→Calls Tryz.prog 79 #[.string (tx qs)] W fun e w'=>e=.returned (.string (mkS (cd qs)))∧Below W.heap.size W w'):=fun W hW=>by
  have h3:=code_any (tx qs) W (by have:=aX h2;omega) hW
  rw [eK h2] at h3
  exact h3
 have HCM:Hid (∀W,Calls Tryz.prog 78 #[.string (mkS (cd ks)),.string (mkS (cd qs))] W fun e w'=>e=.returned (.int .i64 r)∧w'=W):=fun W=>by
  rw [hr];exact compare_any _ _ W
 rw [←hr]
 clear h h2 hM hr
 go_enter Tryz.func64,Tryz.ntmps64
 go_wp2_with (first
  | ((with_reducible refine ab (some 2) (.box 63 (.tmp 0)) ?_);refine aU (pvv ks) rfl hm ?_;clear hm;intro w1 g2 hm)
  | ((with_reducible refine ab (some 3) (.box 63 (.tmp 1)) ?_);refine aU (pvv qs) rfl hm ?_;clear hm;intro w2 g3 hm))
 refine am ?_
 refine ag (T:=fun W=>Mem w [] W [(g3,pvv qs,63),(g2,pvv ks,63)]) (by kernel_rfl) hm ?_
 intro wc hbw hmw
 clear hm
 have hm:=hmw
 clear hbw hmw
 refine aT 0 (v:=.agg (pvv ks).toArray) rfl (by kernel_rfl) rfl (fun W hW=>al 0 (pvv ks) (Mem.get hW 1 rfl) rfl _ aH rfl 2 au (Nat.le_refl 2) rfl) hm ?_
 go_simp
 refine aT 3 (v:=.agg (pvv qs).toArray) rfl (by kernel_rfl) rfl (fun W hW=>al 0 (pvv qs) (Mem.get hW 0 rfl) rfl _ aH rfl 2 au (Nat.le_refl 2) rfl) hm ?_
 go_simp
 refine aO 1 (by kernel_rfl) rfl rfl ?_
 intro K hK
 go_wp2_with (go_at_call 35;refine (bY (HK.out ()) _ (HM.out.below hm.below)).mono ?_;rintro e w' ⟨he,hb⟩;subst he;replace hm:=hm.call hb;clear hb)
 refine hK _ _ hm ?_
 clear hK K
 go_simp
 refine aO 2 (by kernel_rfl) rfl rfl ?_
 intro K hK
 go_wp2_with (go_at_call 79;refine (HCK.out _ (HM.out.below hm.below)).mono ?_;rintro e w' ⟨he,hb⟩;subst he;replace hm:=hm.call hb;clear hb)
 refine hK _ _ hm ?_
 clear hK K
 go_simp
 refine aO 4 (by kernel_rfl) rfl rfl ?_
 intro K hK
 go_wp2_with (go_at_call 35;refine (bY (HQ.out ()) _ (HM.out.below hm.below)).mono ?_;rintro e w' ⟨he,hb⟩;subst he;replace hm:=hm.call hb;clear hb)
 refine hK _ _ hm ?_
 clear hK K
 go_simp
 refine aO 5 (by kernel_rfl) rfl rfl ?_
 intro K hK
 go_wp2_with (go_at_call 79;refine (HCQ.out _ (HM.out.below hm.below)).mono ?_;rintro e w' ⟨he,hb⟩;subst he;replace hm:=hm.call hb;clear hb)
 refine hK _ _ hm ?_
 clear hK K
 go_simp
 refine aO 6 (by kernel_rfl) rfl rfl ?_
 intro K hK
 go_wp2_with (go_at_call 78;refine (HCM.out _).mono ?_;rintro e w' ⟨he,hw⟩;subst he hw)
 refine hK _ _ hm ?_
 clear hK K
 go_simp
 refine aT 7 (v:=.int .i64 r) rfl (by kernel_rfl) rfl (fun W _=>by go_simp) hm ?_
 go_simp
 refine wpAnyH_done (by kernel_rfl) ?_ _
 simp only [endsIn]
 go_wp2_with fail
 go_ret
 exact ⟨rfl,hm.below⟩
open Go Go.RowKit Go.Maps
section
variable {P:Program} {kT:TypeId} {w w':World} {m q:Nat} {p:Value→Value→Prop}
theorem KM.look1No (h:KM P kT w m q p) (K:Keyed P kT) {t e:TypeId} (ht:P.underlying t=some (.map kT e)) {z:Value} (hz:(zeroValue e).run P w=.ok z w) {key:Value} {kl:Lit} (hk:keyOf P kT key=some kl) (hp:∀v,¬p key v) :
  (Instr.lookup t (.map (some m)) key false).run P w=.ok z w:=by
 obtain ⟨D,ho,h1,h2⟩:=h
 obtain ⟨u,ps,hr,hv⟩:=ho.lookup K ht hz (show rdV z=some (.held z,[]) from rfl) hk
 have e1:=eF hv
 have hn:Maps.has D kl=false:=by
  cases hh:Maps.has D kl with
  | false=>rfl
  | true=>obtain ⟨v,hv⟩:=(h1 key kl hk).1 hh;exact absurd hv (hp v)
 rw [atKey_of_not_has hn] at e1
 simp only [DataW.held.injEq] at e1
 rw [hr,←e1]
end
theorem ah:∀w,(isAgg 3).run Tryz.prog w=.ok false w:=by intro w;simp [go_sem]
theorem df:(Tryz.prog.info? 3).map (·.size)=some 1:=by kernel_rfl
def lookV (p:Nms) (ks:List ByteArray):List Value:=match getN p ks with|some x=>spv x|none=>spZ
theorem lookV5 (p:Nms) (ks:List ByteArray):(lookV p ks).length=5:=by unfold lookV;split<;>rfl
theorem bS (x:Sp):∀v∈spv x,v.oneCell'=true:=by intro v hv;simp [spv] at hv;rcases hv with rfl|rfl|rfl|rfl|rfl<;>rfl
theorem spw_one (x:Sp):∀v∈spw x,v.oneCell'=true:=by
 intro v hv
 rcases List.mem_append.1 hv with h|h
 ·exact bS x v h
 ·simp at h;rcases h with rfl|rfl<;>rfl
def lookW (p:Nms) (ks:List ByteArray):List Value:=match getN p ks with|some x=>spw x|none=>swZ
theorem lookW7 (p:Nms) (ks:List ByteArray):(lookW p ks).length=7:=by unfold lookW;split<;>rfl
theorem dK {p:Nms} {ks:List ByteArray} {x:Sp} (h:getN p ks=some x):lookW p ks=spw x:=by unfold lookW;rw [h]
theorem e7 {p:Nms} {ks:List ByteArray} (h:getN p ks=none):lookW p ks=swZ:=by unfold lookW;rw [h]
theorem lookW_one (p:Nms) (ks:List ByteArray):∀v∈lookW p ks,v.oneCell'=true:=by
 unfold lookW
 split
 ·exact spw_one _
 ·intro v hv
  simp [swZ,spZ] at hv
  rcases hv with rfl|rfl<;>rfl
theorem look_part (p:Nms) (ks:List ByteArray):∃a b,lookW p ks=lookV p ks++[.int .i64 a,.int .i64 b]:=by
 unfold lookW lookV
 split
 ·exact ⟨_,_,rfl⟩
 ·exact ⟨0,0,rfl⟩
theorem lookV_one (p:Nms) (ks:List ByteArray):∀v∈lookV p ks,v.oneCell'=true:=by
 unfold lookV
 split
 ·exact bS _
 ·exact bl [] 0 0
theorem lookV_some {p:Nms} {ks:List ByteArray} {x:Sp} (h:getN p ks=some x):lookV p ks=spv x:=by unfold lookV;rw [h]
theorem NmOk.get {p:Nms} (h:NmOk p) {x:Sp} (hx:x∈p):getN p x.1=some x:=by
 cases hg:getN p x.1 with
 | none=>have:=aE.2 ⟨x,hx,rfl⟩;rw [getN_none hg] at this;cases this
 | some y=>rw [h.uniq (bp hg).1 hx (bp hg).2]
structure NmAt (w:World) (nb m c:Nat) (p:Nms):Prop where
 row:Row w nb [.map (some m)] 69
 map:∃q,q≤c∧KM Tryz.prog 63 w m q (NmK p)
 ok:NmOk p
theorem NmAt.below {w w':World} {nb m c:Nat} {p:Nms} (h:NmAt w nb m c p) (hb:Below w.heap.size w w'):NmAt w' nb m c p:=by
 obtain ⟨q,hq,hk⟩:=h.map
 exact ⟨Row.bel h.row hb,⟨q,hq,hk.below hb⟩,h.ok⟩
theorem NmAt.mono {w:World} {nb m c c':Nat} {p:Nms} (h:NmAt w nb m c p) (hc:c≤c'):NmAt w nb m c' p:=by
 obtain ⟨q,hq,hk⟩:=h.map
 exact ⟨h.row,⟨q,by omega,hk⟩,h.ok⟩
theorem NmAt.isMap {w:World} {nb m c:Nat} {p:Nms} (h:NmAt w nb m c p):∃es n,w.heap[m]?=some (.map es n):=by
 obtain ⟨q,_,hk⟩:=h.map
 exact hk.isMap
theorem NmAt.lt {w:World} {nb m c:Nat} {p:Nms} (h:NmAt w nb m c p):m<w.heap.size:=by
 obtain ⟨q,_,hk⟩:=h.map
 exact hk.lt
theorem nmK_val {p:Nms} {ks:List ByteArray} (hp:NmOk p) (hk:PlOk ks) {v:Value} (h:NmK p (.agg (pvv ks).toArray) v):∃x,getN p ks=some x∧v=.agg (spw x).toArray:=by
 obtain ⟨x,hx,he,rfl⟩:=h
 obtain rfl:=cB hk (hp.ok x hx) he
 exact ⟨x,hp.get hx,rfl⟩
theorem dV (w:World):(zeroValue 66).run Tryz.prog w=.ok (.agg swZ.toArray) w:=bu w
theorem NmAt.look {w:World} {nb m c:Nat} {p:Nms} (h:NmAt w nb m c p) {ks:List ByteArray} (hk:PlOk ks) (V:List Value) (b:Bool) (hV:V=lookW p ks) (hb:b=hasN p ks) :
  (Instr.lookup 67 (.map (some m)) (.agg (pvv ks).toArray) true).run Tryz.prog w=.ok (.tuple #[.agg V.toArray,.bool b]) w:=by
 obtain ⟨q,_,km⟩:=h.map
 obtain ⟨kl,hkl⟩:=dF hk
 subst hV hb
 rw [getN_has]
 cases hl:getN p ks with
 | none =>
  rw [e7 hl]
  exact km.lookNo aQ bW (dV w) hkl (fun v hv=>by obtain ⟨n,h1,_⟩:=nmK_val h.ok hk hv;rw [hl] at h1;cases h1)
 | some x =>
  rw [dK hl]
  exact km.look aQ bW (dV w) hkl ⟨x,(bp hl).1,by rw [(bp hl).2],rfl⟩
theorem NmAt.look1 {w:World} {nb m c:Nat} {p:Nms} (h:NmAt w nb m c p) {ks:List ByteArray} (hk:PlOk ks) (V:List Value) (hV:V=lookW p ks) :
  (Instr.lookup 67 (.map (some m)) (.agg (pvv ks).toArray) false).run Tryz.prog w=.ok (.agg V.toArray) w:=by
 obtain ⟨q,_,km⟩:=h.map
 obtain ⟨kl,hkl⟩:=dF hk
 subst hV
 cases hl:getN p ks with
 | none =>
  rw [e7 hl]
  exact km.look1No aQ bW (dV w) hkl (fun v hv=>by obtain ⟨n,h1,_⟩:=nmK_val h.ok hk hv;rw [hl] at h1;cases h1)
 | some x =>
  rw [dK hl]
  exact km.look1 aQ bW (dV w) hkl ⟨x,(bp hl).1,by rw [(bp hl).2],rfl⟩
theorem has_n {nb m c:Nat} {p:Nms} {ks:List ByteArray} (hk:PlOk ks) (r:Bool) (hr:r=hasN p ks) (w:World) (h:NmAt w nb m c p) :
  Calls Tryz.prog 36 #[.pointer (some ⟨nb,0,none⟩),.agg (pvv ks).toArray] w fun e w'=>e=.returned (.bool r)∧Below w.heap.size w w':=by
 have hm:=Mem.start w
 have HR:Hid (NmAt w nb m c p):=h
 have HK:Hid (∀_:Unit,PlOk ks):=fun _=>hk
 obtain ⟨V,hV⟩:∃V,V=lookW p ks:=⟨_,rfl⟩
 have HV:Hid (∀_:Unit,V=lookW p ks):=fun _=>hV
 have HV5:Hid (V.length=7):=by rw [hV];exact lookW7 p ks
 have HV1:Hid (∀v∈V,v.oneCell'=true):=by rw [hV];exact lookW_one p ks
 have HRR:Hid (∀_:Unit,r=hasN p ks):=fun _=>hr
 clear hk h hV hr
 go_enter Tryz.func36,Tryz.ntmps36
 go_wp2_with (first
  | ((with_reducible refine ab (some 3) (.box 63 (.tmp 1)) ?_);refine aU (pvv ks) rfl hm ?_;clear hm;intro w1 g3 hm))
 refine am ?_
 refine ag (T:=fun W=>∃l,Mem w [] W (l++[(g3,pvv ks,63)])) (by kernel_rfl) hm ?_
 intro wc hbw hmw
 clear hm
 have hm:=hmw
 clear hbw hmw
 refine aT 0 (v:=.pointer (some ⟨nb,0,none⟩)) rfl (by kernel_rfl) rfl (fun W _=>by go_simp) ⟨[],hm⟩ ?_
 go_simp
 refine aT 1 (v:=.pointer (some ⟨nb,0,none⟩)) rfl (by kernel_rfl) rfl (fun W _=>by go_simp) ⟨[],hm⟩ ?_
 go_simp
 refine aT 2 (v:=.pointer (some ⟨nb,0,none⟩)) rfl (by kernel_rfl) rfl (fun W _=>by go_simp) ⟨[],hm⟩ ?_
 go_simp
 refine aT 3 (v:=.map (some m)) rfl (by kernel_rfl) rfl (fun W hW=>by obtain ⟨l,hW⟩:=hW;exact ad 0 (.map (some m)) ((HR.out.below hW.below).row) rfl cE rfl) ⟨[],hm⟩ ?_
 go_simp
 refine aT 4 (v:=.agg (pvv ks).toArray) rfl (by kernel_rfl) rfl (fun W hW=>by obtain ⟨l,hW⟩:=hW;exact al 0 (pvv ks) (hW.row (g3,pvv ks,63) (by simp)) rfl _ aH rfl 2 au (Nat.le_refl 2) rfl) ⟨[],hm⟩ ?_
 go_simp
 refine aT 5 (v:=.tuple #[.agg V.toArray,.bool r]) rfl (by kernel_rfl) rfl (fun W hW=>by obtain ⟨l,hW⟩:=hW;exact co ((HR.out.below hW.below).look (HK.out ()) V r (HV.out ()) (HRR.out ())) rfl rfl) ⟨[],hm⟩ ?_
 go_simp
 refine aT 6 (v:=.tuple #[.agg V.toArray,.bool r]) rfl (by kernel_rfl) rfl (fun W _=>by go_simp) ⟨[],hm⟩ ?_
 go_simp
 refine aT 7 (v:=.agg V.toArray) rfl (by kernel_rfl) rfl (fun W _=>by go_simp) ⟨[],hm⟩ ?_
 go_simp
 refine aT 8 (v:=.bool r) rfl (by kernel_rfl) rfl (fun W _=>by go_simp) ⟨[],hm⟩ ?_
 go_simp
 refine aO 9 (by kernel_rfl) rfl rfl ?_
 intro K hK
 refine ae _ bu hm ?_
 clear hm
 intro w4 g5 hm
 refine wpList_nil ?_
 refine hK _ _ ⟨[_],hm⟩ ?_
 clear hK K
 go_simp
 refine aO 10 (by kernel_rfl) rfl rfl ?_
 intro K hK
 refine af 0 V hm rfl rfl rfl 7 cy rfl HV5.out HV1.out ?_
 clear hm
 intro w5 hm
 refine wpList_nil ?_
 refine hK _ _ ⟨[_],hm⟩ ?_
 clear hK K
 go_simp
 refine aT 11 (v:=.bool r) rfl (by kernel_rfl) rfl (fun W _=>by go_simp) ⟨[_],hm⟩ ?_
 go_simp
 refine wpAnyH_done (by kernel_rfl) ?_ _
 simp only [endsIn]
 go_wp2_with fail
 go_ret
 exact ⟨rfl,hm.below⟩
theorem held_n (ks:List ByteArray) (b e:Int) (w:World) :
  Calls Tryz.prog 27 #[.agg (spc ks b e).toArray] w fun e_ w'=>e_=.returned (.agg (spc ks (heldI b) (heldI e)).toArray)∧Below w.heap.size w w':=by
 have hm:=Mem.start w
 go_enter Tryz.func27,Tryz.ntmps27
 go_wp2_with (first
  | ((with_reducible refine ab (some 1) (.box 50 (.tmp 0)) ?_);refine aU (spc ks b e) rfl hm ?_;clear hm;intro w1 g1 hm)
  | ((with_reducible refine ab (some 2) (.alloc 50) ?_);refine ae _ aS hm ?_;clear hm;intro w2 g2 hm)
  | ((with_reducible refine ab (some 4) (.load 3 (.tmp 3)) ?_);refine aw 1 1 (.int .i64 b) hm rfl rfl ah (rfl) ?_)
  | ((with_reducible refine ab (some 9) (.load 3 (.tmp 8)) ?_);refine aw 1 2 (.int .i64 e) hm rfl rfl ah (rfl) ?_)
  | ((with_reducible refine ab none (.store 3 (.tmp 7) (.tmp 6)) ?_);refine bi 1 1 (.int .i64 (heldI b)) hm rfl rfl rfl df (show _<5 by omega) rfl rfl ?_;clear hm;intro w3 hm)
  | ((with_reducible refine ab none (.store 3 (.tmp 12) (.tmp 11)) ?_);refine bi 1 2 (.int .i64 (heldI e)) hm rfl rfl rfl df (show _<5 by omega) rfl rfl ?_;clear hm;intro w3 hm)
  | ((with_reducible refine ab (some 13) (.load 50 (.tmp 1)) ?_);refine av 1 hm rfl rfl _ bf rfl 5 ao (rfl) ?_)
  | ((with_reducible refine ab none (.store 50 (.tmp 2) (.tmp 13)) ?_);refine af 0 (spc ks (heldI b) (heldI e)) hm rfl rfl rfl 5 ao rfl rfl (bl _ _ _) ?_;clear hm;intro w6 hm))
 refine ct 0 hm rfl Tryz.results27 rfl _ bf rfl 5 ao rfl rfl ?_
 exact ⟨rfl,hm.below⟩
open Go Go.RowKit Go.Sort Go.Shelf Go.Proofs
def sortN_ren:Go.Shelf.Ren:=⟨fun | 6=>63 | 15=>75 | 14=>77 | 28=>97 | 29=>98 | 20=>99 | 21=>100 | 22=>101 | 23=>102 | 24=>103 | 25=>104 | 26=>105 | 27=>106 | 46=>119 | 47=>114 | 48=>115 | 49=>120 | 50=>121 | 57=>129|n=>n,fun | 22=>87 | 24=>63 | 25=>103 | 3=>3 | 39=>118 | 0=>0 | 53=>142 | 55=>144 | 4=>4 | 46=>135 | 45=>134 | 50=>139 | 5=>5 | 9=>9 | 66=>153 | 70=>157 | 76=>165 | 77=>166|n=>n,fun|n=>n⟩
theorem sortN:Go.Proofs.SlLaysF0.n6 Tryz.prog sortN_ren:={
 mixed:=by kernel_rfl
 f6:=⟨Tryz.f63.name,by decide,Tryz.func63.trans (congrArg some (by kernel_rfl))⟩
 f14:=⟨Tryz.f77.name,by decide,Tryz.func77.trans (congrArg some (by kernel_rfl))⟩
 f15:=Tryz.func75.trans (congrArg some (by kernel_rfl))
 f20:=⟨Tryz.f99.name,by decide,Tryz.func99.trans (congrArg some (by kernel_rfl))⟩
 f21:=⟨Tryz.f100.name,by decide,Tryz.func100.trans (congrArg some (by kernel_rfl))⟩
 f22:=⟨Tryz.f101.name,by decide,Tryz.func101.trans (congrArg some (by kernel_rfl))⟩
 f23:=⟨Tryz.f102.name,by decide,Tryz.func102.trans (congrArg some (by kernel_rfl))⟩
 f24:=⟨Tryz.f103.name,by decide,Tryz.func103.trans (congrArg some (by kernel_rfl))⟩
 f25:=⟨Tryz.f104.name,by decide,Tryz.func104.trans (congrArg some (by kernel_rfl))⟩
 f26:=⟨Tryz.f105.name,by decide,Tryz.func105.trans (congrArg some (by kernel_rfl))⟩
 f27:=⟨Tryz.f106.name,by decide,Tryz.func106.trans (congrArg some (by kernel_rfl))⟩
 f28:=Tryz.func97.trans (congrArg some (by kernel_rfl))
 f29:=Tryz.func98.trans (congrArg some (by kernel_rfl))
 f46:=⟨Tryz.f119.name,by decide,Tryz.func119.trans (congrArg some (by kernel_rfl))⟩
 f47:=Tryz.func114.trans (congrArg some (by kernel_rfl))
 f48:=Tryz.func115.trans (congrArg some (by kernel_rfl))
 f49:=⟨Tryz.f120.name,by decide,Tryz.func120.trans (congrArg some (by kernel_rfl))⟩
 f50:=⟨Tryz.f121.name,by decide,Tryz.func121.trans (congrArg some (by kernel_rfl))⟩
 f57:=⟨Tryz.f129.name,by decide,Tryz.func129.trans (congrArg some (by kernel_rfl))⟩
 t0:=Tryz.underlying0
 a0:=Tryz.isAgg0
 z0:=Tryz.sizeOf0
 v0:=Tryz.zeroValue0
 t3:=Tryz.underlying3
 a3:=Tryz.isAgg3
 z3:=Tryz.sizeOf3
 v3:=Tryz.zeroValue3
 t4:=Tryz.underlying4
 a4:=Tryz.isAgg4
 z4:=Tryz.sizeOf4
 v4:=Tryz.zeroValue4
 t5:=Tryz.underlying5
 a5:=Tryz.isAgg5
 z5:=Tryz.sizeOf5
 v5:=Tryz.zeroValue5
 t9:=Tryz.underlying9
 a9:=Tryz.isAgg9
 z9:=Tryz.sizeOf9
 v9:=Tryz.zeroValue9
 t22:=Tryz.underlying87
 a22:=Tryz.isAgg87
 z22:=Tryz.sizeOf87
 v22:=Tryz.zeroValue87
 t25:=Tryz.underlying103
 a25:=Tryz.isAgg103
 z25:=Tryz.sizeOf103
 v25:=Tryz.zeroValue103
 t39:=Tryz.underlying118
 a39:=Tryz.isAgg118
 z39:=Tryz.sizeOf118
 v39:=Tryz.zeroValue118
 t45:=Tryz.underlying134
 a45:=Tryz.isAgg134
 z45:=Tryz.sizeOf134
 v45:=Tryz.zeroValue134
 t46:=Tryz.underlying135
 a46:=Tryz.isAgg135
 z46:=Tryz.sizeOf135
 v46:=Tryz.zeroValue135
 t50:=Tryz.underlying139
 a50:=Tryz.isAgg139
 z50:=Tryz.sizeOf139
 v50:=Tryz.zeroValue139
 t53:=Tryz.underlying142
 a53:=Tryz.isAgg142
 z53:=Tryz.sizeOf142
 v53:=Tryz.zeroValue142
 t55:=Tryz.underlying144
 a55:=Tryz.isAgg144
 z55:=Tryz.sizeOf144
 v55:=Tryz.zeroValue144
 t66:=Tryz.underlying153
 a66:=Tryz.isAgg153
 z66:=Tryz.sizeOf153
 v66:=Tryz.zeroValue153
 t70:=Tryz.underlying157
 a70:=Tryz.isAgg157
 z70:=Tryz.sizeOf157
 v70:=Tryz.zeroValue157
 t76:=Tryz.underlying165
 a76:=Tryz.isAgg165
 z76:=Tryz.sizeOf165
 v76:=Tryz.zeroValue165
 t77:=Tryz.underlying166
 a77:=Tryz.isAgg166
 z77:=Tryz.sizeOf166
 v77:=Tryz.zeroValue166}
def sortS_ren:Go.Shelf.Ren:=⟨fun | 6=>60 | 8=>75 | 9=>74 | 19=>97 | 20=>98 | 21=>88 | 22=>89 | 23=>90 | 24=>91 | 25=>92 | 26=>93 | 27=>94 | 28=>95 | 29=>96 | 36=>113 | 31=>114 | 32=>115 | 37=>116 | 38=>117 | 39=>118 | 41=>128|n=>n,fun | 27=>37 | 29=>9 | 3=>3 | 32=>118 | 26=>37 | 0=>0 | 44=>142 | 46=>144 | 4=>4 | 36=>135 | 35=>134 | 41=>139 | 5=>5 | 9=>9 | 53=>153 | 57=>157 | 63=>165 | 64=>166|n=>n,fun|n=>n⟩
theorem sortS:Go.Proofs.SlLaysM.n6 Tryz.prog sortS_ren:={
 mixed:=by kernel_rfl
 f6:=⟨Tryz.f60.name,by decide,Tryz.func60.trans (congrArg some (by kernel_rfl))⟩
 f8:=Tryz.func75.trans (congrArg some (by kernel_rfl))
 f9:=⟨Tryz.f74.name,by decide,Tryz.func74.trans (congrArg some (by kernel_rfl))⟩
 f19:=Tryz.func97.trans (congrArg some (by kernel_rfl))
 f20:=Tryz.func98.trans (congrArg some (by kernel_rfl))
 f21:=⟨Tryz.f88.name,by decide,Tryz.func88.trans (congrArg some (by kernel_rfl))⟩
 f22:=⟨Tryz.f89.name,by decide,Tryz.func89.trans (congrArg some (by kernel_rfl))⟩
 f23:=⟨Tryz.f90.name,by decide,Tryz.func90.trans (congrArg some (by kernel_rfl))⟩
 f24:=⟨Tryz.f91.name,by decide,Tryz.func91.trans (congrArg some (by kernel_rfl))⟩
 f25:=⟨Tryz.f92.name,by decide,Tryz.func92.trans (congrArg some (by kernel_rfl))⟩
 f26:=⟨Tryz.f93.name,by decide,Tryz.func93.trans (congrArg some (by kernel_rfl))⟩
 f27:=⟨Tryz.f94.name,by decide,Tryz.func94.trans (congrArg some (by kernel_rfl))⟩
 f28:=⟨Tryz.f95.name,by decide,Tryz.func95.trans (congrArg some (by kernel_rfl))⟩
 f29:=⟨Tryz.f96.name,by decide,Tryz.func96.trans (congrArg some (by kernel_rfl))⟩
 f31:=Tryz.func114.trans (congrArg some (by kernel_rfl))
 f32:=Tryz.func115.trans (congrArg some (by kernel_rfl))
 f36:=⟨Tryz.f113.name,by decide,Tryz.func113.trans (congrArg some (by kernel_rfl))⟩
 f37:=⟨Tryz.f116.name,by decide,Tryz.func116.trans (congrArg some (by kernel_rfl))⟩
 f38:=⟨Tryz.f117.name,by decide,Tryz.func117.trans (congrArg some (by kernel_rfl))⟩
 f39:=⟨Tryz.f118.name,by decide,Tryz.func118.trans (congrArg some (by kernel_rfl))⟩
 f41:=⟨Tryz.f128.name,by decide,Tryz.func128.trans (congrArg some (by kernel_rfl))⟩
 t0:=Tryz.underlying0
 a0:=Tryz.isAgg0
 z0:=Tryz.sizeOf0
 v0:=Tryz.zeroValue0
 t3:=Tryz.underlying3
 a3:=Tryz.isAgg3
 z3:=Tryz.sizeOf3
 v3:=Tryz.zeroValue3
 t4:=Tryz.underlying4
 a4:=Tryz.isAgg4
 z4:=Tryz.sizeOf4
 v4:=Tryz.zeroValue4
 t5:=Tryz.underlying5
 a5:=Tryz.isAgg5
 z5:=Tryz.sizeOf5
 v5:=Tryz.zeroValue5
 t9:=Tryz.underlying9
 a9:=Tryz.isAgg9
 z9:=Tryz.sizeOf9
 v9:=Tryz.zeroValue9
 t26:=Tryz.underlying37
 a26:=Tryz.isAgg37
 z26:=Tryz.sizeOf37
 v26:=Tryz.zeroValue37
 t27:=Tryz.underlying37
 a27:=Tryz.isAgg37
 z27:=Tryz.sizeOf37
 v27:=Tryz.zeroValue37
 t29:=Tryz.underlying9
 a29:=Tryz.isAgg9
 z29:=Tryz.sizeOf9
 v29:=Tryz.zeroValue9
 t32:=Tryz.underlying118
 a32:=Tryz.isAgg118
 z32:=Tryz.sizeOf118
 v32:=Tryz.zeroValue118
 t35:=Tryz.underlying134
 a35:=Tryz.isAgg134
 z35:=Tryz.sizeOf134
 v35:=Tryz.zeroValue134
 t36:=Tryz.underlying135
 a36:=Tryz.isAgg135
 z36:=Tryz.sizeOf135
 v36:=Tryz.zeroValue135
 t41:=Tryz.underlying139
 a41:=Tryz.isAgg139
 z41:=Tryz.sizeOf139
 v41:=Tryz.zeroValue139
 t44:=Tryz.underlying142
 a44:=Tryz.isAgg142
 z44:=Tryz.sizeOf142
 v44:=Tryz.zeroValue142
 t46:=Tryz.underlying144
 a46:=Tryz.isAgg144
 z46:=Tryz.sizeOf144
 v46:=Tryz.zeroValue144
 t53:=Tryz.underlying153
 a53:=Tryz.isAgg153
 z53:=Tryz.sizeOf153
 v53:=Tryz.zeroValue153
 t57:=Tryz.underlying157
 a57:=Tryz.isAgg157
 z57:=Tryz.sizeOf157
 v57:=Tryz.zeroValue157
 t63:=Tryz.underlying165
 a63:=Tryz.isAgg165
 z63:=Tryz.sizeOf165
 v63:=Tryz.zeroValue165
 t64:=Tryz.underlying166
 a64:=Tryz.isAgg166
 z64:=Tryz.sizeOf166
 v64:=Tryz.zeroValue166}
end Go.Proofs.YtdmohffogfbnbaaGreatDoor
