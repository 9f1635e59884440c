import Derived.Test.YtlpnafdkhoimhaaGreatDoorQr07
set_option maxRecDepth 100000
set_option maxHeartbeats 4000000
namespace Go.Proofs.YtlpnafdkhoimhaaGreatDoor
open Go Go.RowKit
theorem run_bsl4s {P:Program} (w:World) {t elem:TypeId} (z v0 v1 v2 v3:Value) (hu:P.underlying t=some (.slice elem)) (hi:(P.info? elem).map (fun i=>(i.zero,i.size))=some (some z,1)) (hz:z.cells=#[z]) (h0:v0.cells=#[v0]) (h1:v1.cells=#[v1]) (h2:v2.cells=#[v2]) (h3:v3.cells=#[v3]) :
  (Instr.buildSlice t 4 #[(0,v0),(1,v1),(2,v2),(3,v3)]).run P w=.ok (.slice (some ⟨w.heap.size,0,none⟩) 4 4) (w.alloc (.cells [v0,v1,v2,v3].toArray elem)):=by
 obtain ⟨hz1,hs1⟩:=zero_of_info hi
 cases hq:P.info? elem with
 | none=>simp [hq] at hi
 | some q =>
  have hs:q.size=1:=by simpa [hq] using hs1
  have e:Array.map (fun x=>([z][x % 1]?).getD default) (Array.range 4)=#[z,z,z,z]:=by
   apply Array.ext
   ·simp
   ·intro i h1 h2
    have h3:i=0∨i=1∨i=2∨i=3:=by
     have:i<4:=by simpa using h2
     omega
    rcases h3 with rfl|rfl|rfl|rfl<;>simp
  simp [Instr.buildSlice,run_underlying hu,sizeOf,typeInfo,hq,hs,hz1,hz,Instr.fill,h0,h1,h2,h3,newRow,newObj]
  rw [e]
  rfl
section
variable {P:Program} {ops:Array Oper} {rest:List Oper} {a:Act} {w w0 w':World} {Q:Exit→Act→World→Prop} {dst:Option Tmp} {typ:TypeId} {pos:String} {aft:Array Edge} {gd:Option (Nat×Bool)} {S:List Nat} {rows:List (Nat×List Value×TypeId)}
theorem dZ {fn:Func} {R:Ending→World→Prop} {p u:Tmp} {ty:TypeId} (i:Nat) {g:Nat} {l:List Value} {t:TypeId} (v:Value) (hm:Mem w0 S w rows) (hi:rows[i]?=some (g,l,t))
  (hres:fn.results=#[.cell p ty,.tmp u]) (hp:a.tmps.getD p undef=.pointer (some ⟨g,0,none⟩)) (hv:a.tmps.getD u undef=v) (d:TypeDesc) (hu:P.underlying ty=some d) (hd:(match d with | .struct _ | .array _ _=>true|_=>false)=true)
  (n:Nat) (hs:(P.info? ty).map (·.size)=some n) (hn:l.length=n) (hd0:a.defers=[]) (hR:R (.returned (.tuple #[.agg l.toArray,v])) w):bodyPost P fn R .ret a w:=by
 refine bodyPost_ret ?_ hd0 hR
 rw [results_cell_tmp hres,hp,hv]
 have hl:=run_loadVar_row (P:=P) w g t ty l.toArray (0,0) d (hm.get i hi) hu hd (by rw [hs];simp [hn])
 simp [asAddr,hl]
theorem ret_tc {fn:Func} {R:Ending→World→Prop} {p u:Tmp} {ty:TypeId} (i:Nat) {g:Nat} {l:List Value} {t:TypeId} (v:Value) (hm:Mem w0 S w rows) (hi:rows[i]?=some (g,l,t))
  (hres:fn.results=#[.tmp u,.cell p ty]) (hp:a.tmps.getD p undef=.pointer (some ⟨g,0,none⟩)) (hv:a.tmps.getD u undef=v) (d:TypeDesc) (hu:P.underlying ty=some d) (hd:(match d with | .struct _ | .array _ _=>true|_=>false)=true)
  (n:Nat) (hs:(P.info? ty).map (·.size)=some n) (hn:l.length=n) (hd0:a.defers=[]) (hR:R (.returned (.tuple #[v,.agg l.toArray])) w):bodyPost P fn R .ret a w:=by
 refine bodyPost_ret ?_ hd0 hR
 have hl:=run_loadVar_row (P:=P) w g t ty l.toArray (0,0) d (hm.get i hi) hu hd (by rw [hs];simp [hn])
 have hp':a.tmps[p]?.getD undef=.pointer (some ⟨g,0,none⟩):=by simpa using hp
 have hv':a.tmps[u]?.getD undef=v:=by simpa using hv
 simp [results,hres,hp',hv',asAddr,hl]
theorem gO {ty:TypeId} (z:List Value) (hz:∀w,(zeroValue ty).run P w=.ok (.agg z.toArray) w) (hm:Mem w0 S w rows)
  (h:∀w' g,Below w.heap.size w w'→Mem w0 S w' ((g,z,ty)::rows)→wpList P ops Q rest (a.put dst (.pointer (some ⟨g,0,none⟩))) w') :
  wpList P ops Q ({dst:=dst,op:=.alloc ty,type:=typ,pos:=pos,after:=aft,guard:=none}::rest) a w:=by
 refine wpList_plain rfl fun K hK=>?_
 have hh:=hK _ _ (h _ _ ((Below.refl _ _).alloc (Nat.le_refl _) _) (hm.alloc z ty))
 unfold Oper.wp execOp
 simp [go_sem,hz,newVar,newObj,Value.cells]
 exact hh
/-- A row of the call's own is turned, and no longer spoken of. -/
theorem Mem.lose {g:Nat} {l:List Value} {t:TypeId} (hm:Mem w0 S w ((g,l,t)::rows)) (hu:Upd g w w'):Mem w0 S w' rows:=by
 refine ⟨hu.os.trans hm.os,hu.tape.trans hm.tape,hu.output.trans hm.output,Nat.le_trans hm.size hu.size,fun k hk hn=>?_,fun r hr=>?_,(hm.tail).nodup,(hm.tail).fresh⟩
 ·have hf:=hm.fresh _ (List.mem_cons_self ..)
  refine (hu.block k (Nat.lt_of_lt_of_le hk hm.size) (fun e=>?_)).trans (hm.block k hk hn)
  subst e
  rcases hf with hf|hf
  ·exact hn hf
  ·exact absurd hk (Nat.not_lt.2 hf)
 ·refine hu.row ((hm.tail).row r hr) (fun e=>?_)
  have hd:=hm.nodup
  simp only [List.map_cons,List.nodup_cons] at hd
  exact hd.1 (e▸List.mem_map_of_mem hr)
theorem upd_freeze (g k:Nat) (w:World):Upd g w (w.freeze ⟨g,k,none⟩ 1):=by
 unfold World.freeze
 rw [if_neg (by decide)]
 refine ⟨rfl,rfl,rfl,?_,fun i hi hn=>?_⟩
 ·simp
 ·simp only [Array.getElem?_modify]
  rw [if_neg (fun h=>hn h.symm)]
theorem seg_freeze {g k:Nat} {cs:List Int} {t:TypeId} (hr:Row w g (u8s cs) t):Seg (w.freeze ⟨g,k,none⟩ 1) g 0 cs:=by
 have hh:(w.freeze ⟨g,k,none⟩ 1).heap[g]?=some (.cells (u8s cs).toArray t (k,k+1)):=by
  unfold World.freeze
  rw [if_neg (by decide)]
  simp only [Array.getElem?_modify]
  rw [if_pos trivial,hr]
  rfl
 intro j hj
 rw [cell_of_row _ _ _ _ _ _ hh,Nat.zero_add]
 simpa using cK cs j hj
/-- A constant string's bytes: the row that holds them gets its mark. -/
theorem d8 {t e:TypeId} {x:Operand} (cs:List Int) (hw:Region.wanted {dst:=dst,op:=.convert t t x,type:=typ,pos:=pos,after:=aft,guard:=gd} (yielded ops a.tmps)=true) (ht:P.underlying t=some (.slice e)) (he:P.underlying e=some (.int .u8)) {g n:Nat} (hx:a.eval x=.slice (some ⟨g,0,none⟩) n n) (hn:n=cs.length) (hm:Mem w0 S w ((g,u8s cs,e)::rows))
  (h:∀w',Mem w0 S w' rows→SlOld w' (.slice (some ⟨g,0,none⟩) n n) cs→wpList P ops Q rest (a.put dst (.slice (some ⟨g,0,none⟩) n n)) w') :
  wpList P ops Q ({dst:=dst,op:=.convert t t x,type:=typ,pos:=pos,after:=aft,guard:=gd}::rest) a w:=by
 subst hn
 have hr:=hm.get 0 rfl
 have hsh:w.shape? g=some (e,cs.length):=by
  unfold World.shape?
  rw [hr]
  simp [aa]
 have hrun:(convert t t (.slice (some ⟨g,0,none⟩) cs.length cs.length)).run P w=.ok (.slice (some ⟨g,0,none⟩) cs.length cs.length) (w.freeze ⟨g,cs.length,none⟩ 1):=by
  simp [convert,run_underlying ht,run_underlying he,markStringish,hsh]
 refine wpList_step fun K hK=>?_
 rw [if_pos hw]
 have hh:=hK _ _ (h _ (hm.lose (upd_freeze g cs.length w)) ⟨_,_,rfl,Nat.le_refl _,fun _=>⟨g,0,rfl,seg_freeze hr⟩⟩)
 unfold Oper.wp execOp
 simp only [hx,hrun,Sem.run_bind,Sem.run_pure,Result.andThen_ok]
 exact hh
theorem fg {t e:TypeId} (hu:P.underlying t=some (.slice e)) (hi:(P.info? e).map (fun i=>(i.zero,i.size))=some (some (.int .u8 0),1)) (hm:Mem w0 S w rows)
  (h:∀w' g,Mem w0 S w' ((g,u8s labWrap,e)::rows)→Below w.heap.size w w'→wpList P ops Q rest (a.put dst (.slice (some ⟨g,0,none⟩) 4 4)) w') :
  wpList P ops Q ({dst:=dst,op:=.buildSlice t 4 #[(0,.const (.int .u8 119)),(1,.const (.int .u8 114)),(2,.const (.int .u8 97)),(3,.const (.int .u8 112))],type:=typ,pos:=pos,after:=aft,guard:=none}::rest) a w:=by
 refine wpList_plain rfl fun K hK=>?_
 have hh:=hK _ _ (h _ _ (hm.alloc (u8s labWrap) e) ((Below.refl _ _).alloc (Nat.le_refl _) _))
 have hc:∀z:Int,a.eval (.const (.int .u8 z))=.int .u8 z:=fun _=>rfl
 unfold Oper.wp execOp
 simp only [List.map_toArray,List.map_cons,List.map_nil,hc,run_bsl4s (P:=P) w (.int .u8 0) (.int .u8 119) (.int .u8 114) (.int .u8 97) (.int .u8 112) hu hi rfl rfl rfl rfl rfl,Sem.run_bind,Sem.run_pure,Result.andThen_ok]
 exact hh
theorem run_neqa (w:World) (t e:TypeId) (n:Nat) (k:IntKind) (ht:P.underlying t=some (.array n e)) (he:P.underlying e=some (.int k)) (hs:(P.info? e).map (·.size)=some 1) (xs ys:List Int) (hx:xs.length=n) (hy:ys.length=n) :
  (binOp .neq t (.agg (xs.map (Value.int k)).toArray) (.agg (ys.map (Value.int k)).toArray)).run P w=.ok (.bool (!decide (xs=ys))) w:=by
 have h:=jY (P:=P) w 9998 t e n k ht he hs xs ys hx hy
 have h2:(Op.equal t (.agg (xs.map (Value.int k)).toArray) (.agg (ys.map (Value.int k)).toArray)).run P w=.ok (decide (xs=ys)) w:=h
 simp only [binOp,Sem.run_bind,h2,Result.andThen_ok,Sem.run_pure]
theorem exec_nea {t:TypeId} {x y:Operand} {rt:TypeId} (e:TypeId) (n:Nat) (k:IntKind) (xs ys:List Int) (v:Bool) (hv:(!decide (xs=ys))=v) (hx:a.eval x=.agg (xs.map (Value.int k)).toArray) (hy:a.eval y=.agg (ys.map (Value.int k)).toArray) (ht:P.underlying t=some (.array n e)) (he:P.underlying e=some (.int k)) (hs:(P.info? e).map (·.size)=some 1) (hm:P.eqGuardType P.depth t=false) (h1:xs.length=n) (h2:ys.length=n) :
  (execOp a.eval {dst:=dst,op:=.binOp .neq t x y rt,type:=typ,pos:=pos,after:=aft,guard:=gd}).run P w=.ok (.value (.bool v)) w:=by
 subst hv
 unfold execOp
 simp only [hx,hy,Sem.run_bind,run_eqGuard_agg w .neq t x y _ _ hm,Sem.run_pure,Result.andThen_ok,run_neqa w t e n k ht he hs xs ys h1 h2]
theorem Mem.two' {a b c:Nat×List Value×TypeId} (hm:Mem w0 S w (a::b::c::rows)):Mem w0 S w (a::c::rows):=hm.sub (List.Sublist.cons_cons _ (List.sublist_cons_self _ _))
end
open Go Go.RowKit
theorem kW (ks ns ms:List Int) (v:Value) (hkl:ks.length=32) (hnl:ns.length=12) (hkb:Bytes ks) (hnb:Bytes ns) (hml:ms.length≤60000) (w:World) (ht:Tab w) (hq:QTab w) (hv:SlOld w v ms) :
  Calls Tryz.prog 144 #[.agg (u8s ks).toArray,.agg (u8s ns).toArray,v] w fun e w'=>∃g,e=.returned (.slice (some ⟨g,0,none⟩) ms.length ms.length)∧w.heap.size≤g∧Row w' g (u8s (encOf ks ns ms)) 5∧Below w.heap.size w w':=by
 obtain ⟨p,cap,rfl,hcap⟩:=hv.len
 have hm:=Mem.start w
 have HT:Hid _:=ht
 have HKL:Hid _:=hkl
 have HNL:Hid _:=hnl
 have HKB:Hid _:=hkb
 have HNB:Hid _:=hnb
 have HKU:Hid ((u8s ks).length=32):=by show _=_;rw [aa];exact hkl
 have HNU:Hid ((u8s ns).length=12):=by show _=_;rw [aa];exact hnl
 have HQ:Hid _:=hq
 have HV:Hid (SlOld w (.slice p ms.length cap) ms):=hv
 obtain ⟨E,hE⟩:∃E,E=encKey ks:=⟨_,rfl⟩
 have HEE:Hid (∀_:Unit,deriveOf ks (strB {data:=#[101,110,99]}) 0=E):=fun _=>hE.symm
 have HEL:Hid (E.length=32):=by show _=_;rw [hE,encKey,bk]
 have HEB:Hid (Bytes E):=by rw [hE];exact fT _ _ _
 have HXE:Hid (∀_:Unit,xorOf E ns 1 ms=encOf ks ns ms):=fun _=>by rw [hE];rfl
 clear ht hq hkl hnl hkb hnb hv hE
 go_enter Tryz.func144,Tryz.ntmps144
 go_wp2_with (first
  | ((with_reducible refine ae (some 3) (.box 43 (.tmp 0)) ?_);refine az (u8s ks) rfl hm ?_;clear hm;intro w1 g3 hm)
  | ((with_reducible refine ae (some 4) (.box 139 (.tmp 1)) ?_);refine az (u8s ns) rfl hm ?_;clear hm;intro w2 g4 hm))
 refine aA ?_
 refine aZ (T:=fun W=>Mem w [] W [(g4,u8s ns,139),(g3,u8s ks,43)]) (by kernel_rfl) hm ?_
 clear hm
 intro w3 hm
 refine aG 0 (v:=.agg (u8s ks).toArray) rfl (by kernel_rfl) rfl (fun W hW=>au 0 _ (Mem.get hW 1 rfl) rfl _ aw rfl 32 aq (by rw [HKU.out];omega) (by rw [List.drop_zero,List.take_of_length_le (Nat.le_of_eq HKU.out)])) hm ?_
 go_simp
 refine aG 2 (v:=.agg (u8s ns).toArray) rfl (by kernel_rfl) rfl (fun W hW=>au 0 _ (Mem.get hW 0 rfl) rfl _ dK rfl 12 dI (by rw [HNU.out];omega) (by rw [List.drop_zero,List.take_of_length_le (Nat.le_of_eq HNU.out)])) hm ?_
 go_simp
 refine aG 3 (v:=.slice p ms.length cap) rfl (by kernel_rfl) rfl (fun W _=>by go_simp) hm ?_
 go_simp
 refine aP 1 (by kernel_rfl) rfl rfl ?_
 intro K hK
 go_wp2_with (go_at_call 54;refine (gP ks _ 0 HKL.out HKB.out (by decide) (by omega) _ (Tab.mem HT.out hm (by simp))).mono ?_;rintro e w4 ⟨he,hb⟩;rw [HEE.out ()] at he;subst he;replace hm:=hm.call hb;clear hb)
 refine hK _ _ hm ?_
 clear hK K
 refine aP 4 (by kernel_rfl) rfl rfl ?_
 intro K hK
 go_wp2_with (go_at_call 180;refine (xor_any E ns ms 1 _ HEL.out HNL.out HEB.out HNB.out ⟨by omega,by omega⟩ hml _ (QTab.mem HQ.out hm (by simp)) (SlOld.mem HV.out hm)).mono ?_;rintro e w5 ⟨g,he,hge,hr,hb⟩;subst he;rw [HXE.out ()] at hr;replace hm:=hm.callNew hb hr hge;clear hb hr hge)
 refine hK _ _ hm.tail ?_
 clear hK K
 refine aG 5 (v:=.slice (some ⟨g,0,none⟩) ms.length ms.length) rfl (by kernel_rfl) rfl (fun W _=>by go_simp) hm.tail ?_
 go_simp
 refine wpAnyH_done (by kernel_rfl) ?_ _
 simp only [endsIn]
 go_wp2_with fail
 go_ret
 have hf:=hm.fresh _ (List.mem_cons_self ..)
 exact ⟨g,rfl,by simpa using hf,hm.get 0 rfl,hm.below⟩
theorem jE (ns ds cs:List Int) (va vc:Value) (hnl:ns.length=12) (hal:ds.length≤20000) (hcl:cs.length≤20000) (w:World) (hva:SlOld w va ds) (hvc:SlOld w vc cs) :
  Calls Tryz.prog 181 #[.agg (u8s ns).toArray,va,vc] w fun e w'=>∃v',e=.returned v'∧SlOld w' v' (msgOf ns ds cs)∧Below w.heap.size w w':=by
 obtain ⟨pa,ca,rfl,_⟩:=hva.len
 obtain ⟨pc,cc,rfl,_⟩:=hvc.len
 have hm:=Mem.start w
 have HNL:Hid _:=hnl
 have HA:Hid (SlOld w (.slice pa ds.length ca) ds):=hva
 have HC:Hid (SlOld w (.slice pc cs.length cc) cs):=hvc
 have HWR:Hid (IntKind.u64.wrap (ds.length:Int)=(ds.length:Int)):=gA _ (by omega) (by omega)
 have hty:∀(g:Nat),∀r∈[(g,u8s ns,(139:TypeId))],r.2.2≠5:=by
  intro g r hr
  simp only [List.mem_cons,List.not_mem_nil,or_false] at hr
  subst hr
  simp
 have HTY:Hid _:=hty
 clear hva hvc hnl hty
 go_enter Tryz.func181,Tryz.ntmps181
 go_wp2_with (first
  | ((with_reducible refine ae (some 3) (.box 139 (.tmp 0)) ?_);refine az (u8s ns) rfl hm ?_;clear hm;intro w1 g3 hm)
  | ((with_reducible refine ae (some 15) (.makeSlice 56 (.const (.int .i64 0)) (.tmp 14)) ?_);go_must (refine wpl_makeE _ aF _ bF rfl (8+ds.length+12+cs.length) rfl rfl (by first|rfl|omega|go_num) (by omega) hm ?_);clear hm;intro w2 g15 hm;have HO0:Hid (OwnB 5 w2 w.heap.size (.slice (some ⟨g15,0,none⟩) 0 (8+ds.length+12+cs.length)) []):=own_empty (hm.get 0 rfl) (by have hf:=hm.fresh _ (List.mem_cons_self ..);simpa using hf) (by omega);replace hm:=hm.tail)
  | (go_at_call 91;refine (gq _ _).mono ?_;rintro e w3 ⟨g20,rfl,hge,hr,hb⟩;have HO1:Hid (OwnB 5 w3 w.heap.size (.slice (some ⟨g15,0,none⟩) 0 (8+ds.length+12+cs.length)) []):=OwnB.below HO0.out hb;have HR:Hid _:=hr;replace hm:=hm.call hb;clear hge hr hb HO0)
  | ((with_reducible refine ae (some 21) (.call {callee:=.builtin .append,args:=#[.tmp 16,.tmp 20],argTypes:=#[56,56]}) ?_);go_must (refine dO rfl aF bF (be8 (ds.length:Int)) hm HO1.out (HTY.out _) rfl rfl rfl (fun _=>⟨g20,0,rfl,Seg.row HR.out⟩) (by simp [bh]) ?_);clear hm;intro v21 w4 ho hm;have HO2:Hid (OwnB 5 w4 w.heap.size v21 ([]++be8 (ds.length:Int))):=ho;clear ho HO1 HR)
  | ((with_reducible refine ae (some 24) (.call {callee:=.builtin .append,args:=#[.tmp 22,.tmp 23],argTypes:=#[56,56]}) ?_);go_must (refine dO rfl aF bF ds hm HO2.out (HTY.out _) rfl rfl rfl (SlOld.mem HA.out hm).src0.2.2 (by simp [bh];omega) ?_);clear hm;intro v24 w5 ho hm;have HO3:Hid (OwnB 5 w5 w.heap.size v24 ([]++be8 (ds.length:Int)++ds)):=ho;clear ho HO2)
  | ((with_reducible refine ae (some 27) (.call {callee:=.builtin .append,args:=#[.tmp 25,.tmp 26],argTypes:=#[56,56]}) ?_);go_must (refine dO rfl aF bF ns hm HO3.out (HTY.out _) rfl rfl HNL.out.symm (fun _=>⟨g3,0,rfl,Seg.row (hm.get 0 rfl)⟩) (by simp [bh,HNL.out];omega) ?_);clear hm;intro v27 w6 ho hm;have HO4:Hid (OwnB 5 w6 w.heap.size v27 ([]++be8 (ds.length:Int)++ds++ns)):=ho;clear ho HO3)
  | ((with_reducible refine ae (some 30) (.call {callee:=.builtin .append,args:=#[.tmp 28,.tmp 29],argTypes:=#[56,56]}) ?_);go_must (refine dO rfl aF bF cs hm HO4.out (HTY.out _) rfl rfl rfl (SlOld.mem HC.out hm).src0.2.2 (by simp [bh,HNL.out];omega) ?_);clear hm;intro v30 w7 ho hm;have HO5:Hid (OwnB 5 w7 w.heap.size v30 ([]++be8 (ds.length:Int)++ds++ns++cs)):=ho;clear ho HO4))
 go_ret
 exact ⟨v30,rfl,OwnB.old HO5.out,hm.below⟩
theorem tag_any (ks ns ds cs:List Int) (va vc:Value) (hkl:ks.length=32) (hnl:ns.length=12) (hkb:Bytes ks) (hnb:Bytes ns) (hdb:Bytes ds) (hcb:Bytes cs) (hal:ds.length≤20000) (hcl:cs.length≤20000) (w:World) (ht:Tab w) (hva:SlOld w va ds) (hvc:SlOld w vc cs) :
  Calls Tryz.prog 145 #[.agg (u8s ks).toArray,.agg (u8s ns).toArray,va,vc] w fun e w'=>e=.returned (.agg (u8s (tagOf ks ns ds cs)).toArray)∧Below w.heap.size w w':=by
 obtain ⟨pa,ca,rfl,_⟩:=hva.len
 obtain ⟨pc,cc,rfl,_⟩:=hvc.len
 have hm:=Mem.start w
 have HT:Hid _:=ht
 have HKL:Hid _:=hkl
 have HNL:Hid _:=hnl
 have HKB:Hid _:=hkb
 have HNB:Hid _:=hnb
 have HKU:Hid ((u8s ks).length=32):=by show _=_;rw [aa];exact hkl
 have HNU:Hid ((u8s ns).length=12):=by show _=_;rw [aa];exact hnl
 have HA:Hid (SlOld w (.slice pa ds.length ca) ds):=hva
 have HC:Hid (SlOld w (.slice pc cs.length cc) cs):=hvc
 obtain ⟨E,hE⟩:∃E,E=macKey ks:=⟨_,rfl⟩
 have HEE:Hid (∀_:Unit,deriveOf ks (strB {data:=#[109,97,99]}) 0=E):=fun _=>hE.symm
 have HEL:Hid (E.length=32):=by show _=_;rw [hE,macKey,bk]
 have HEU:Hid ((u8s E).length=32):=by show _=_;rw [aa];exact HEL.out
 have HEB:Hid (Bytes E):=by rw [hE];exact fT _ _ _
 obtain ⟨M,hM⟩:∃M,M=msgOf ns ds cs:=⟨_,rfl⟩
 have HMM:Hid (∀_:Unit,msgOf ns ds cs=M):=fun _=>hM.symm
 have HMB:Hid (Bytes M):=by rw [hM];exact msgOf_bytes hnb hdb hcb
 have HML:Hid (M.length≤500000):=by show _≤_;rw [hM,msgOf_length];omega
 obtain ⟨X,hX⟩:∃X,X=macOf E M:=⟨_,rfl⟩
 have HXX:Hid (∀_:Unit,macOf E M=X):=fun _=>hX.symm
 have HXL:Hid ((u8s X).length=32):=by show _=_;rw [aa,hX,bZ]
 obtain ⟨G,hG⟩:∃G,G=tagOf ks ns ds cs:=⟨_,rfl⟩
 have HGG:Hid (∀_:Unit,tagOf ks ns ds cs=G):=fun _=>hG.symm
 have HGL:Hid ((u8s G).length=16):=by show _=_;rw [aa,hG,dn]
 have HXG:Hid (((u8s X).drop 0).take 16=u8s G):=by show _=_;rw [hG,hX,hE,hM,List.drop_zero];simp [tagOf,u8s,List.map_take]
 clear ht hkl hnl hkb hnb hva hvc hE hM hX hG
 go_enter Tryz.func145,Tryz.ntmps145
 go_wp2_with (first
  | ((with_reducible refine ae (some 4) (.box 43 (.tmp 0)) ?_);refine az (u8s ks) rfl hm ?_;clear hm;intro w1 g4 hm)
  | ((with_reducible refine ae (some 5) (.box 139 (.tmp 1)) ?_);refine az (u8s ns) rfl hm ?_;clear hm;intro w2 g5 hm)
  | ((with_reducible refine ae (some 8) (.alloc 168) ?_);refine ag _ fZ hm ?_;clear hm;intro w3 g8 hm)
  | ((with_reducible refine ae (some 11) (.load 43 (.tmp 4)) ?_);refine av 2 hm rfl rfl _ aw rfl 32 aq (HKU.out) ?_)
  | (go_at_call 54;refine (gP ks _ 0 HKL.out HKB.out (by decide) (by omega) _ (Tab.mem HT.out hm (by simp))).mono ?_;rintro e w4 ⟨he,hb⟩;rw [HEE.out ()] at he;subst he;replace hm:=hm.call hb;clear hb)
  | ((with_reducible refine ae (some 9) (.alloc 43) ?_);refine ag _ aD hm ?_;clear hm;intro w5 g9 hm)
  | ((with_reducible refine ae none (.store 43 (.tmp 9) (.tmp 12)) ?_);refine ah 0 (u8s E) hm rfl rfl rfl 32 aq (by simp [aa]) (HEU.out) (ai _) ?_;clear hm;intro w6 hm))
 refine aA ?_
 refine aZ (T:=fun W=>Mem w [] W [(g9,u8s E,43),(g8,u8s (List.replicate 16 0),168),(g5,u8s ns,139),(g4,u8s ks,43)]) (by kernel_rfl) hm ?_
 clear hm
 intro w7 hm
 refine aG 0 (v:=.slice (some ⟨g9,0,none⟩) 32 32) rfl (by kernel_rfl) rfl (fun W _=>by go_simp) hm ?_
 go_simp
 refine aG 1 (v:=.agg (u8s ns).toArray) rfl (by kernel_rfl) rfl (fun W hW=>au 0 _ (Mem.get hW 2 rfl) rfl _ dK rfl 12 dI (by rw [HNU.out];omega) (by rw [List.drop_zero,List.take_of_length_le (Nat.le_of_eq HNU.out)])) hm ?_
 go_simp
 refine aG 2 (v:=.slice pa ds.length ca) rfl (by kernel_rfl) rfl (fun W _=>by go_simp) hm ?_
 go_simp
 refine aG 3 (v:=.slice pc cs.length cc) rfl (by kernel_rfl) rfl (fun W _=>by go_simp) hm ?_
 go_simp
 refine wpAnyH_all (rs:=[4,6]) (by kernel_rfl) (by simp) ?_
 intro i hi
 simp only [List.mem_cons,List.not_mem_nil,or_false] at hi
 rcases hi with rfl|rfl
 ·refine aL 4 rfl rfl ?_
  intro K hK
  go_wp2_with (go_at_call 181;refine (jE ns ds cs _ _ HNL.out hal hcl _ (SlOld.mem HA.out hm) (SlOld.mem HC.out hm)).mono ?_;rintro e wm ⟨vm,he,hs,hb⟩;subst he;rw [HMM.out ()] at hs;have HS:Hid (SlOld wm vm M):=hs;replace hm:=hm.call hb;clear hb hs)
  refine hK _ _ hm ?_
  clear hK K
  refine wpAnyH_all (rs:=[5,6]) (by kernel_rfl) (by simp) ?_
  intro i hi
  simp only [List.mem_cons,List.not_mem_nil,or_false] at hi
  rcases hi with rfl|rfl
  ·refine aL 5 rfl rfl ?_
   intro K hK
   obtain ⟨pm,cm,hvm,_⟩:=HS.out.len
   subst hvm
   go_wp2_with (go_at_call 146;refine (jT E M _ _ HEB.out HMB.out (by rw [HEL.out];omega) HML.out _ (Tab.mem HT.out hm (by simp)) (a8 (hm.get 0 rfl) HEL.out (Nat.le_refl _)) HS.out).mono ?_;rintro e wx ⟨he,hb⟩;rw [HXX.out ()] at he;subst he;replace hm:=hm.call hb;clear hb)
   refine hK _ _ hm ?_
   clear hK K
   refine aP 6 (by kernel_rfl) rfl rfl ?_
   intro K hK
   refine gO _ bz hm ?_
   clear hm
   intro wa g10 hb hm
   clear hb
   refine wpList_nil ?_
   refine hK _ _ hm.tail ?_
   clear hK K
   refine aP 7 (by kernel_rfl) rfl rfl ?_
   intro K hK
   refine ah 0 (u8s X) hm rfl rfl rfl 32 bB (by simp [aa]) HXL.out (ai _) ?_
   clear hm
   intro wz hm
   refine wpList_nil ?_
   refine hK _ _ hm.tail ?_
   clear hK K
   refine wpAnyH_done (by kernel_rfl) ?_ _
   simp only [endsIn]
   go_wp2_with (first
    | ((with_reducible refine ae (some 20) (.sliceToArrayPointer 168 (.tmp 19)) ?_);go_must (refine da 16 cW (by omega) rfl ?_))
    | ((with_reducible refine ae (some 21) (.load 168 (.tmp 20)) ?_);refine fu 0 0 (u8s G) hm rfl rfl _ cW rfl 16 cM (by rw [HXL.out];omega) (HXG.out) ?_)
    | ((with_reducible refine ae none (.store 168 (.tmp 8) (.tmp 21)) ?_);refine ah 2 (u8s G) hm rfl rfl rfl 16 cM (by simp [aa]) (HGL.out) (ai _) ?_;clear hm;intro wy hm))
   exact aH 2 hm rfl Tryz.results145 rfl _ cW rfl 16 cM HGL.out rfl ⟨by rw [HGG.out ()],hm.below⟩
  ·refine aL 6 rfl rfl ?_
   intro K hK
   refine gO _ bz hm ?_
   clear hm
   intro wa g10 hb hm
   have HS':Hid (SlOld wa vm M):=SlOld.below HS.out hb
   clear HS hb
   have HS:=HS'
   refine wpList_nil ?_
   refine hK _ _ hm.tail ?_
   clear hK K
   refine aP 5 (by kernel_rfl) rfl rfl ?_
   intro K hK
   obtain ⟨pm,cm,hvm,_⟩:=HS.out.len
   subst hvm
   go_wp2_with (go_at_call 146;refine (jT E M _ _ HEB.out HMB.out (by rw [HEL.out];omega) HML.out _ (Tab.mem HT.out hm (by simp)) (a8 (hm.get 1 rfl) HEL.out (Nat.le_refl _)) HS.out).mono ?_;rintro e wx ⟨he,hb⟩;rw [HXX.out ()] at he;subst he;replace hm:=hm.call hb;clear hb)
   refine hK _ _ hm.tail ?_
   clear hK K
   refine aP 7 (by kernel_rfl) rfl rfl ?_
   intro K hK
   refine ah 0 (u8s X) hm rfl rfl rfl 32 bB (by simp [aa]) HXL.out (ai _) ?_
   clear hm
   intro wz hm
   refine wpList_nil ?_
   refine hK _ _ hm.tail ?_
   clear hK K
   refine wpAnyH_done (by kernel_rfl) ?_ _
   simp only [endsIn]
   go_wp2_with (first
    | ((with_reducible refine ae (some 20) (.sliceToArrayPointer 168 (.tmp 19)) ?_);go_must (refine da 16 cW (by omega) rfl ?_))
    | ((with_reducible refine ae (some 21) (.load 168 (.tmp 20)) ?_);refine fu 0 0 (u8s G) hm rfl rfl _ cW rfl 16 cM (by rw [HXL.out];omega) (HXG.out) ?_)
    | ((with_reducible refine ae none (.store 168 (.tmp 8) (.tmp 21)) ?_);refine ah 2 (u8s G) hm rfl rfl rfl 16 cM (by simp [aa]) (HGL.out) (ai _) ?_;clear hm;intro wy hm))
   exact aH 2 hm rfl Tryz.results145 rfl _ cW rfl 16 cM HGL.out rfl ⟨by rw [HGG.out ()],hm.below⟩
 ·refine aL 6 rfl rfl ?_
  intro K hK
  refine gO _ bz hm ?_
  clear hm
  intro wa g10 hb hm
  clear hb
  refine wpList_nil ?_
  refine hK _ _ hm.tail ?_
  clear hK K
  refine aP 4 (by kernel_rfl) rfl rfl ?_
  intro K hK
  go_wp2_with (go_at_call 181;refine (jE ns ds cs _ _ HNL.out hal hcl _ (SlOld.mem HA.out hm) (SlOld.mem HC.out hm)).mono ?_;rintro e wm ⟨vm,he,hs,hb⟩;subst he;rw [HMM.out ()] at hs;have HS:Hid (SlOld wm vm M):=hs;replace hm:=hm.call hb;clear hb hs)
  refine hK _ _ hm.tail ?_
  clear hK K
  refine aP 5 (by kernel_rfl) rfl rfl ?_
  intro K hK
  obtain ⟨pm,cm,hvm,_⟩:=HS.out.len
  subst hvm
  go_wp2_with (go_at_call 146;refine (jT E M _ _ HEB.out HMB.out (by rw [HEL.out];omega) HML.out _ (Tab.mem HT.out hm (by simp)) (a8 (hm.get 1 rfl) HEL.out (Nat.le_refl _)) HS.out).mono ?_;rintro e wx ⟨he,hb⟩;rw [HXX.out ()] at he;subst he;replace hm:=hm.call hb;clear hb)
  refine hK _ _ hm.tail ?_
  clear hK K
  refine aP 7 (by kernel_rfl) rfl rfl ?_
  intro K hK
  refine ah 0 (u8s X) hm rfl rfl rfl 32 bB (by simp [aa]) HXL.out (ai _) ?_
  clear hm
  intro wz hm
  refine wpList_nil ?_
  refine hK _ _ hm.tail ?_
  clear hK K
  refine wpAnyH_done (by kernel_rfl) ?_ _
  simp only [endsIn]
  go_wp2_with (first
   | ((with_reducible refine ae (some 20) (.sliceToArrayPointer 168 (.tmp 19)) ?_);go_must (refine da 16 cW (by omega) rfl ?_))
   | ((with_reducible refine ae (some 21) (.load 168 (.tmp 20)) ?_);refine fu 0 0 (u8s G) hm rfl rfl _ cW rfl 16 cM (by rw [HXL.out];omega) (HXG.out) ?_)
   | ((with_reducible refine ae none (.store 168 (.tmp 8) (.tmp 21)) ?_);refine ah 2 (u8s G) hm rfl rfl rfl 16 cM (by simp [aa]) (HGL.out) (ai _) ?_;clear hm;intro wy hm))
  exact aH 2 hm rfl Tryz.results145 rfl _ cW rfl 16 cM HGL.out rfl ⟨by rw [HGG.out ()],hm.below⟩
theorem k6 (ks ns ds ms:List Int) (va vp:Value) (hkl:ks.length=32) (hnl:ns.length=12) (hkb:Bytes ks) (hnb:Bytes ns) (hdb:Bytes ds) (hmb:Bytes ms) (hal:ds.length≤20000) (hml:ms.length≤20000) (w:World) (ht:Tab w) (hq:QTab w) (hva:SlOld w va ds) (hvp:SlOld w vp ms) :
  Calls Tryz.prog 106 #[.agg (u8s ks).toArray,.agg (u8s ns).toArray,va,vp] w fun e w'=>∃g cap l,e=.returned (.slice (some ⟨g,0,none⟩) (ms.length+16) cap)∧ms.length+16≤cap∧w.heap.size≤g∧Row w' g (u8s (sealOf ks ns ds ms)++l) 5∧Below w.heap.size w w':=by
 obtain ⟨pa,ca,rfl,_⟩:=hva.len
 obtain ⟨pp,cp,rfl,_⟩:=hvp.len
 have hm:=Mem.start w
 have HT:Hid _:=ht
 have HKL:Hid _:=hkl
 have HNL:Hid _:=hnl
 have HKB:Hid _:=hkb
 have HNB:Hid _:=hnb
 have HKU:Hid ((u8s ks).length=32):=by show _=_;rw [aa];exact hkl
 have HNU:Hid ((u8s ns).length=12):=by show _=_;rw [aa];exact hnl
 have HQ:Hid _:=hq
 have HDB:Hid _:=hdb
 have HA:Hid (SlOld w (.slice pa ds.length ca) ds):=hva
 have HP:Hid (SlOld w (.slice pp ms.length cp) ms):=hvp
 obtain ⟨C,hC⟩:∃C,C=encOf ks ns ms:=⟨_,rfl⟩
 have HCC:Hid (∀_:Unit,encOf ks ns ms=C):=fun _=>hC.symm
 have HCB:Hid (Bytes C):=by rw [hC];exact fR _ _ hmb
 have HCL:Hid (C.length=ms.length):=by show _=_;rw [hC,cC]
 obtain ⟨G,hG⟩:∃G,G=tagOf ks ns ds C:=⟨_,rfl⟩
 have HGG:Hid (∀_:Unit,tagOf ks ns ds C=G):=fun _=>hG.symm
 have HGL:Hid (G.length=16):=by show _=_;rw [hG,dn]
 have HGU:Hid ((u8s G).length=16):=by show _=_;rw [aa];exact HGL.out
 have HSL:Hid (∀_:Unit,sealOf ks ns ds ms=C++G):=fun _=>by rw [hG,hC];rfl
 have hty:∀(a b c:Nat),∀r∈[(a,u8s G,(168:TypeId)),(b,u8s ns,(139:TypeId)),(c,u8s ks,(43:TypeId))],r.2.2≠5:=by
  intro a b c r hr
  simp only [List.mem_cons,List.not_mem_nil,or_false] at hr
  rcases hr with rfl|rfl|rfl<;>simp
 have HTY:Hid _:=hty
 clear ht hq hkl hnl hkb hnb hdb hmb hva hvp hC hG hty
 go_enter Tryz.func106,Tryz.ntmps106
 go_wp2_with (first
  | ((with_reducible refine ae (some 4) (.box 43 (.tmp 0)) ?_);refine az (u8s ks) rfl hm ?_;clear hm;intro w1 g4 hm)
  | ((with_reducible refine ae (some 5) (.box 139 (.tmp 1)) ?_);refine az (u8s ns) rfl hm ?_;clear hm;intro w2 g5 hm)
  | ((with_reducible refine ae (some 11) (.load 43 (.tmp 4)) ?_);refine av 1 hm rfl rfl _ aw rfl 32 aq (HKU.out) ?_)
  | ((with_reducible refine ae (some 12) (.load 139 (.tmp 5)) ?_);refine av 0 hm rfl rfl _ dK rfl 12 dI (HNU.out) ?_)
  | (go_at_call 144;refine (kW ks ns ms _ HKL.out HNL.out HKB.out HNB.out (by omega) _ (Tab.mem HT.out hm (by simp)) (QTab.mem HQ.out hm (by simp)) (SlOld.mem HP.out hm)).mono ?_;rintro e w3 ⟨gc,he,hge,hr,hb⟩;subst he;rw [HCC.out ()] at hr;replace hm:=hm.callNew hb hr hge;clear hb hr hge)
  | ((with_reducible refine ae (some 15) (.load 43 (.tmp 4)) ?_);refine av 2 hm rfl rfl _ aw rfl 32 aq (HKU.out) ?_)
  | ((with_reducible refine ae (some 16) (.load 139 (.tmp 5)) ?_);refine av 1 hm rfl rfl _ dK rfl 12 dI (HNU.out) ?_)
  | (go_at_call 145;refine (tag_any ks ns ds C _ _ HKL.out HNL.out HKB.out HNB.out HDB.out HCB.out hal (by rw [HCL.out];exact hml) _ (Tab.mem HT.out hm (by simp)) (SlOld.mem HA.out hm) (a8 (hm.get 0 rfl) HCL.out (Nat.le_refl _))).mono ?_;rintro e w4 ⟨he,hb⟩;rw [HGG.out ()] at he;subst he;replace hm:=hm.call hb;clear hb)
  | ((with_reducible refine ae (some 10) (.alloc 168) ?_);refine ag _ fZ hm ?_;clear hm;intro w5 g10 hm)
  | ((with_reducible refine ae none (.store 168 (.tmp 10) (.tmp 19)) ?_);refine ah 0 (u8s G) hm rfl rfl rfl 16 cM (by simp [aa]) (HGU.out) (ai _) ?_;clear hm;intro w6 hm;have HOW:Hid (OwnB 5 w6 w.heap.size (.slice (some ⟨gc,0,none⟩) ms.length ms.length) C):=(by rw [←HCL.out];exact own_row (hm.get 1 rfl) (by have hf:=hm.fresh _ (List.mem_cons_of_mem _ (List.mem_cons_self ..));simpa using hf) (by rw [HCL.out];omega));replace hm:=hm.two')
  | ((with_reducible refine ae (some 22) (.call {callee:=.builtin .append,args:=#[.tmp 20,.tmp 21],argTypes:=#[56,56]}) ?_);go_must (refine dO rfl aF bF G hm HOW.out (HTY.out _ _ _) rfl rfl HGL.out.symm (fun _=>⟨g10,0,rfl,Seg.row (hm.get 0 rfl)⟩) (by rw [HCL.out,HGL.out];omega) ?_);clear hm;intro v22 w7 ho hm;have HO:Hid (OwnB 5 w7 w.heap.size v22 (C++G)):=ho;clear ho HOW))
 go_ret
 obtain ⟨g,cap,l,hv,hge,hr,hc⟩:=OwnB.row HO.out (by rw [List.length_append,HGL.out];omega)
 rw [List.length_append,HGL.out,HCL.out] at hv hc
 exact ⟨g,cap,l,by rw [hv];rfl,hc,hge,by rw [HSL.out ()];exact hr,hm.below⟩
open Go Go.RowKit
theorem cutHi_some (g o cap:Nat):cutHi (some ⟨g,o,none⟩) cap=some ⟨g,o,none⟩:=by
 unfold cutHi
 split
 ·rfl
 ·simp [bK]
theorem cutLo_some (g o cap l:Nat) (h:l<cap):cutLo (some ⟨g,o,none⟩) cap l=some ⟨g,o+l,none⟩:=by
 unfold cutLo
 rw [if_neg (by omega)]
 simp [bK]
section
variable {P:Program} {a:Act} {w:World} {dst:Option Tmp} {typ:TypeId} {pos:String} {aft:Array Edge} {gd:Option (Nat×Bool)}
theorem exec_hiS {ty:TypeId} {x hi:Operand} {elem:TypeId} (hu:P.underlying ty=some (.slice elem)) (hs:(P.info? elem).map (·.size)=some 1) {g o len cap:Nat} (m:Nat) {ih:Int} (hm:m≤cap) (hx:a.eval x=.slice (some ⟨g,o,none⟩) len cap) (hhi:a.eval hi=.int .i64 ih) (hih:ih=(m:Int)) :
  (execOp a.eval {dst:=dst,op:=.slice ty x none (some hi) none,type:=typ,pos:=pos,after:=aft,guard:=gd}).run P w=.ok (.value (.slice (some ⟨g,o,none⟩) m cap)) w:=by
 have h:=iI (P:=P) (a:=a) (w:=w) (dst:=dst) (typ:=typ) (pos:=pos) (aft:=aft) (gd:=gd) hu hs m hm hx hhi hih
 rw [cutHi_some] at h
 exact h
theorem exec_loS {ty:TypeId} {x lo:Operand} {elem:TypeId} (hu:P.underlying ty=some (.slice elem)) (hs:(P.info? elem).map (·.size)=some 1) {g o len cap:Nat} (l m:Nat) {il:Int} (hl:l≤len) (hlc:l<cap) (hlm:len - l=m) (hx:a.eval x=.slice (some ⟨g,o,none⟩) len cap) (hlo:a.eval lo=.int .i64 il) (hil:il=(l:Int)) :
  (execOp a.eval {dst:=dst,op:=.slice ty x (some lo) none none,type:=typ,pos:=pos,after:=aft,guard:=gd}).run P w=.ok (.value (.slice (some ⟨g,o+l,none⟩) m (cap - l))) w:=by
 subst hlm
 have h:=exec_sLo (P:=P) (a:=a) (w:=w) (dst:=dst) (typ:=typ) (pos:=pos) (aft:=aft) (gd:=gd) hu hs l hl hx hlo hil
 rw [cutLo_some _ _ _ _ hlc] at h
 exact h
end
theorem kr (bs:List Int) (b off cap n:Nat) (hn:bs.length=n+16) (hnl:n≤60000) (hcap:n+16≤cap) (w:World) (hs:Seg w b off bs) :
  Calls Tryz.prog 177 #[.slice (some ⟨b,off,none⟩) (n+16) cap] w fun e w'=>e=.returned (.tuple #[.slice (some ⟨b,off,none⟩) n cap,.agg (u8s (bs.drop n)).toArray])∧Below w.heap.size w w':=by
 have hm:=Mem.start w
 have HSG:Hid (Seg w b off bs):=hs
 obtain ⟨D,hD⟩:∃D,D=bs.drop n:=⟨_,rfl⟩
 have HDD:Hid (∀_:Unit,bs.drop n=D):=fun _=>hD.symm
 have HDL:Hid (D.length=16):=by show _=_;rw [hD,List.length_drop];omega
 have HDU:Hid ((u8s D).length=16):=by show _=_;rw [aa];exact HDL.out
 rw [←hD]
 clear hs hD hn
 go_enter Tryz.func177,Tryz.ntmps177
 go_wp2_with (first
  | ((with_reducible refine ae (some 3) (.alloc 168) ?_);refine ag _ fZ hm ?_;clear hm;intro w1 g3 hm))
 refine aA ?_
 refine aZ (T:=fun W=>Mem w [] W []) (by kernel_rfl) hm ?_
 clear hm
 intro w2 hm
 refine aG 0 (v:=.slice (some ⟨b,off,none⟩) (n+16) cap) rfl (by kernel_rfl) rfl (fun W _=>by go_simp) hm.tail ?_
 go_simp
 refine aG 1 (v:=.int .i64 (n:Int)) rfl (by kernel_rfl) rfl (fun W _=>by go_simp) hm.tail ?_
 go_simp
 refine aG 2 (v:=.slice (some ⟨b,off,none⟩) n cap) rfl (by kernel_rfl) rfl (fun W _=>exec_hiS aF aQ n (by omega) rfl rfl rfl) hm.tail ?_
 go_simp
 refine aG 3 (v:=.slice (some ⟨b,off,none⟩) (n+16) cap) rfl (by kernel_rfl) rfl (fun W _=>by go_simp) hm.tail ?_
 go_simp
 refine aG 4 (v:=.int .i64 (n:Int)) rfl (by kernel_rfl) rfl (fun W _=>by go_simp) hm.tail ?_
 go_simp
 refine aG 5 (v:=.slice (some ⟨b,off+n,none⟩) 16 (cap - n)) rfl (by kernel_rfl) rfl (fun W _=>exec_loS aF aQ n 16 (by omega) (by omega) (by omega) rfl rfl rfl) hm.tail ?_
 go_simp
 refine aG 6 (v:=.pointer (some ⟨b,off+n,none⟩)) rfl (by kernel_rfl) rfl (fun W _=>eG 16 cW (by omega) rfl) hm.tail ?_
 go_simp
 refine aG 7 (v:=.agg (u8s D).toArray) rfl (by kernel_rfl) rfl (fun W hW=>exec_ldS D rfl (by rw [←HDD.out ()];exact (Seg.mem HSG.out hW (by simp)).drop n) _ cW rfl 16 cM HDL.out) hm.tail ?_
 go_simp
 refine aG 8 (v:=.slice (some ⟨b,off,none⟩) n cap) rfl (by kernel_rfl) rfl (fun W _=>by go_simp) hm.tail ?_
 go_simp
 refine aP 9 (by kernel_rfl) rfl rfl ?_
 intro K hK
 refine ah 0 (u8s D) hm rfl rfl rfl 16 cM (by simp [aa]) HDU.out (ai _) ?_
 clear hm
 intro w3 hm
 refine wpList_nil ?_
 refine hK _ _ hm.tail ?_
 clear hK K
 refine wpAnyH_done (by kernel_rfl) ?_ _
 simp only [endsIn]
 go_wp2_with fail
 exact ret_tc 0 _ hm rfl Tryz.results177 rfl rfl _ cW rfl 16 cM HDU.out rfl ⟨rfl,hm.below⟩
theorem jb (ks ns ds bs:List Int) (va:Value) (b off cap n:Nat) (hn:bs.length=n+16) (hcap:n+16≤cap) (hf:bs.drop n=tagOf ks ns ds (bs.take n)) (hkl:ks.length=32) (hnl:ns.length=12) (hkb:Bytes ks) (hnb:Bytes ns) (hdb:Bytes ds) (hbb:Bytes bs) (hal:ds.length≤20000) (hbl:bs.length≤20000) (w:World) (ht:Tab w) (hq:QTab w) (hva:SlOld w va ds) (hs:Seg w b off bs) :
  Calls Tryz.prog 141 #[.agg (u8s ks).toArray,.agg (u8s ns).toArray,va,.slice (some ⟨b,off,none⟩) (n+16) cap] w fun e w'=>∃g,e=.returned (.tuple #[.slice (some ⟨g,0,none⟩) n n,.int .i64 0])∧w.heap.size≤g∧Row w' g (u8s (encOf ks ns (bs.take n))) 5∧Below w.heap.size w w':=by
 obtain ⟨pa,ca,rfl,_⟩:=hva.len
 have hm:=Mem.start w
 have HT:Hid _:=ht
 have HKL:Hid _:=hkl
 have HNL:Hid _:=hnl
 have HKB:Hid _:=hkb
 have HNB:Hid _:=hnb
 have HKU:Hid ((u8s ks).length=32):=by show _=_;rw [aa];exact hkl
 have HNU:Hid ((u8s ns).length=12):=by show _=_;rw [aa];exact hnl
 have HQ:Hid _:=hq
 have HDB:Hid _:=hdb
 have HA:Hid (SlOld w (.slice pa ds.length ca) ds):=hva
 have HSG:Hid (Seg w b off bs):=hs
 obtain ⟨C,hC⟩:∃C,C=bs.take n:=⟨_,rfl⟩
 have HCL:Hid (C.length=n):=by show _=_;rw [hC,List.length_take];omega
 have HCB:Hid (Bytes C):=by rw [hC];exact hbb.take _
 have HCS:Hid (∀W,Seg W b off bs→SlOld W (.slice (some ⟨b,off,none⟩) n cap) C):=fun W h=>by
  rw [←HCL.out]
  exact ⟨_,_,rfl,by rw [HCL.out];omega,fun _=>⟨b,off,rfl,by rw [hC];exact h.take n⟩⟩
 obtain ⟨D,hD⟩:∃D,D=bs.drop n:=⟨_,rfl⟩
 have HDD:Hid (∀_:Unit,bs.drop n=D):=fun _=>hD.symm
 have HDL:Hid (D.length=16):=by show _=_;rw [hD,List.length_drop];omega
 have HDU:Hid ((u8s D).length=16):=by show _=_;rw [aa];exact HDL.out
 obtain ⟨G,hG⟩:∃G,G=tagOf ks ns ds C:=⟨_,rfl⟩
 have HGG:Hid (∀_:Unit,tagOf ks ns ds C=G):=fun _=>hG.symm
 have HGL:Hid (G.length=16):=by show _=_;rw [hG,dn]
 have HDG:Hid ((!decide (D=G))=false):=by
  show _=_
  rw [←hC,←hD,←hG] at hf
  simp [hf]
 have HN:Hid (bs.length=n+16):=hn
 have hnl2:n≤20000:=by omega
 have HC2:Hid (∀_:Unit,bs.take n=C):=fun _=>hC.symm
 clear ht hq hkl hnl hkb hnb hdb hbb hva hs hC hD hG hf hn hbl
 go_enter Tryz.func141,Tryz.ntmps141
 go_wp2_with (first
  | ((with_reducible refine ae (some 4) (.box 43 (.tmp 0)) ?_);refine az (u8s ks) rfl hm ?_;clear hm;intro w1 g4 hm)
  | ((with_reducible refine ae (some 5) (.box 139 (.tmp 1)) ?_);refine az (u8s ns) rfl hm ?_;clear hm;intro w2 g5 hm)
  | (go_at_call 177;refine (kr bs b off cap n HN.out (by omega) hcap _ (Seg.mem HSG.out hm (by simp))).mono ?_;rintro e w3 ⟨he,hb⟩;rw [HDD.out ()] at he;subst he;replace hm:=hm.call hb;clear hb)
  | ((with_reducible refine ae (some 11) (.alloc 168) ?_);refine ag _ fZ hm ?_;clear hm;intro w4 g11 hm)
  | ((with_reducible refine ae none (.store 168 (.tmp 11) (.tmp 19)) ?_);refine ah 0 (u8s D) hm rfl rfl rfl 16 cM (by simp [aa]) (HDU.out) (ai _) ?_;clear hm;intro w5 hm))
 refine aA ?_
 refine aZ (T:=fun W=>Mem w [] W [(g11,u8s D,168),(g5,u8s ns,139),(g4,u8s ks,43)]) (by kernel_rfl) hm ?_
 clear hm
 intro w6 hm
 refine aG 0 (v:=.agg (u8s D).toArray) rfl (by kernel_rfl) rfl (fun W hW=>au 0 _ (Mem.get hW 0 rfl) rfl _ cW rfl 16 cM (by rw [HDU.out];omega) (by rw [List.drop_zero,List.take_of_length_le (Nat.le_of_eq HDU.out)])) hm ?_
 go_simp
 refine aG 1 (v:=.agg (u8s ks).toArray) rfl (by kernel_rfl) rfl (fun W hW=>au 0 _ (Mem.get hW 2 rfl) rfl _ aw rfl 32 aq (by rw [HKU.out];omega) (by rw [List.drop_zero,List.take_of_length_le (Nat.le_of_eq HKU.out)])) hm ?_
 go_simp
 refine aG 2 (v:=.agg (u8s ns).toArray) rfl (by kernel_rfl) rfl (fun W hW=>au 0 _ (Mem.get hW 1 rfl) rfl _ dK rfl 12 dI (by rw [HNU.out];omega) (by rw [List.drop_zero,List.take_of_length_le (Nat.le_of_eq HNU.out)])) hm ?_
 go_simp
 refine aG 3 (v:=.slice pa ds.length ca) rfl (by kernel_rfl) rfl (fun W _=>by go_simp) hm ?_
 go_simp
 refine aG 4 (v:=.slice (some ⟨b,off,none⟩) n cap) rfl (by kernel_rfl) rfl (fun W _=>by go_simp) hm ?_
 go_simp
 refine aP 5 (by kernel_rfl) rfl rfl ?_
 intro K hK
 go_wp2_with (go_at_call 145;refine (tag_any ks ns ds C _ _ HKL.out HNL.out HKB.out HNB.out HDB.out HCB.out hal (by rw [HCL.out];exact hnl2) _ (Tab.mem HT.out hm (by simp)) (SlOld.mem HA.out hm) (HCS.out _ (Seg.mem HSG.out hm (by simp)))).mono ?_;rintro e w7 ⟨he,hb⟩;rw [HGG.out ()] at he;subst he;replace hm:=hm.call hb;clear hb)
 refine hK _ _ hm ?_
 clear hK K
 refine aG 6 (v:=.bool false) rfl (by kernel_rfl) rfl (fun W _=>exec_nea _ 16 .u8 D G _ HDG.out rfl rfl cW b7 aQ eg_tag HDL.out HGL.out) hm ?_
 go_simp
 refine wpAnyH_done (by kernel_rfl) ?_ _
 simp only [endsIn]
 go_wp2_with (first
  | ((with_reducible refine ae (some 27) (.load 43 (.tmp 4)) ?_);refine av 2 hm rfl rfl _ aw rfl 32 aq (HKU.out) ?_)
  | ((with_reducible refine ae (some 28) (.load 139 (.tmp 5)) ?_);refine av 1 hm rfl rfl _ dK rfl 12 dI (HNU.out) ?_)
  | (go_at_call 144;refine (kW ks ns C _ HKL.out HNL.out HKB.out HNB.out (by rw [HCL.out];omega) _ (Tab.mem HT.out hm (by simp)) (QTab.mem HQ.out hm (by simp)) (HCS.out _ (Seg.mem HSG.out hm (by simp)))).mono ?_;rintro e w8 ⟨g,he,hge,hr,hb⟩;rw [HCL.out] at he;subst he;replace hm:=hm.callNew hb hr hge;clear hb hr hge))
 refine bodyPost_ret (results_tmp2 Tryz.results141 _ _ _) rfl ?_
 have hf:=hm.fresh _ (List.mem_cons_self ..)
 exact ⟨g,rfl,by simpa using hf,by rw [HC2.out ()];exact hm.get 0 rfl,hm.below⟩
theorem kL (ks ns ds bs:List Int) (va:Value) (b off cap n:Nat) (hn:bs.length=n+16) (hcap:n+16≤cap) (hf:bs.drop n≠tagOf ks ns ds (bs.take n)) (hkl:ks.length=32) (hnl:ns.length=12) (hkb:Bytes ks) (hnb:Bytes ns) (hdb:Bytes ds) (hbb:Bytes bs) (hal:ds.length≤20000) (hbl:bs.length≤20000) (w:World) (ht:Tab w) (hq:QTab w) (hva:SlOld w va ds) (hs:Seg w b off bs) :
  Calls Tryz.prog 141 #[.agg (u8s ks).toArray,.agg (u8s ns).toArray,va,.slice (some ⟨b,off,none⟩) (n+16) cap] w fun e w'=>e=.returned (.tuple #[.slice none 0 0,.int .i64 50])∧Below w.heap.size w w':=by
 obtain ⟨pa,ca,rfl,_⟩:=hva.len
 have hm:=Mem.start w
 have HT:Hid _:=ht
 have HKL:Hid _:=hkl
 have HNL:Hid _:=hnl
 have HKB:Hid _:=hkb
 have HNB:Hid _:=hnb
 have HKU:Hid ((u8s ks).length=32):=by show _=_;rw [aa];exact hkl
 have HNU:Hid ((u8s ns).length=12):=by show _=_;rw [aa];exact hnl
 have HQ:Hid _:=hq
 have HDB:Hid _:=hdb
 have HA:Hid (SlOld w (.slice pa ds.length ca) ds):=hva
 have HSG:Hid (Seg w b off bs):=hs
 obtain ⟨C,hC⟩:∃C,C=bs.take n:=⟨_,rfl⟩
 have HCL:Hid (C.length=n):=by show _=_;rw [hC,List.length_take];omega
 have HCB:Hid (Bytes C):=by rw [hC];exact hbb.take _
 have HCS:Hid (∀W,Seg W b off bs→SlOld W (.slice (some ⟨b,off,none⟩) n cap) C):=fun W h=>by
  rw [←HCL.out]
  exact ⟨_,_,rfl,by rw [HCL.out];omega,fun _=>⟨b,off,rfl,by rw [hC];exact h.take n⟩⟩
 obtain ⟨D,hD⟩:∃D,D=bs.drop n:=⟨_,rfl⟩
 have HDD:Hid (∀_:Unit,bs.drop n=D):=fun _=>hD.symm
 have HDL:Hid (D.length=16):=by show _=_;rw [hD,List.length_drop];omega
 have HDU:Hid ((u8s D).length=16):=by show _=_;rw [aa];exact HDL.out
 obtain ⟨G,hG⟩:∃G,G=tagOf ks ns ds C:=⟨_,rfl⟩
 have HGG:Hid (∀_:Unit,tagOf ks ns ds C=G):=fun _=>hG.symm
 have HGL:Hid (G.length=16):=by show _=_;rw [hG,dn]
 have HDG:Hid ((!decide (D=G))=true):=by
  show _=_
  rw [←hC,←hD,←hG] at hf
  simp [hf]
 have HN:Hid (bs.length=n+16):=hn
 have hnl2:n≤20000:=by omega
 have HC2:Hid (∀_:Unit,bs.take n=C):=fun _=>hC.symm
 clear ht hq hkl hnl hkb hnb hdb hbb hva hs hC hD hG hf hn hbl
 go_enter Tryz.func141,Tryz.ntmps141
 go_wp2_with (first
  | ((with_reducible refine ae (some 4) (.box 43 (.tmp 0)) ?_);refine az (u8s ks) rfl hm ?_;clear hm;intro w1 g4 hm)
  | ((with_reducible refine ae (some 5) (.box 139 (.tmp 1)) ?_);refine az (u8s ns) rfl hm ?_;clear hm;intro w2 g5 hm)
  | (go_at_call 177;refine (kr bs b off cap n HN.out (by omega) hcap _ (Seg.mem HSG.out hm (by simp))).mono ?_;rintro e w3 ⟨he,hb⟩;rw [HDD.out ()] at he;subst he;replace hm:=hm.call hb;clear hb)
  | ((with_reducible refine ae (some 11) (.alloc 168) ?_);refine ag _ fZ hm ?_;clear hm;intro w4 g11 hm)
  | ((with_reducible refine ae none (.store 168 (.tmp 11) (.tmp 19)) ?_);refine ah 0 (u8s D) hm rfl rfl rfl 16 cM (by simp [aa]) (HDU.out) (ai _) ?_;clear hm;intro w5 hm))
 refine aA ?_
 refine aZ (T:=fun W=>Mem w [] W [(g11,u8s D,168),(g5,u8s ns,139),(g4,u8s ks,43)]) (by kernel_rfl) hm ?_
 clear hm
 intro w6 hm
 refine aG 0 (v:=.agg (u8s D).toArray) rfl (by kernel_rfl) rfl (fun W hW=>au 0 _ (Mem.get hW 0 rfl) rfl _ cW rfl 16 cM (by rw [HDU.out];omega) (by rw [List.drop_zero,List.take_of_length_le (Nat.le_of_eq HDU.out)])) hm ?_
 go_simp
 refine aG 1 (v:=.agg (u8s ks).toArray) rfl (by kernel_rfl) rfl (fun W hW=>au 0 _ (Mem.get hW 2 rfl) rfl _ aw rfl 32 aq (by rw [HKU.out];omega) (by rw [List.drop_zero,List.take_of_length_le (Nat.le_of_eq HKU.out)])) hm ?_
 go_simp
 refine aG 2 (v:=.agg (u8s ns).toArray) rfl (by kernel_rfl) rfl (fun W hW=>au 0 _ (Mem.get hW 1 rfl) rfl _ dK rfl 12 dI (by rw [HNU.out];omega) (by rw [List.drop_zero,List.take_of_length_le (Nat.le_of_eq HNU.out)])) hm ?_
 go_simp
 refine aG 3 (v:=.slice pa ds.length ca) rfl (by kernel_rfl) rfl (fun W _=>by go_simp) hm ?_
 go_simp
 refine aG 4 (v:=.slice (some ⟨b,off,none⟩) n cap) rfl (by kernel_rfl) rfl (fun W _=>by go_simp) hm ?_
 go_simp
 refine aP 5 (by kernel_rfl) rfl rfl ?_
 intro K hK
 go_wp2_with (go_at_call 145;refine (tag_any ks ns ds C _ _ HKL.out HNL.out HKB.out HNB.out HDB.out HCB.out hal (by rw [HCL.out];exact hnl2) _ (Tab.mem HT.out hm (by simp)) (SlOld.mem HA.out hm) (HCS.out _ (Seg.mem HSG.out hm (by simp)))).mono ?_;rintro e w7 ⟨he,hb⟩;rw [HGG.out ()] at he;subst he;replace hm:=hm.call hb;clear hb)
 refine hK _ _ hm ?_
 clear hK K
 refine aG 6 (v:=.bool true) rfl (by kernel_rfl) rfl (fun W _=>exec_nea _ 16 .u8 D G _ HDG.out rfl rfl cW b7 aQ eg_tag HDL.out HGL.out) hm ?_
 go_simp
 refine wpAnyH_done (by kernel_rfl) ?_ _
 simp only [endsIn]
 go_wp2_with fail
 refine bodyPost_ret (results_tmp2 Tryz.results141 _ _ _) rfl ?_
 exact ⟨rfl,hm.below⟩
def openCode (k n a b:List Int):Int:=if b.length<16 then 10 else if fits k n a b then 0 else 50
def openOf (k n a b:List Int):List Int:=if b.length<16 then [] else if fits k n a b then encOf k n (b.take (b.length - 16)) else []
theorem SlOld.some {w:World} {v:Value} {cs:List Int} (h:SlOld w v cs) (h0:0<cs.length):∃b off cap,v=.slice (some ⟨b,off,none⟩) cs.length cap∧cs.length≤cap∧Seg w b off cs:=by
 obtain ⟨p,cap,hv,hc,hs⟩:=h
 obtain ⟨b,off,hp,hseg⟩:=hs h0
 subst hp
 exact ⟨b,off,cap,hv,hc,hseg⟩
end Go.Proofs.YtlpnafdkhoimhaaGreatDoor
