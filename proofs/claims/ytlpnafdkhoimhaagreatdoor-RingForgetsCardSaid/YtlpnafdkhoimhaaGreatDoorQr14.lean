import Derived.Laws.StructEq
import Derived.DeepKeys4
import Derived.Laws.CopyOwn
import Derived.Test.YtlpnafdkhoimhaaGreatDoorQr13
set_option maxRecDepth 100000
set_option maxHeartbeats 4000000
namespace Go.Proofs.YtlpnafdkhoimhaaGreatDoor
open Go Go.RowKit Go.Maps
theorem aI:Tryz.prog.underlying 76=some (.array 3 9):=Tryz.underlying76
theorem info_rp:(Tryz.prog.info? 76).map (fun i=>(i.zero,i.size))=some (some (.agg [.string ByteArray.empty,.string ByteArray.empty,.string ByteArray.empty].toArray),3):=by kernel_rfl
theorem aR:∀w,(zeroValue 76).run Tryz.prog w=.ok (.agg [.string ByteArray.empty,.string ByteArray.empty,.string ByteArray.empty].toArray) w:=(zero_of_info info_rp).1
theorem ax:(Tryz.prog.info? 76).map (·.size)=some 3:=(zero_of_info info_rp).2
theorem plv3 (ks:List ByteArray):(plv ks).length=3:=rfl
theorem aB (ks:List ByteArray):∀v∈plv ks,v.oneCell'=true:=by intro v hv;simp [plv] at hv;rcases hv with rfl|rfl|rfl<;>rfl
theorem jX {ks:List ByteArray} (h:PlOk ks) (n:Nat):PlOk (ks.take n):=⟨by have:=h.len;simp;omega,fun k hk=>h.seg k (List.mem_of_mem_take hk)⟩
theorem pl_laid:laidOutB Tryz.prog=true:=by kernel_rfl
theorem pl_row:(76:TypeId)<Tryz.prog.types.size:=of_decide_eq_true (by kernel_rfl)
theorem pl_wide:(match Tryz.prog.underlying 76 with|some (.array _ _)|some (.struct _)=>true|_=>false)=true:=by kernel_rfl
theorem dD:Keyed Tryz.prog 76:=Keyed.of_law (deep_law_laid pl_laid (m:=2) (by omega) pl_row (by kernel_rfl) pl_wide)
theorem pl_type:Tryz.prog.keyType 76=true:=by kernel_rfl
theorem pl_cells:Tryz.prog.cellsOf 76=3:=by kernel_rfl
theorem str_cells:Tryz.prog.cellsOf 9=1:=by kernel_rfl
theorem str_lit (n:Nat) (s:ByteArray) (h:s.size≤1000):∃ls,Tryz.prog.keyLits (n+1) 9 [.string s]=some ls:=by
 unfold Program.keyLits
 simp only [gu]
 exact ⟨_,if_pos (by simp [maxLen];omega)⟩
theorem je {ks:List ByteArray} (h:PlOk ks):∃kl,keyOf Tryz.prog 76 (.agg (plv ks).toArray)=some kl:=by
 obtain ⟨n,hn⟩:=kc
 have hf:(Value.agg (plv ks).toArray).formed Tryz.prog 76=true:=by
  simp [Value.formed,pl_cells,plv]
 have hz:∀i,(ks.getD i noStr).size≤1000:=by
  intro i
  by_cases hi:i<ks.length
  ·have e:ks.getD i noStr=ks[i]:=by simp [hi]
   rw [e]
   have:=(h.size (List.getElem_mem hi)).2
   omega
  ·have e:ks.getD i noStr=noStr:=by simp [List.getElem?_eq_none (show ks.length≤i by omega)]
   rw [e];decide
 obtain ⟨l0,h0⟩:=str_lit n _ (hz 0)
 obtain ⟨l1,h1⟩:=str_lit n _ (hz 1)
 obtain ⟨l2,h2⟩:=str_lit n _ (hz 2)
 have hk:∃ls,Tryz.prog.keyLits (Tryz.prog.types.size+1) 76 (plv ks)=some ls:=by
  unfold Program.keyLits
  simp only [aI]
  rw [if_pos (by rw [pl_cells];rfl)]
  refine ⟨[l0,l1,l2].flatten,?_⟩
  simp only [str_cells,Nat.mul_one,hn,List.range,List.range.loop,List.mapM_cons,List.mapM_nil]
  simp only [plv,List.drop,List.take]
  rw [h0,h1,h2]
  rfl
 obtain ⟨ls,hls⟩:=hk
 unfold keyOf
 rw [aI]
 simp only
 rw [if_pos (by rw [pl_type,hf];rfl)]
 exact ⟨_,by rw [show (Value.agg (plv ks).toArray).cells.toList=plv ks from rfl,hls];rfl⟩
theorem fL {ks qs:List ByteArray} (h:PlOk ks) (h2:PlOk qs) (he:Value.agg (plv ks).toArray=.agg (plv qs).toArray):ks=qs :=
 plv_inj h h2 (by simpa using he)
theorem eg_pl:Tryz.prog.eqGuardType Tryz.prog.depth 76=false:=by kernel_rfl
theorem run_eqS {P:Program} (w:World) (d:Nat) (t e:TypeId) (n:Nat) (ht:P.underlying t=some (.array n e)) (he:P.underlying e=some .string) (hs:(P.info? e).map (·.size)=some 1) (xs ys:List ByteArray) (hx:xs.length=n) (hy:ys.length=n) :
  (Op.equalIn (d+2) t (.agg (xs.map Value.string).toArray) (.agg (ys.map Value.string).toArray)).run P w=.ok (decide (xs=ys)) w:=by
 have hsz:(sizeOf e).run P w=.ok 1 w:=by
  cases hq:P.info? e with
  | none=>simp [hq] at hs
  | some q =>
   have hs1:q.size=1:=by simpa [hq] using hs
   simp [sizeOf,typeInfo,hq,hs1]
 have hp:∀(zs:List ByteArray) (i:Nat) (z:ByteArray),zs[i]?=some z→(part e (zs.map Value.string).toArray (i * 1)).run P w=.ok (.string z) w:=by
  intro zs i z hz
  simp [part,isAgg,run_underlying he,hz]
 rw [Op.equalIn]
 simp only [Sem.run_bind,run_underlying ht,Result.andThen_ok,hsz,Std.Legacy.Range.forIn_eq_forIn_range',Std.Legacy.Range.size,Nat.sub_zero,Nat.add_sub_cancel,Nat.div_one]
 have hd0:decide (xs=ys)=decide (xs.drop 0=ys.drop 0):=by simp
 rw [hd0]
 obtain ⟨m,hmn⟩:∃m,m=n:=⟨n,rfl⟩
 have hle:0+m=n:=by omega
 rw [show List.range' 0 n 1=List.range' 0 m 1 by rw [hmn]]
 clear hmn hd0
 generalize 0=i at hle ⊢
 induction m generalizing i with
 | zero =>
  rw [List.drop_of_length_le (by omega),List.drop_of_length_le (by omega)]
  simp
 | succ m ih =>
  have h1:i<xs.length:=by omega
  have h2:i<ys.length:=by omega
  have hdec:xs.drop i=ys.drop i↔(xs[i]=ys[i]∧xs.drop (i+1)=ys.drop (i+1)):=by
   rw [List.drop_eq_getElem_cons h1,List.drop_eq_getElem_cons h2,List.cons.injEq]
  have hdec2:decide (xs.drop i=ys.drop i)=(decide (xs[i]=ys[i])&&decide (xs.drop (i+1)=ys.drop (i+1))):=by
   rw [Bool.eq_iff_iff,Bool.and_eq_true,decide_eq_true_iff,decide_eq_true_iff,decide_eq_true_iff]
   exact hdec
  rw [List.range'_succ,hdec2]
  simp only [List.forIn_cons,Sem.run_bind,hp xs i xs[i] (by simp [h1]),hp ys i ys[i] (by simp [h2]),run_equalIn_string w d e _ _ he,Result.andThen_ok]
  by_cases hb:xs[i]=ys[i]
  ·simp only [hb,beq_self_eq_true,Bool.not_true,Bool.false_eq_true,if_false,Sem.run_pure,Result.andThen_ok]
   rw [ih (i+1) (by omega)]
   simp only [decide_true,Bool.true_and]
  ·have hb':(xs[i].toList==ys[i].toList)=false:=by
    rw [←beq_toListBytes];exact eqs_no hb
   simp only [hb',hb,decide_false,Bool.false_and,Bool.not_false,if_true,Sem.run_pure,Result.andThen_ok]
theorem j0 (ks:List ByteArray):plv ks=[ks.getD 0 noStr,ks.getD 1 noStr,ks.getD 2 noStr].map Value.string:=rfl
theorem eq_pl (w:World) {ks qs:List ByteArray} (h:PlOk ks) (h2:PlOk qs) (b:Bool) (hb:b=decide (ks=qs)):(Op.equalIn 10000 76 (.agg (plv ks).toArray) (.agg (plv qs).toArray)).run Tryz.prog w=.ok b w:=by
 rw [j0 ks,j0 qs,run_eqS w 9998 76 9 3 aI gu dE _ _ rfl rfl,hb]
 congr 1
 rw [Bool.eq_iff_iff,decide_eq_true_iff,decide_eq_true_iff]
 constructor
 ·intro he;exact plv_inj h h2 (by rw [j0,j0,he])
 ·rintro rfl;rfl
section
variable {a:Act} {w:World} {dst:Option Tmp} {typ:TypeId} {pos:String} {aft:Array Edge} {gd:Option (Nat×Bool)}
theorem exec_neP {x y:Operand} {rt:TypeId} {ks qs:List ByteArray} (h:PlOk ks) (h2:PlOk qs) (b:Bool) (hb:b=decide (ks=qs)) (hx:a.eval x=.agg (plv ks).toArray) (hy:a.eval y=.agg (plv qs).toArray) :
  (execOp a.eval {dst:=dst,op:=.binOp .neq 76 x y rt,type:=typ,pos:=pos,after:=aft,guard:=gd}).run Tryz.prog w=.ok (.value (.bool (!b))) w:=by
 unfold execOp
 simp only [hx,hy,Sem.run_bind,run_eqGuard_agg w .neq 76 x y _ _ eg_pl,Sem.run_pure,Result.andThen_ok,run_neq_struct,eq_pl w h h2 b hb]
theorem kU {x y:Operand} {rt:TypeId} {ks qs:List ByteArray} (h:PlOk ks) (h2:PlOk qs) (b:Bool) (hb:b=decide (ks=qs)) (hx:a.eval x=.agg (plv ks).toArray) (hy:a.eval y=.agg (plv qs).toArray) :
  (execOp a.eval {dst:=dst,op:=.binOp .eql 76 x y rt,type:=typ,pos:=pos,after:=aft,guard:=gd}).run Tryz.prog w=.ok (.value (.bool b)) w:=by
 unfold execOp
 simp only [hx,hy,Sem.run_bind,run_eqGuard_agg w .eql 76 x y _ _ eg_pl,Sem.run_pure,Result.andThen_ok,run_eql_struct,eq_pl w h h2 b hb]
end
theorem aC {P:Program} {R:Act→World→Prop} {T:World→Prop} {a:Act} {w w0:World} {S:List Nat} {rows:List (Nat×List Value×TypeId)} {id:Nat} {l:List Oper} (hmix:P.follows .mixedOrders=true) (hm:Mem w0 S w rows)
  (h:∀w',Below w.heap.size w w'→Mem w0 S w' rows→wpAnyH P .any l.toArray (endsIn R) T l.toArray.size (Array.replicate l.toArray.size false) a w'):(Code.region id l.toArray true).wp P (endsIn R) a w :=
 wp_region_held hmix (h _ ⟨rfl,rfl,rfl,Nat.le_refl _,fun _ _=>rfl⟩ hm.drew)
/-- Segments laid over an empty place. -/
theorem lay_pl {ks:List ByteArray} (hl:ks.length≤3):splice (plv []) 0 (strs ks)=plv ks:=by
 match ks,hl with
 | [],_=>rfl
 | [a],_=>rfl
 | [a,b],_=>rfl
 | [a,b,c],_=>rfl
 | _::_::_::_::_,h=>simp at h
theorem lay_cut (ks:List ByteArray) {n:Nat} (hn:n≤3):splice (plv []) 0 ((plv ks).take n)=plv (ks.take n):=by
 have e:n=0∨n=1∨n=2∨n=3:=by omega
 rcases e with rfl|rfl|rfl|rfl
 ·rfl
 ·match ks with
  | []=>rfl
  | a::_=>rfl
 ·match ks with
  | []=>rfl
  | [a]=>rfl
  | a::b::_=>rfl
 ·match ks with
  | []=>rfl
  | [a]=>rfl
  | [a,b]=>rfl
  | a::b::c::_=>rfl
section
variable {P:Program} {ops:Array Oper} {rest:List Oper} {a:Act} {w w0:World} {Q:Exit→Act→World→Prop} {dst:Option Tmp} {typ:TypeId} {pos:String} {aft:Array Edge} {S:List Nat} {rows:List (Nat×List Value×TypeId)}
theorem wpl_cpS {d s:Operand} {dT sT:TypeId} (i:Nat) {g:Nat} {t:TypeId} {ks:List ByteArray} {v:Value} (hm:Mem w0 S w rows) (hi:rows[i]?=some (g,plv [],t)) (hl:ks.length≤3)
  (hd:a.eval d=.slice (some ⟨g,0,none⟩) 3 3) (hs:a.eval s=v) (hv:SlS w v ks) (elem:TypeId) (hu:P.underlying dT=some (.slice elem)) (hsz:(P.info? elem).map (·.size)=some 1)
  (h:∀w' n,Mem w0 S w' (rows.set i (g,plv ks,t))→wpList P ops Q rest (a.put dst (.int .i64 n)) w') :
  wpList P ops Q ({dst:=dst,op:=.call {callee:=.builtin .copy,args:=#[d,s],argTypes:=#[dT,sT]},type:=typ,pos:=pos,after:=aft,guard:=none}::rest) a w:=by
 obtain ⟨p,cap,rfl,hc⟩:=SlV.len hv
 by_cases h0:ks=[]
 ·subst h0
  refine wpList_copy_nothing rfl d s dT sT rfl elem hu hsz (some ⟨g,0,none⟩) p 3 3 0 cap hd hs (by simp) ?_
  have hh:=h w 0 (by
   have e:rows.set i (g,plv [],t)=rows:=by
    apply List.ext_getElem?
    intro j
    rw [List.getElem?_set]
    split
    ·next hj=>subst hj;rw [hi];split<;>first|rfl|(next hlt=>rw [List.getElem?_eq_none (by omega)] at hi;cases hi)
    ·rfl
   rw [e];exact hm)
  simpa [goInt] using hh
 ·have hpos:0<ks.length:=List.length_pos_iff.2 h0
  obtain ⟨b,off,rfl⟩:=SlS.at hv rfl hpos
  refine cI i 0 3 3 ⟨b,off,none⟩ ks.length cap (strs ks) ks.length (plv ks) hm hi hd hs elem hu hsz (by simp [strs]) (by show ks.length=min ks.length 3;omega) ?_ (by rw [plv3];omega) (by intro v hv;obtain ⟨x,_,rfl⟩:=List.mem_map.1 hv;rfl) (lay_pl hl) (fun w' hm'=>h w' _ hm')
  intro j v hj
  have hjl:j<ks.length:=by
   rcases Nat.lt_or_ge j ks.length with h'|h'
   ·exact h'
   ·rw [List.getElem?_eq_none (by simp [strs];omega)] at hj;cases hj
  have hc:=SlS.cells rfl hv j hjl
  have hadd:(⟨b,off,none⟩:Addr).add j=⟨b,off+j,none⟩:=by unfold Addr.add;split<;>simp_all
  rw [hadd,hc,←hj]
  simp [strs,hjl]
theorem wpl_cpT {d s:Operand} {dT sT:TypeId} (i:Nat) {g g2 n:Nat} {t t2:TypeId} {ks:List ByteArray} {dc sc:Nat} (hm:Mem w0 S w rows) (hi:rows[i]?=some (g,plv [],t)) (hr:Row w g2 (plv ks) t2) (hn:n≤3)
  (hd:a.eval d=.slice (some ⟨g,0,none⟩) n dc) (hs:a.eval s=.slice (some ⟨g2,0,none⟩) n sc) (elem:TypeId) (hu:P.underlying dT=some (.slice elem)) (hsz:(P.info? elem).map (·.size)=some 1)
  (h:∀w' k,Mem w0 S w' (rows.set i (g,plv (ks.take n),t))→wpList P ops Q rest (a.put dst (.int .i64 k)) w') :
  wpList P ops Q ({dst:=dst,op:=.call {callee:=.builtin .copy,args:=#[d,s],argTypes:=#[dT,sT]},type:=typ,pos:=pos,after:=aft,guard:=none}::rest) a w:=by
 have hl:((plv ks).take n).length=n:=by rw [List.length_take,plv3];omega
 refine cI i 0 n dc ⟨g2,0,none⟩ n sc ((plv ks).take n) n (plv (ks.take n)) hm hi hd hs elem hu hsz hl (Nat.min_self n).symm ?_ (by rw [plv3];omega) (fun v hv=>aB ks v (List.mem_of_mem_take hv)) (lay_cut ks hn) (fun w' hm'=>h w' _ hm')
 intro j v hj
 have hjl:(plv ks)[j]?=some v:=by
  rw [List.getElem?_take] at hj
  split at hj
  ·exact hj
  ·cases hj
 have hadd:(⟨g2,0,none⟩:Addr).add j=⟨g2,0+j,none⟩:=by unfold Addr.add;split<;>simp_all
 rw [hadd]
 simp only [World.cell?,show w.heap[g2]?=some (.cells (plv ks).toArray t2 (0,0)) from hr]
 simpa using hjl
end
end Go.Proofs.YtlpnafdkhoimhaaGreatDoor
