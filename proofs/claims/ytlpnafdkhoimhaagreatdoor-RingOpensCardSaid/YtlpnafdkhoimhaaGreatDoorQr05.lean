import Derived.Test.YtlpnafdkhoimhaaGreatDoorQr04
import Derived.Test.YtlpnafdkhoimhaaGreatDoorQr03
import Derived.Lib.SlBytesConst
import Derived.Test.YtlpnafdkhoimhaaGreatDoorQr02
set_option maxRecDepth 100000
set_option maxHeartbeats 4000000
namespace Go.Proofs.YtlpnafdkhoimhaaGreatDoor
open Go Go.RowKit
end Go.Proofs.YtlpnafdkhoimhaaGreatDoor
namespace Go.Proofs.YtlpnafdkhoimhaaGreatDoor
open Go Go.RowKit
theorem eu:Tryz.prog.eqGuardType Tryz.prog.depth 43=false:=by kernel_rfl
theorem wpl_cvc {P:Program} {ops:Array Oper} {rest:List Oper} {a:Act} {w w0:World} {dst:Option Tmp} {typ:TypeId} {pos:String} {aft:Array Edge} {gd:Option (Nat×Bool)} {S:List Nat} {rows:List (Nat×List Value×TypeId)} {Q:Exit→Act→World→Prop} {t e:TypeId} {x:Operand} (cs:List Int) (hw:Region.wanted {dst:=dst,op:=.convert t t x,type:=typ,pos:=pos,after:=aft,guard:=gd} (yielded ops a.tmps)=true) (ht:P.underlying t=some (.slice e)) (he:P.underlying e=some (.int .u8)) {n:Nat} (hx:a.eval x=.slice (some ⟨w.heap.size,0,none⟩) n n) (hn:n=cs.length) (hm:Mem w0 S w rows)
  (h:∀w' g,Below w.heap.size w w'→Mem w0 S w' rows→SlOld w' (.slice (some ⟨g,0,none⟩) n n) cs→wpList P ops Q rest (a.put dst (.slice (some ⟨g,0,none⟩) n n)) w') :
  wpList P ops Q ({dst:=dst,op:=.convert t t x,type:=typ,pos:=pos,after:=aft,guard:=gd}::rest) a (w.alloc (.cells (u8s cs).toArray e)):=by
 subst hn
 have hb:Below w.heap.size w (w.alloc (.cells (u8s cs).toArray e ((u8s cs).toArray.size,(u8s cs).toArray.size+1))):=(Below.refl _ _).alloc (Nat.le_refl _) _
 refine wpList_step fun K hK=>?_
 rw [if_pos hw]
 have hh:=hK _ _ (h _ w.heap.size hb (hm.call hb) ⟨_,_,rfl,Nat.le_refl _,fun _=>⟨w.heap.size,0,rfl,Seg.newO w cs e _⟩⟩)
 unfold Oper.wp execOp
 simp only [hx,Lib.run_convert_bytes_const (P:=P) w t e (u8s cs).toArray cs.length cs.length ht he,Sem.run_bind,Sem.run_pure,Result.andThen_ok]
 exact hh
end Go.Proofs.YtlpnafdkhoimhaaGreatDoor
namespace Go.Proofs.YtlpnafdkhoimhaaGreatDoor
open Go Go.RowKit
theorem OwnB.row {e:TypeId} {w:World} {base:Nat} {v:Value} {zs:List Int} (h:OwnB e w base v zs) (h0:0<zs.length):∃g cap l,v=.slice (some ⟨g,0,none⟩) zs.length cap∧base≤g∧Row w g (u8s zs++l) e∧zs.length≤cap:=by
 obtain ⟨_,h2⟩:=h
 rcases h2 with ⟨_,hn⟩|⟨g,cap,cur,rfl,hb,hh,hn,_,_,ht⟩
 ·omega
 ·refine ⟨g,cap,cur.toList.drop zs.length,rfl,hb,?_,hn⟩
  unfold Row
  rw [hh,←ht,Nat.mul_one,List.take_append_drop]
end Go.Proofs.YtlpnafdkhoimhaaGreatDoor
namespace Go.Proofs.YtlpnafdkhoimhaaGreatDoor
open Go Go.RowKit
theorem beq_self_str (s:ByteArray):(s==s)=true:=by
 rw [beq_toListBytes]
 exact beq_self_eq_true _
open Go Go.RowKit
theorem dt (x:Int) (h0:0≤x) (h1:x<4611686018427387904):IntKind.i64.wrap x=x:=by
 simp [IntKind.wrap,IntKind.bits,IntKind.signed]
 split<;>omega
structure St (w4 w:World) (v:Value) (zs:List Int) (bs:Option (Nat×List Int)) (al:Option Nat):Prop where
 mem:Mem w4 [] w []
 own:OwnB 5 w w4.heap.size v zs
 bld:∀p,bs=some p→Row w p.1 (u8s p.2) 5∧v.ownBlock≠some p.1
 alc:∀g,al=some g→Row w g (u8s (List.replicate 32 0)) 42∧w4.heap.size≤g
section
variable {w4 w w':World} {v v':Value} {zs ys:List Int} {bs:Option (Nat×List Int)} {al:Option Nat}
theorem St.start (w:World):St w w (.slice none 0 0) [] none none:=⟨Mem.start w,OwnB.nil _ _ _,by simp,by simp⟩
theorem St.below (st:St w4 w v zs bs al) (hb:Below w.heap.size w w'):St w4 w' v zs bs al :=
 ⟨st.mem.call hb,st.own.below hb,fun p hp=>⟨(st.bld p hp).1.below' hb,(st.bld p hp).2⟩,fun g hg=>⟨(st.alc g hg).1.below' hb,(st.alc g hg).2⟩⟩
theorem St.grown (st:St w4 w v zs bs al) (ho:OwnB 5 w' w4.heap.size v' (zs++ys)) (hg:w.grownBy w' v.ownBlock) (hv:v'.ownBlock=v.ownBlock∨v'.ownBlock=some w.heap.size):St w4 w' v' (zs++ys) bs al:=by
 refine ⟨st.mem.grown st.own (fun r hr=>by cases hr) hg,ho,fun p hp=>?_,fun g hq=>?_⟩
 ·obtain ⟨h1,h2⟩:=st.bld p hp
  refine ⟨?_,?_⟩
  ·unfold Row
   rw [hg.block p.1 h1.lt (fun he=>h2 he.symm)]
   exact h1
  ·rcases hv with hv|hv
   ·rw [hv];exact h2
   ·rw [hv]
    intro he
    have:=h1.lt
    simp only [Option.some.injEq] at he
    omega
 ·obtain ⟨h1,h2⟩:=st.alc g hq
  refine ⟨?_,h2⟩
  unfold Row
  rw [hg.block g h1.lt (fun he=>st.own.apart h1 (by decide) he.symm)]
  exact h1
theorem St.newRow (st:St w4 w v zs none al) (ys:List Int):St w4 (w.alloc (.cells (u8s ys).toArray 5)) v zs (some (w.heap.size,ys)) al:=by
 have hb:Below w.heap.size w (w.alloc (.cells (u8s ys).toArray 5)):=(Below.refl _ _).alloc (Nat.le_refl _) _
 have s2:=st.below hb
 refine ⟨s2.mem,s2.own,fun p hp=>?_,s2.alc⟩
 obtain rfl:=Option.some.inj hp
 refine ⟨Row.new w _ _,fun he=>?_⟩
 have:=(World.ownsRow.lt st.own _ he).2
 simp at this
theorem St.newVar (st:St w4 w v zs bs none):St w4 (w.alloc (.cells (u8s (List.replicate 32 0)).toArray 42)) v zs bs (some w.heap.size):=by
 have hb:Below w.heap.size w (w.alloc (.cells (u8s (List.replicate 32 0)).toArray 42)):=(Below.refl _ _).alloc (Nat.le_refl _) _
 have s2:=st.below hb
 refine ⟨s2.mem,s2.own,s2.bld,fun g hg=>?_⟩
 obtain rfl:=Option.some.inj hg
 exact ⟨Row.new w _ _,st.mem.size⟩
end
section
variable {ops:Array Oper} {rest:List Oper} {a:Act} {w w4:World} {Q:Exit→Act→World→Prop} {dst:Option Tmp} {typ:TypeId} {pos:String} {aft:Array Edge} {v:Value} {zs:List Int} {bs:Option (Nat×List Int)} {al:Option Nat}
end
open Go Go.RowKit
def i64s (l:List Int):List Value:=l.map (Value.int .i64)
theorem jD (l:List Int):(i64s l).length=l.length:=by simp [i64s]
theorem i64s_get (l:List Int) (i:Nat) (h:i<l.length):(i64s l)[i]?=some (.int .i64 (l.getD i 0)):=by
 simp [i64s,h]
theorem i64s_one (l:List Int):∀v∈i64s l,v.oneCell'=true:=by
 intro v hv;simp [i64s] at hv;obtain ⟨x,_,rfl⟩:=hv;rfl
section
variable {P:Program}
theorem fM (w:World) (g off n:Nat) (ty:TypeId) (cs:List Value) (d:TypeDesc) (hc:∀j v,cs[j]?=some v→w.cell? ⟨g,off+j,none⟩=some v) (hu:P.underlying ty=some d)
  (hd:(match d with | .struct _ | .array _ _=>true|_=>false)=true) (hi:(P.info? ty).map (·.size)=some n) (hn:cs.length=n) :
  (loadVar ty ⟨g,off,none⟩).run P w=.ok (.agg cs.toArray) w:=by
 have hl:(loadCells ⟨g,off,none⟩ cs.length).run P w=.ok cs.toArray w :=
  run_loadCells_list (P:=P) w ⟨g,off,none⟩ cs (fun j v hv=>by rw [bK];exact hc j v hv)
 rw [hn] at hl
 cases hq:P.info? ty with
 | none=>simp [hq] at hi
 | some i =>
  have hs:i.size=n:=by simpa [hq] using hi
  have hagg:(isAgg ty).run P w=.ok true w:=by
   unfold isAgg
   rw [Sem.run_bind,run_underlying hu w]
   cases d<;>simp_all
  simp [loadVar,Sem.run_bind,hagg,sizeOf,typeInfo,hq,hs,hl]
theorem run_slo2 (w:World) {ty:TypeId} {elem:TypeId} (hu:P.underlying ty=some (.slice elem)) (hs:(P.info? elem).map (·.size)=some 1) {g o len cap:Nat} (l:Nat) (hl:l≤len) (hlc:l<cap) :
  (Instr.sliceAt ty (.slice (some ⟨g,o,none⟩) len cap) (some (.int .i64 (l:Int))) none none).run P w=.ok (.slice (some ⟨g,o+l,none⟩) (len - l) (cap - l)) w:=by
 cases hq:P.info? elem with
 | none=>simp [hq] at hs
 | some q =>
  have hs1:q.size=1:=by simpa [hq] using hs
  have hsz:(sizeOf elem).run P w=.ok 1 w:=by simp [sizeOf,typeInfo,hq,hs1]
  have bnd:(Instr.sliceBound (.int .i64 (l:Int)) len .sliceB).run P w=.ok l w:=by
   rw [run_sliceBound (P:=P) w .i64 (l:Int) len .sliceB (by omega) (by omega)]
   simp
  have hb:(Instr.sliceBounds true len cap (some (.int .i64 (l:Int))) none none).run P w=.ok (l,len,cap) w:=by
   simp [Instr.sliceBounds,bnd]
  have hne:¬cap=l:=by omega
  simp [Instr.sliceAt,Instr.slice,run_underlying hu,hb,hsz,hne,bK]
theorem run_sla3 (w:World) {ty:TypeId} {n:Nat} {elem:TypeId} (hu:P.underlying ty=some (.array n elem)) (hs:(P.info? elem).map (·.size)=some 1) (g o l m c:Nat) (hlm:l+m≤c) (hln:l<c) (hcn:c≤n) :
  (Instr.sliceAt ty (.pointer (some ⟨g,o,none⟩)) (some (.int .i64 (l:Int))) (some (.int .i64 ((l+m:Nat):Int))) (some (.int .i64 (c:Int)))).run P w=.ok (.slice (some ⟨g,o+l,none⟩) m (c - l)) w:=by
 cases hq:P.info? elem with
 | none=>simp [hq] at hs
 | some q =>
  have hs1:q.size=1:=by simpa [hq] using hs
  have hsz:(sizeOf elem).run P w=.ok 1 w:=by simp [sizeOf,typeInfo,hq,hs1]
  have hne:¬c=l:=by omega
  have bnd:∀(j y:Nat) (code:BoundsCode),j≤y→(Instr.sliceBound (.int .i64 (j:Int)) y code).run P w=.ok j w:=by
   intro j y code hj
   rw [run_sliceBound (P:=P) w .i64 (j:Int) y code (by omega) (by omega)]
   simp
  obtain ⟨h,hh⟩:∃h,h=l+m:=⟨_,rfl⟩
  rw [←hh] at hlm ⊢
  have hb:(Instr.sliceBounds false n n (some (.int .i64 (l:Int))) (some (.int .i64 (h:Int))) (some (.int .i64 (c:Int)))).run P w=.ok (l,h,c) w:=by
   simp [Instr.sliceBounds,bnd c n _ hcn,bnd h c _ hlm,bnd l h _ (by omega)]
  have hml:h - l=m:=by omega
  simp [Instr.sliceAt,Instr.sureAddr,run_underlying hu,hb,hsz,hne,bK,hml]
theorem run_sl3 (w:World) {ty:TypeId} {elem:TypeId} (hu:P.underlying ty=some (.slice elem)) (hs:(P.info? elem).map (·.size)=some 1) {g o len cap:Nat} (m:Nat) (hm:m≤cap) (h0:0<m) :
  (Instr.sliceAt ty (.slice (some ⟨g,o,none⟩) len cap) none (some (.int .i64 (m:Int))) (some (.int .i64 (m:Int)))).run P w=.ok (.slice (some ⟨g,o,none⟩) m m) w:=by
 cases hq:P.info? elem with
 | none=>simp [hq] at hs
 | some q =>
  have hs1:q.size=1:=by simpa [hq] using hs
  have hsz:(sizeOf elem).run P w=.ok 1 w:=by simp [sizeOf,typeInfo,hq,hs1]
  have hne:¬m=0:=by omega
  have bnd:∀(j y:Nat) (code:BoundsCode),j≤y→(Instr.sliceBound (.int .i64 (j:Int)) y code).run P w=.ok j w:=by
   intro j y code hj
   rw [run_sliceBound (P:=P) w .i64 (j:Int) y code (by omega) (by omega)]
   simp
  have hb:(Instr.sliceBounds true len cap none (some (.int .i64 (m:Int))) (some (.int .i64 (m:Int)))).run P w=.ok (0,m,m) w:=by
   simp [Instr.sliceBounds,bnd m cap _ hm,bnd m m _ (Nat.le_refl _)]
  simp [Instr.sliceAt,Instr.slice,run_underlying hu,hb,hsz,hne,bK]
end
section
variable {P:Program} {ops:Array Oper} {rest:List Oper} {a:Act} {w w0:World} {dst:Option Tmp} {typ:TypeId} {pos:String} {aft:Array Edge} {S:List Nat} {rows:List (Nat×List Value×TypeId)} {gd:Option (Nat×Bool)}
theorem iq {Q:Exit→Act→World→Prop} {ty:TypeId} {x:Operand} {g:Nat} (cs:List Value) (off:Nat) (hx:a.eval x=.pointer (some ⟨g,off,none⟩)) (hc:∀j v,cs[j]?=some v→w.cell? ⟨g,off+j,none⟩=some v)
  (d:TypeDesc) (hu:P.underlying ty=some d) (hd:(match d with | .struct _ | .array _ _=>true|_=>false)=true) (n:Nat) (hs:(P.info? ty).map (·.size)=some n) (hn:cs.length=n)
  (h:wpList P ops Q rest (a.put dst (.agg cs.toArray)) w) :
  wpList P ops Q ({dst:=dst,op:=.load ty x,type:=typ,pos:=pos,after:=aft,guard:=none}::rest) a w:=by
 refine wpList_plain rfl fun K hK=>?_
 have hh:=hK _ _ h
 unfold Oper.wp execOp
 simp only [hx,Instr.loadAt,Instr.sureAddr,Sem.run_bind,Sem.run_pure,Result.andThen_ok,fM w g off n ty cs d hc hu hd hs hn]
 exact hh
theorem wpl_slo2 {Q:Exit→Act→World→Prop} {ty:TypeId} {x lo:Operand} {elem:TypeId} (hu:P.underlying ty=some (.slice elem)) (hs:(P.info? elem).map (·.size)=some 1) {g o len cap:Nat} (l:Nat) {il:Int} (hl:l≤len) (hlc:l<cap) (hx:a.eval x=.slice (some ⟨g,o,none⟩) len cap)
  (hlo:a.eval lo=.int .i64 il) (hil:il=(l:Int)) (h:wpList P ops Q rest (a.put dst (.slice (some ⟨g,o+l,none⟩) (len - l) (cap - l))) w) :
  wpList P ops Q ({dst:=dst,op:=.slice ty x (some lo) none none,type:=typ,pos:=pos,after:=aft,guard:=none}::rest) a w:=by
 subst hil
 refine wpList_plain rfl fun K hK=>?_
 have hh:=hK _ _ h
 unfold Oper.wp execOp
 simp only [hx,hlo,Option.map_some,Option.map_none,run_slo2 (P:=P) w hu hs l hl hlc,Sem.run_bind,Sem.run_pure,Result.andThen_ok]
 exact hh
theorem wps_sla3 {Q:Act→Prop} {ty:TypeId} {x lo hi mx:Operand} (n:Nat) {elem:TypeId} (hu:P.underlying ty=some (.array n elem)) (hs:(P.info? elem).map (·.size)=some 1) {g o:Nat} (l m c:Nat) (hlm:l+m≤c) (hln:l<c) (hcn:c≤n) (hx:a.eval x=.pointer (some ⟨g,o,none⟩))
  (hlo:a.eval lo=.int .i64 (l:Int)) (hhi:a.eval hi=.int .i64 ((l+m:Nat):Int)) (hmx:a.eval mx=.int .i64 (c:Int)) (h:wpStill P ops w Q rest (a.put dst (.slice (some ⟨g,o+l,none⟩) m (c - l)))) :
  wpStill P ops w Q ({dst:=dst,op:=.slice ty x (some lo) (some hi) (some mx),type:=typ,pos:=pos,after:=aft,guard:=none}::rest) a:=by
 refine gw rfl _ ?_ h
 unfold execOp
 simp only [hx,hlo,hhi,hmx,Option.map_some,run_sla3 (P:=P) w hu hs g o l m c hlm hln hcn,Sem.run_bind,Sem.run_pure,Result.andThen_ok]
theorem exec_sl3 {ty:TypeId} {x hi mx:Operand} {elem:TypeId} (hu:P.underlying ty=some (.slice elem)) (hs:(P.info? elem).map (·.size)=some 1) {g o len cap:Nat} (m:Nat) {ih im:Int} (hm:m≤cap) (h0:0<m) (hx:a.eval x=.slice (some ⟨g,o,none⟩) len cap)
  (hhi:a.eval hi=.int .i64 ih) (hih:ih=(m:Int)) (hmx:a.eval mx=.int .i64 im) (him:im=(m:Int)) :
  (execOp a.eval {dst:=dst,op:=.slice ty x none (some hi) (some mx),type:=typ,pos:=pos,after:=aft,guard:=gd}).run P w=.ok (.value (.slice (some ⟨g,o,none⟩) m m)) w:=by
 subst hih him
 unfold execOp
 simp only [hx,hhi,hmx,Option.map_some,Option.map_none,run_sl3 (P:=P) w hu hs m hm h0,Sem.run_bind,Sem.run_pure,Result.andThen_ok]
theorem wpl_ixp {Q:Exit→Act→World→Prop} {ty:TypeId} {x ix:Operand} (n:Nat) {elem:TypeId} (hu:P.underlying ty=some (.array n elem)) (k:Nat) (hs:(P.info? elem).map (·.size)=some k) (ha:∀w,(isAgg elem).run P w=.ok true w) (l sub:List Value) (j:Nat) {ij:Int} (hj:j<n)
  (hx:a.eval x=.agg l.toArray) (hix:a.eval ix=.int .i64 ij) (hij:ij=(j:Int)) (hv:(l.drop (j * k)).take k=sub)
  (h:wpList P ops Q rest (a.put dst (.agg sub.toArray)) w) :
  wpList P ops Q ({dst:=dst,op:=.index ty x ix,type:=typ,pos:=pos,after:=aft,guard:=none}::rest) a w:=by
 subst hij
 refine wpList_plain rfl fun K hK=>?_
 have hh:=hK _ _ h
 have hr:(Instr.index ty (.agg l.toArray) (.int .i64 (j:Int))).run P w=.ok (.agg sub.toArray) w:=by
  cases hq:P.info? elem with
  | none=>simp [hq] at hs
  | some q =>
   have hs1:q.size=k:=by simpa [hq] using hs
   have hsz:(sizeOf elem).run P w=.ok k w:=by simp [sizeOf,typeInfo,hq,hs1]
   simp [Instr.index,asIntOf,run_underlying hu,hj,hsz,part,ha,hv]
 unfold Oper.wp execOp
 simp only [hx,hix,hr,Sem.run_bind,Sem.run_pure,Result.andThen_ok]
 exact hh
end
open Go Go.RowKit
section
variable {P:Program} {ops:Array Oper} {Q:Exit→Act→World→Prop} {md:Region.Mode} {c:Nat} {S S2:World→Prop}
def wpAnyC (P:Program) (md:Region.Mode) (ops:Array Oper) (Q:Exit→Act→World→Prop) (c:Nat) (S S2:World→Prop):Nat→Array Bool→Act→World→Prop
 | 0,listed,a,w=>Region.ready md ops listed=[]∧Q .normal a w
 | fuel+1,listed,a,w =>
  (Region.ready md ops listed=[]→Q .normal a w) ∧
  ∀i∈Region.ready md ops listed,wpOp P ops Q i (fun a' w'=>if i=c then S2 w'∧wpAnyH P md ops Q S2 fuel (listed.setIfInBounds i true) a' w' else S w'∧wpAnyC P md ops Q c S S2 fuel (listed.setIfInBounds i true) a' w') a w
theorem j5:∀(fuel:Nat) (listed:Array Bool) (a:Act) (w:World),wpAnyC P md ops Q c S S2 fuel listed a w→wpAny P md ops Q fuel listed a w
 | 0,_,_,_,h=>h
 | fuel+1,_,_,_,h=>⟨h.1,fun i hi=>wpOp_mono (fun a' w' h'=>by
   by_cases hic:i=c
   ·rw [if_pos hic] at h'
    exact wpAny_of_held fuel _ a' w' h'.2
   ·rw [if_neg hic] at h'
    exact j5 fuel _ a' w' h'.2) (h.2 i hi)⟩
theorem wpAnyC_first {i:Nat} {oi oc:Oper} {v:Value} (hi:ops[i]?=some oi) (hsel:∀(j:Nat) (o:Oper) cs b,ops[j]?=some o→o.op≠.select cs b)
  (hQ:∀c a w,Q (.panic c) (a.put oi.dst v) w→Q (.panic c) a w) (hoc:ops[c]?=some oc) (hwait:∃e∈oc.after,Region.binds md e=true∧e.on=i) :
  ∀(fuel:Nat) (listed:Array Bool) (a:Act) (w:World),
   (∀j oj,ops[j]?=some oj→j≠i→listed.getD j true=false→(∀e∈oj.after,Region.binds md e=true→e.on≠i)→oi.apart ops oj=true) →
   i∈Region.ready md ops listed→YieldsIf P ops S oi v a→S w→i≠c →
   wpAnyC P md ops Q c S S2 fuel (listed.setIfInBounds i true) (a.put oi.dst v) w→wpAnyC P md ops Q c S S2 (fuel+1) listed a w:=by
 intro fuel
 induction fuel with
 | zero =>
  intro listed a w _ hr hy hS hic H
  refine ⟨fun h=>(by rw [h] at hr;cases hr),fun j hj=>?_⟩
  by_cases hji:j=i
  ·subst hji;exact hy.wpOp hi hS (by rw [if_neg hic];exact ⟨hS,H⟩)
  ·have:=ready_mono hj hji
   rw [H.1] at this
   cases this
 | succ fuel ih =>
  intro listed a w hfree hr hy hS hic H
  refine ⟨fun h=>(by rw [h] at hr;cases hr),fun j hj=>?_⟩
  by_cases hji:j=i
  ·subst hji;exact hy.wpOp hi hS (by rw [if_neg hic];exact ⟨hS,H⟩)
  ·have h1:=H.2 j (ready_mono hj hji)
   obtain ⟨hjun,oj,hoj,hall⟩:=mem_ready.1 hj
   have hnot:∀e∈oj.after,Region.binds md e=true→e.on≠i:=fun e he hb heq=>by
    have h1:=hall e he hb
    have h0:=(mem_ready.1 hr).1
    rw [heq] at h1
    rcases Nat.lt_or_ge i listed.size with h'|h'
    ·simp [h'] at h0 h1;rw [h0] at h1;cases h1
    ·simp [Array.getElem?_eq_none h'] at h1
   have hjc:j≠c:=by
    rintro rfl
    obtain ⟨e,he,hb,hon⟩:=hwait
    have:oj=oc:=Option.some.inj (hoj.symm.trans hoc)
    subst this
    exact hnot e he hb hon
   simp only [if_neg hjc] at h1 ⊢
   have h2:=wpOp_putIf hoj (hfree j oj hoj hji hjun hnot) (fun cs b=>hsel i oi cs b hi) (fun cs b=>hsel j oj cs b hoj) hQ hy h1
   have hfree':∀k ok,ops[k]?=some ok→k≠i→(listed.setIfInBounds j true).getD k true=false →
     (∀e∈ok.after,Region.binds md e=true→e.on≠i)→oi.apart ops ok=true:=fun k ok hk hki hun hno=>by
    refine hfree k ok hk hki ?_ hno
    by_cases hjk:j=k
    ·subst hjk;exact hjun
    ·rw [getD_set_ne true hjk] at hun;exact hun
   refine wpOp_mono (fun a' w' h3=>⟨h3.2.1,ih (listed.setIfInBounds j true) a' w' hfree' (ready_mono hr (Ne.symm hji)) h3.1 h3.2.1 hic ?_⟩) h2
   rw [Array.setIfInBounds_comm _ _ hji]
   exact h3.2.2
theorem wpAnyC_pure {i:Nat} {oi:Oper} {v:Value} (hi:ops[i]?=some oi) (hsel:∀(j:Nat) (o:Oper) cs b,ops[j]?=some o→o.op≠.select cs b)
  (hQ:∀c a w,Q (.panic c) (a.put oi.dst v) w→Q (.panic c) a w) :
  ∀(fuel:Nat) (listed:Array Bool) (a:Act) (w:World),
   (∀j oj,ops[j]?=some oj→j≠i→listed.getD j true=false→(∀e∈oj.after,Region.binds md e=true→e.on≠i)→oi.apart ops oj=true) →
   i∈Region.ready md ops listed→YieldsIf P ops (fun _=>True) oi v a→S w→i≠c →
   wpAnyC P md ops Q c S S2 fuel (listed.setIfInBounds i true) (a.put oi.dst v) w→wpAnyC P md ops Q c S S2 (fuel+1) listed a w:=by
 intro fuel
 induction fuel with
 | zero =>
  intro listed a w _ hr hy hS hic H
  refine ⟨fun h=>(by rw [h] at hr;cases hr),fun j hj=>?_⟩
  by_cases hji:j=i
  ·subst hji;exact hy.wpOp hi trivial (by rw [if_neg hic];exact ⟨hS,H⟩)
  ·have:=ready_mono hj hji
   rw [H.1] at this
   cases this
 | succ fuel ih =>
  intro listed a w hfree hr hy hS hic H
  refine ⟨fun h=>(by rw [h] at hr;cases hr),fun j hj=>?_⟩
  by_cases hji:j=i
  ·subst hji;exact hy.wpOp hi trivial (by rw [if_neg hic];exact ⟨hS,H⟩)
  ·have h1:=H.2 j (ready_mono hj hji)
   obtain ⟨hjun,oj,hoj,hall⟩:=mem_ready.1 hj
   have hnot:∀e∈oj.after,Region.binds md e=true→e.on≠i:=fun e he hb heq=>by
    have h1:=hall e he hb
    have h0:=(mem_ready.1 hr).1
    rw [heq] at h1
    rcases Nat.lt_or_ge i listed.size with h'|h'
    ·simp [h'] at h0 h1;rw [h0] at h1;cases h1
    ·simp [Array.getElem?_eq_none h'] at h1
   have h2:=wpOp_putIf hoj (hfree j oj hoj hji hjun hnot) (fun cs b=>hsel i oi cs b hi) (fun cs b=>hsel j oj cs b hoj) hQ hy h1
   have hfree':∀k ok,ops[k]?=some ok→k≠i→(listed.setIfInBounds j true).getD k true=false →
     (∀e∈ok.after,Region.binds md e=true→e.on≠i)→oi.apart ops ok=true:=fun k ok hk hki hun hno=>by
    refine hfree k ok hk hki ?_ hno
    by_cases hjk:j=k
    ·subst hjk;exact hjun
    ·rw [getD_set_ne true hjk] at hun;exact hun
   refine wpOp_mono (fun a' w' h3=>?_) h2
   obtain ⟨hy',h3⟩:=h3
   by_cases hjc:j=c
   ·rw [if_pos hjc] at h3 ⊢
    refine ⟨h3.1,wpAnyH_first hi hsel hQ fuel (listed.setIfInBounds j true) a' w' hfree' (ready_mono hr (Ne.symm hji)) (hy'.imp (fun ⟨hw,hv⟩=>⟨hw,fun w _=>hv w trivial⟩) id) h3.1 ?_⟩
    rw [Array.setIfInBounds_comm _ _ hji]
    exact h3.2
   ·rw [if_neg hjc] at h3 ⊢
    refine ⟨h3.1,ih (listed.setIfInBounds j true) a' w' hfree' (ready_mono hr (Ne.symm hji)) hy' h3.1 hic ?_⟩
    rw [Array.setIfInBounds_comm _ _ hji]
    exact h3.2
end
section
variable {P:Program} {md:Region.Mode} {ops:Array Oper} {R:Act→World→Prop} {T T2:World→Prop} {c fuel:Nat} {listed:Array Bool} {a:Act} {w w0:World} {S:List Nat} {rows:List (Nat×List Value×TypeId)}
theorem gT {id:Nat} {l:List Oper} (c:Nat) (hmix:P.follows .mixedOrders=true) (hm:Mem w0 S w rows)
  (h:∀w',Mem w0 S w' rows→wpAnyC P .any l.toArray (endsIn R) c T T2 l.toArray.size (Array.replicate l.toArray.size false) a w'):(Code.region id l.toArray true).wp P (endsIn R) a w :=
 wp_region_any hmix (j5 _ _ _ _ (h _ hm.drew))
theorem bX (i:Nat) {o oc:Oper} {v:Value} (hi:ops[i]?=some o) (hs:Region.noSelect ops=true) (hf:Region.free md ops listed i=true) (hr:(Region.ready md ops listed).contains i=true) (hg:o.guard=none) (hoc:ops[c]?=some oc) (hwait:(oc.after.any fun e=>Region.binds md e&&e.on==i)=true) (hic:decide (i=c)=false)
  (hy:∀w,T w→(execOp a.eval o).run P w=.ok (.value v) w) (hT:T w) (h:wpAnyC P md ops (endsIn R) c T T2 fuel (listed.setIfInBounds i true) (a.put o.dst v) w):wpAnyC P md ops (endsIn R) c T T2 (fuel+1) listed a w :=
 wpAnyC_first hi (Region.noSelect_spec hs) (fun _ _ _ h=>h) hoc (by
  obtain ⟨e,he,hb⟩:=Array.any_eq_true'.1 hwait
  simp only [Bool.and_eq_true,beq_iff_eq] at hb
  exact ⟨e,he,hb.1,hb.2⟩) fuel listed a w (Region.free_spec hi hf) (by simpa using hr) (Or.inl ⟨by simp [Region.wanted,hg],hy⟩) hT (of_decide_eq_false hic) h
theorem aE (i:Nat) {o:Oper} {v:Value} (hi:ops[i]?=some o) (hs:Region.noSelect ops=true) (hf:Region.free md ops listed i=true) (hr:(Region.ready md ops listed).contains i=true) (hg:o.guard=none) (hic:decide (i=c)=false)
  (hy:∀w,True→(execOp a.eval o).run P w=.ok (.value v) w) (hT:T w) (h:wpAnyC P md ops (endsIn R) c T T2 fuel (listed.setIfInBounds i true) (a.put o.dst v) w):wpAnyC P md ops (endsIn R) c T T2 (fuel+1) listed a w :=
 wpAnyC_pure hi (Region.noSelect_spec hs) (fun _ _ _ h=>h) fuel listed a w (Region.free_spec hi hf) (by simpa using hr) (Or.inl ⟨by simp [Region.wanted,hg],hy⟩) hT (of_decide_eq_false hic) h
theorem jl {o:Oper} (hr:Region.ready md ops listed=[c]) (hi:ops[c]?=some o) (hg:o.guard=none)
  (h:∀K:Act→World→Prop,(∀a' w',T2 w'→wpAnyH P md ops (endsIn R) T2 fuel (listed.setIfInBounds c true) a' w'→K a' w')→wpList P ops (endsIn K) [o] a w):wpAnyC P md ops (endsIn R) c T T2 (fuel+1) listed a w:=by
 refine ⟨fun h0=>absurd (hr▸h0) (by simp),fun i hi'=>?_⟩
 rw [hr] at hi'
 obtain rfl:i=c:=by simpa using hi'
 simp only [if_true]
 exact aL i hi hg h
end
end Go.Proofs.YtlpnafdkhoimhaaGreatDoor
