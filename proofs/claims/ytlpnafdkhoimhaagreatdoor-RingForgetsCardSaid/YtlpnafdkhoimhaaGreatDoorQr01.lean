import Derived.Test.YtlpnafdkhoimhaaGreatDoorQr00
import Derived.StillTailTactics
set_option maxRecDepth 100000
set_option maxHeartbeats 4000000
namespace Go.Proofs.YtlpnafdkhoimhaaGreatDoor
open Go Go.RowKit
theorem hP (n:Nat) (h:n<4611686018427387904):IntKind.i64.wrap (n:Int)=(n:Int):=by
 simp [IntKind.wrap,IntKind.bits,IntKind.signed]
 split<;>omega
theorem gp {B g:Nat} {a b c:World} (h:Below B a b) (hu:Upd g b c) (hg:B≤g) (hB:B≤b.heap.size):Below B a c :=
 h.trans ⟨hu.os,hu.tape,hu.output,hu.size,fun k hk=>hu.block k (by omega) (by omega)⟩
section
variable {P:Program}
theorem cZ (w:World) (g off n:Nat) (ty t:TypeId) (l:List Value) (d:TypeDesc) (hg:Row w g l t) (hu:P.underlying ty=some d)
  (hd:(match d with | .struct _ | .array _ _=>true|_=>false)=true) (hi:(P.info? ty).map (·.size)=some n) (hn:off+n≤l.length) :
  (loadVar ty ⟨g,off,none⟩).run P w=.ok (.agg ((l.drop off).take n).toArray) w:=by
 have hlen:((l.drop off).take n).length=n:=by simp;omega
 have hl:(loadCells ⟨g,off,none⟩ ((l.drop off).take n).length).run P w=.ok ((l.drop off).take n).toArray w :=
  run_loadCells_list (P:=P) w ⟨g,off,none⟩ ((l.drop off).take n) (fun j v hv=>by
   rw [bK,hg.cell]
   have hj:j<n:=by
    rcases Nat.lt_or_ge j n with h|h
    ·exact h
    ·rw [List.getElem?_eq_none (by omega)] at hv;cases hv
   rw [List.getElem?_take,if_pos hj,List.getElem?_drop] at hv
   exact hv)
 rw [hlen] at hl
 cases hq:P.info? ty with
 | none=>simp [hq] at hi
 | some i =>
  have hs:i.size=n:=by simpa [hq] using hi
  have hagg:(isAgg ty).run P w=.ok true w:=by
   unfold isAgg
   rw [Sem.run_bind,run_underlying hu w]
   cases d<;>simp_all
  simp [loadVar,Sem.run_bind,hagg,sizeOf,typeInfo,hq,hs,hl]
theorem e8 (w:World) (g off:Nat) (ty t:TypeId) (l cs:List Value) (hg:Row w g l t) (hi:(P.info? ty).map (·.size)=some cs.length) (hn:off+cs.length≤l.length) (h1:∀v∈cs,v.oneCell'=true) :
  (storeVar ty ⟨g,off,none⟩ (.agg cs.toArray)).run P w=.ok () (w.setRow g (splice l off cs).toArray):=by
 have hst:=run_storeCells_at P g off t cs 0 l.toArray w hg (by simpa using hn) h1
 cases hq:P.info? ty with
 | none=>simp [hq] at hi
 | some i =>
  have hs:i.size=cs.length:=by simpa [hq] using hi
  have e:(l.take off++cs++l.drop (off+cs.length))=splice l off cs:=by simp [splice]
  simp only [Nat.add_zero,e] at hst
  simp [storeVar,sizeOf,typeInfo,hq,Value.cells,hs,hst]
end
theorem jY {P:Program} (w:World) (d:Nat) (t e:TypeId) (n:Nat) (k:IntKind) (ht:P.underlying t=some (.array n e)) (he:P.underlying e=some (.int k)) (hs:(P.info? e).map (·.size)=some 1) (xs ys:List Int) (hx:xs.length=n) (hy:ys.length=n) :
  (Op.equalIn (d+2) t (.agg (xs.map (Value.int k)).toArray) (.agg (ys.map (Value.int k)).toArray)).run P w=.ok (decide (xs=ys)) w:=by
 have hsz:(sizeOf e).run P w=.ok 1 w:=by
  cases hq:P.info? e with
  | none=>simp [hq] at hs
  | some q =>
   have hs1:q.size=1:=by simpa [hq] using hs
   simp [sizeOf,typeInfo,hq,hs1]
 have hp:∀(zs:List Int) (i:Nat) (z:Int),zs[i]?=some z→(part e (zs.map (Value.int k)).toArray (i * 1)).run P w=.ok (.int k z) w:=by
  intro zs i z hz
  simp [part,isAgg,run_underlying he,hz]
 rw [Op.equalIn]
 simp only [Sem.run_bind,run_underlying ht,Result.andThen_ok,hsz,Std.Legacy.Range.forIn_eq_forIn_range',Std.Legacy.Range.size,Nat.sub_zero,Nat.add_sub_cancel,Nat.div_one]
 have hd0:decide (xs=ys)=decide (xs.drop 0=ys.drop 0):=by simp
 rw [hd0]
 obtain ⟨m,hmn⟩:∃m,m=n:=⟨n,rfl⟩
 have hle:0+m=n:=by omega
 rw [show List.range' 0 n 1=List.range' 0 m 1 by rw [hmn]]
 clear hmn hd0
 generalize 0=i at hle ⊢
 induction m generalizing i with
 | zero =>
  rw [List.drop_of_length_le (by omega),List.drop_of_length_le (by omega)]
  simp
 | succ m ih =>
  have h1:i<xs.length:=by omega
  have h2:i<ys.length:=by omega
  have hdec:xs.drop i=ys.drop i↔(xs[i]=ys[i]∧xs.drop (i+1)=ys.drop (i+1)):=by
   rw [List.drop_eq_getElem_cons h1,List.drop_eq_getElem_cons h2,List.cons.injEq]
  have hdec2:decide (xs.drop i=ys.drop i)=(decide (xs[i]=ys[i])&&decide (xs.drop (i+1)=ys.drop (i+1))):=by
   rw [Bool.eq_iff_iff,Bool.and_eq_true,decide_eq_true_iff,decide_eq_true_iff,decide_eq_true_iff]
   exact hdec
  rw [List.range'_succ,hdec2]
  simp only [List.forIn_cons,Sem.run_bind,hp xs i xs[i] (by simp [h1]),hp ys i ys[i] (by simp [h2]),run_equalIn_int w d e k k _ _ he,Result.andThen_ok]
  by_cases hb:xs[i]=ys[i]
  ·simp only [hb,beq_self_eq_true,Bool.not_true,Bool.false_eq_true,if_false,Sem.run_pure,Result.andThen_ok]
   rw [ih (i+1) (by omega)]
   simp only [decide_true,Bool.true_and]
  ·have hb':(xs[i]==ys[i])=false:=by simpa using hb
   simp only [hb',hb,decide_false,Bool.false_and,Bool.not_false,if_true,Sem.run_pure,Result.andThen_ok]
theorem run_eqla {P:Program} (w:World) (t e:TypeId) (n:Nat) (k:IntKind) (ht:P.underlying t=some (.array n e)) (he:P.underlying e=some (.int k)) (hs:(P.info? e).map (·.size)=some 1) (xs ys:List Int) (hx:xs.length=n) (hy:ys.length=n) :
  (binOp .eql t (.agg (xs.map (Value.int k)).toArray) (.agg (ys.map (Value.int k)).toArray)).run P w=.ok (.bool (decide (xs=ys))) w:=by
 rw [run_eql_struct,jY w 9998 t e n k ht he hs xs ys hx hy]
 rfl
section
variable {P:Program} {ops:Array Oper} {rest:List Oper} {a:Act} {w w0:World} {Q:Exit→Act→World→Prop} {dst:Option Tmp} {typ:TypeId} {pos:String} {aft:Array Edge} {S:List Nat} {rows:List (Nat×List Value×TypeId)}
theorem fu {ty:TypeId} {x:Operand} (i:Nat) {g:Nat} {l:List Value} {t:TypeId} (off:Nat) (sub:List Value) (hm:Mem w0 S w rows) (hi:rows[i]?=some (g,l,t)) (hx:a.eval x=.pointer (some ⟨g,off,none⟩))
  (d:TypeDesc) (hu:P.underlying ty=some d) (hd:(match d with | .struct _ | .array _ _=>true|_=>false)=true) (n:Nat) (hs:(P.info? ty).map (·.size)=some n) (hn:off+n≤l.length) (hsub:(l.drop off).take n=sub)
  (h:wpList P ops Q rest (a.put dst (.agg sub.toArray)) w) :
  wpList P ops Q ({dst:=dst,op:=.load ty x,type:=typ,pos:=pos,after:=aft,guard:=none}::rest) a w:=by
 refine wpList_plain rfl fun K hK=>?_
 have hh:=hK _ _ h
 unfold Oper.wp execOp
 simp only [hx,Instr.loadAt,Instr.sureAddr,Sem.run_bind,Sem.run_pure,Result.andThen_ok,cZ w g off n ty t l d (hm.get i hi) hu hd hs hn,hsub]
 exact hh
theorem wpl_sts {ty:TypeId} {x y:Operand} (i:Nat) {g:Nat} {l:List Value} {t:TypeId} (off:Nat) (cs new:List Value) (hm:Mem w0 S w rows) (hi:rows[i]?=some (g,l,t)) (hx:a.eval x=.pointer (some ⟨g,off,none⟩))
  (hy:a.eval y=.agg cs.toArray) (n:Nat) (hs:(P.info? ty).map (·.size)=some n) (hn:cs.length=n) (hl:off+n≤l.length) (h1:∀v∈cs,v.oneCell'=true) (hnew:splice l off cs=new)
  (h:∀w',Mem w0 S w' (rows.set i (g,new,t))→wpList P ops Q rest a w') :
  wpList P ops Q ({dst:=none,op:=.store ty x y,type:=typ,pos:=pos,after:=aft,guard:=none}::rest) a w:=by
 refine wpList_plain rfl fun K hK=>?_
 have hr:=hm.get i hi
 subst hnew
 have hh:=hK _ _ (h _ (hm.upd i hi (Upd.setRow g w (splice l off cs).toArray) (hr.setRow _)))
 unfold Oper.wp execOp
 simp only [hx,hy,Instr.storeAt,Instr.sureAddr,Sem.run_bind,Sem.run_pure,Result.andThen_ok,e8 w g off ty t l cs hr (by rw [hs,hn]) (by omega) h1]
 exact hh
theorem cI {d s:Operand} {dT sT:TypeId} (i:Nat) {g:Nat} {l:List Value} {t:TypeId} (off dLen dCap:Nat) (ad:Addr) (sLen sCap:Nat) (cs:List Value) (n:Nat) (new:List Value) (hm:Mem w0 S w rows) (hi:rows[i]?=some (g,l,t))
  (hd:a.eval d=.slice (some ⟨g,off,none⟩) dLen dCap) (hs:a.eval s=.slice (some ad) sLen sCap) (elem:TypeId) (hu:P.underlying dT=some (.slice elem)) (hsz:(P.info? elem).map (·.size)=some 1)
  (hcn:cs.length=n) (hn:n=Nat.min sLen dLen) (hsrc:∀j v,cs[j]?=some v→w.cell? (ad.add j)=some v) (hfit:off+n≤l.length) (h1:∀v∈cs,v.oneCell'=true) (hnew:splice l off cs=new)
  (h:∀w',Mem w0 S w' (rows.set i (g,new,t))→wpList P ops Q rest (a.put dst (.int .i64 n)) w') :
  wpList P ops Q ({dst:=dst,op:=.call {callee:=.builtin .copy,args:=#[d,s],argTypes:=#[dT,sT]},type:=typ,pos:=pos,after:=aft,guard:=none}::rest) a w:=by
 subst hcn hnew
 exact iU i off dLen dCap ad sLen sCap cs hm hi hd hs elem hu hsz hn hsrc hfit h1 h
theorem jW {ty:TypeId} {x lo:Operand} (elem:TypeId) (hu:P.underlying ty=some (.slice elem)) (hs:(P.info? elem).map (·.size)=some 1) {p:Option Addr} {len cap:Nat} (n:Nat) {i:Int} (hx:a.eval x=.slice p len cap) (hlo:a.eval lo=.int .i64 i) (hi:i=(n:Int)) (hn:n≤len)
  (h:∀p',p'=(if cap=n then p else p.map (·.add n))→wpList P ops Q rest (a.put dst (.slice p' (len - n) (cap - n))) w) :
  wpList P ops Q ({dst:=dst,op:=.slice ty x (some lo) none none,type:=typ,pos:=pos,after:=aft,guard:=none}::rest) a w:=by
 subst hi
 refine wpList_plain rfl fun K hK=>?_
 have hh:=hK _ _ (h _ rfl)
 have hr:(Instr.sliceAt ty (.slice p len cap) (some (.int .i64 (n:Int))) none none).run P w=.ok (.slice (if cap=n then p else p.map (·.add n)) (len - n) (cap - n)) w:=by
  cases hq:P.info? elem with
  | none=>simp [hq] at hs
  | some q =>
   have hs1:q.size=1:=by simpa [hq] using hs
   have hsz:(sizeOf elem).run P w=.ok 1 w:=by simp [sizeOf,typeInfo,hq,hs1]
   have hb:(Instr.sliceBounds true len cap (some (.int .i64 (n:Int))) none none).run P w=.ok (n,len,cap) w:=by
    have:=run_sliceBound (P:=P) w .i64 (n:Int) len .sliceB (by omega) (by omega)
    simp [Instr.sliceBounds,this]
   simp [Instr.sliceAt,Instr.slice,run_underlying hu,hb,hsz]
 unfold Oper.wp execOp
 simp only [hx,hlo,Option.map_some,Option.map_none,hr,Sem.run_bind,Sem.run_pure,Result.andThen_ok]
 exact hh
theorem ay {ty:TypeId} {pl:List (Nat×Operand)} (l:List Value) (ps:List (Nat×Value)) (hps:(pl.map fun p=>(p.1,a.eval p.2))=ps) (hb:P.built ty ps=some l.toArray)
  (h:wpList P ops Q rest (a.put dst (.agg l.toArray)) w) :
  wpList P ops Q ({dst:=dst,op:=.build ty pl.toArray,type:=typ,pos:=pos,after:=aft,guard:=none}::rest) a w:=by
 refine wpList_plain rfl fun K hK=>?_
 have hh:=hK _ _ h
 have e:(pl.toArray.map fun (i,x)=>(i,a.eval x)).toList=pl.map fun p=>(p.1,a.eval p.2):=by simp
 refine wp_build ty pl.toArray rfl (by rw [e,hps,hb];rfl) ?_
 rw [e,hps,hb]
 exact hh
theorem ff {ty:TypeId} {x y:Operand} (elem:TypeId) (hu:P.underlying ty=some (.slice elem)) (z:Value) (hi:(P.info? elem).map (fun i=>(i.zero,i.size,i.bytes))=some (some z,1,1)) (hz:z.cells=#[z]) (n:Nat) {i j:Int} (hx:a.eval x=.int .i64 i) (hxi:i=(n:Int)) (hy:a.eval y=.int .i64 j) (hyj:j=(n:Int)) (hn:n≤65536) (hm:Mem w0 S w rows)
  (h:∀w' g,Mem w0 S w' ((g,List.replicate n z,elem)::rows)→wpList P ops Q rest (a.put dst (.slice (some ⟨g,0,none⟩) n n)) w') :
  wpList P ops Q ({dst:=dst,op:=.makeSlice ty x y,type:=typ,pos:=pos,after:=aft,guard:=none}::rest) a w:=by
 subst hxi hyj
 refine wpList_plain rfl fun K hK=>?_
 have hh:=hK _ _ (h _ _ (hm.alloc (List.replicate n z) elem))
 have hr:(Instr.makeSlice ty (.int .i64 (n:Int)) (.int .i64 (n:Int))).run P w=.ok (.slice (some ⟨w.heap.size,0,none⟩) n n) (w.alloc (.cells (List.replicate n z).toArray elem)):=by
  cases hq:P.info? elem with
  | none=>simp [hq] at hi
  | some q =>
   simp only [hq,Option.map_some,Option.some.injEq,Prod.mk.injEq] at hi
   obtain ⟨h0,h1,h2⟩:=hi
   have:=run_makeSlice (P:=P) w ty elem q z hu hq h0 .i64 .i64 (n:Int) (n:Int) (by omega) (by omega) (by rw [h1];simp;omega) (by rw [h2];simp;omega) (by omega)
   rw [this,h1,hz]
   have e:madeCells #[z] ((n:Int).toNat * 1)=(List.replicate n z).toArray:=by
    unfold madeCells
    apply Array.ext
    ·simp
    ·intro k h1 h2
     simp [Nat.mod_one]
   rw [e]
   simp
 unfold Oper.wp execOp
 simp only [hx,hy,Sem.run_bind,Sem.run_pure,Result.andThen_ok,hr]
 exact hh
end
section
variable {P:Program} {ops:Array Oper} {rest:List Oper} {a:Act} {w w0:World} {Q:Act→Prop} {dst:Option Tmp} {typ:TypeId} {pos:String} {aft:Array Edge} {S:List Nat} {rows:List (Nat×List Value×TypeId)}
theorem gw {o:Oper} (hg:o.guard=none) (v:Value) (hr:(execOp a.eval o).run P w=.ok (.value v) w) (h:wpStill P ops w Q rest (a.put o.dst v)):wpStill P ops w Q (o::rest) a:=by
 refine wpStill_step fun K hK=>?_
 rw [if_pos (by simp [Region.wanted,hg])]
 unfold Oper.still
 rw [hr]
 exact ⟨rfl,hK _ h⟩
theorem gt {ty:TypeId} {x:Operand} {lo hi:Option Operand} (n:Nat) {elem:TypeId} (hu:P.underlying ty=some (.array n elem)) (hs:(P.info? elem).map (·.size)=some 1) {g o:Nat} (l m:Nat) (hlm:l+m≤n) (hln:l<n) (hx:a.eval x=.pointer (some ⟨g,o,none⟩))
  (hlo:lo.map a.eval=some (.int .i64 l)∨(lo.map a.eval=none∧l=0)) (hhi:hi.map a.eval=some (.int .i64 (l+m:Nat))∨(hi.map a.eval=none∧l+m=n))
  (h:wpStill P ops w Q rest (a.put dst (.slice (some ⟨g,o+l,none⟩) m (n - l)))) :
  wpStill P ops w Q ({dst:=dst,op:=.slice ty x lo hi none,type:=typ,pos:=pos,after:=aft,guard:=none}::rest) a:=by
 have hr:=run_sla (P:=P) w hu hs g o l m hlm hln (lo.map a.eval) (hi.map a.eval) hlo hhi
 refine gw rfl _ ?_ h
 unfold execOp
 simp only [hx,Option.map_none,hr,Sem.run_bind,Sem.run_pure,Result.andThen_ok]
theorem ie {ty:TypeId} {x:Operand} (i:Nat) {g:Nat} {l:List Value} {t:TypeId} (off:Nat) (sub:List Value) (hm:Mem w0 S w rows) (hi:rows[i]?=some (g,l,t)) (hx:a.eval x=.pointer (some ⟨g,off,none⟩))
  (d:TypeDesc) (hu:P.underlying ty=some d) (hd:(match d with | .struct _ | .array _ _=>true|_=>false)=true) (n:Nat) (hs:(P.info? ty).map (·.size)=some n) (hn:off+n≤l.length) (hsub:(l.drop off).take n=sub)
  (h:wpStill P ops w Q rest (a.put dst (.agg sub.toArray))) :
  wpStill P ops w Q ({dst:=dst,op:=.load ty x,type:=typ,pos:=pos,after:=aft,guard:=none}::rest) a:=by
 refine gw rfl _ ?_ h
 unfold execOp
 simp only [hx,Instr.loadAt,Instr.sureAddr,Sem.run_bind,Sem.run_pure,Result.andThen_ok,cZ w g off n ty t l d (hm.get i hi) hu hd hs hn,hsub]
end
theorem cU {P:Program} {id:Nat} {Q:Exit→Act→World→Prop} {a:Act} {w w0:World} {S:List Nat} {rows:List (Nat×List Value×TypeId)} {l:List Oper} (n:Nat) (hmix:P.follows .mixedOrders=true) (hB:Region.lexTailB .any l.toArray n=true) (hm:Mem w0 S w rows)
  (h:∀w',Mem w0 S w' rows→wpStill P l.toArray w' (fun a'=>wpList P l.toArray Q (l.drop n) a' w') (l.take n) a):(Code.region id l.toArray true).wp P Q a w :=
 wp_region_still_tail n hmix hB (h _ hm.drew)
def Sl (w:World) (g:Nat) (v:Value) (cs:List Int):Prop :=
 ∃p cap,v=.slice p cs.length cap∧cs.length≤cap∧(0<cs.length→∃b off,p=some ⟨b,off,none⟩∧b≠g∧Seg w b off cs)
def slLen:Value→Nat
 | .slice _ n _=>n
 | _=>0
theorem sl_drop {w:World} {g b off cap n:Nat} {cs:List Int} {p:Option Addr} (hc:cs.length≤cap) (hn:n≤cs.length) (hne:b≠g) (hs:Seg w b off cs) (hp:p=(if cap=n then some ⟨b,off,none⟩ else (some (⟨b,off,none⟩:Addr)).map (·.add n))) :
  Sl w g (.slice p (cs.length - n) (cap - n)) (cs.drop n):=by
 refine ⟨p,cap - n,by simp,by simp;omega,fun h=>?_⟩
 have hlt:n<cs.length:=by simp at h;omega
 rw [if_neg (by omega)] at hp
 exact ⟨b,off+n,by rw [hp];simp [bK],hne,hs.drop n⟩
open Go Go.RowKit
def Bytes (l:List Int):Prop:=∀x∈l,0≤x∧x<256
theorem Bytes.get {l:List Int} (h:Bytes l) (j:Nat):0≤l.getD j 0∧l.getD j 0<256:=by
 rcases Nat.lt_or_ge j l.length with hj|hj
 ·have:=h l[j] (List.getElem_mem hj)
  simpa [hj] using this
 ·simp [List.getElem?_eq_none hj]
theorem Bytes.append {l l':List Int} (h:Bytes l) (h':Bytes l'):Bytes (l++l'):=by
 intro x hx
 rcases List.mem_append.1 hx with hx|hx
 ·exact h x hx
 ·exact h' x hx
theorem Bytes.take {l:List Int} (h:Bytes l) (n:Nat):Bytes (l.take n):=fun x hx=>h x (List.mem_of_mem_take hx)
theorem Bytes.drop {l:List Int} (h:Bytes l) (n:Nat):Bytes (l.drop n):=fun x hx=>h x (List.mem_of_mem_drop hx)
theorem Bytes.zeros (n:Nat):Bytes (List.replicate n 0):=by
 intro x hx
 have:=List.eq_of_mem_replicate hx
 omega
theorem Bytes.splice {l cs:List Int} (h:Bytes l) (hc:Bytes cs) (off:Nat):Bytes (Go.splice l off cs) :=
 (h.take _).append (hc.append (h.drop _))
theorem Bytes.set {l:List Int} (h:Bytes l) (i:Nat) (x:Int) (hx:0≤x∧x<256):Bytes (l.set i x):=by
 intro y hy
 rcases List.mem_or_eq_of_mem_set hy with hy|rfl
 ·exact h y hy
 ·exact hx
def firstW:List Int:=[1779033703,3144134277,1013904242,2773480762,1359893119,2600822924,528734635,1541459225]
theorem rnd_length (k x:Int) (l:List Int) (h:l.length=8):(rnd k x l).length=8:=by
 match l,h with
 | [a,b,c,d,e,f,g,h],_=>rfl
theorem fa (ws W:List Int) (h:ws.length=8) (k:Nat):(shaRounds ws W k).length=8:=by
 induction k with
 | zero=>exact h
 | succ k ih=>exact rnd_length _ _ _ ih
theorem bp (ws bs:List Int) (h:ws.length=8):(mix ws bs).length=8:=dS _ _ h (fa _ _ h _)
def absorb (m:List Int):Nat→List Int
 | 0=>firstW
 | k+1=>mix (absorb m k) ((m.drop (64 * k)).take 64)
theorem cj (m:List Int) (k:Nat):(absorb m k).length=8:=by
 induction k with
 | zero=>rfl
 | succ k ih=>exact bp _ _ ih
theorem gK (m d:List Int) (k:Nat) (h:64 * k≤m.length):absorb (m++d) k=absorb m k:=by
 induction k with
 | zero=>rfl
 | succ k ih =>
  have e:((m++d).drop (64 * k)).take 64=(m.drop (64 * k)).take 64:=by
   rw [List.drop_append_of_le_length (by omega),List.take_append_of_le_length (by simp;omega)]
  rw [absorb,absorb,ih (by omega),e]
def wsOf (m:List Int):List Int:=absorb m (m.length / 64)
def tailOf (m:List Int):List Int:=m.drop (64 * (m.length / 64))
def restOf (m:List Int):List Int:=tailOf m++List.replicate (64 - m.length % 64) 0
theorem bC (m:List Int):(wsOf m).length=8:=cj _ _
theorem cJ (m:List Int):(tailOf m).length=m.length % 64:=by simp [tailOf];omega
theorem bQ (m:List Int):(restOf m).length=64:=by simp [restOf,cJ];omega
theorem iR {m:List Int} (h:Bytes m):Bytes (restOf m):=(h.drop _).append (Bytes.zeros _)
theorem kt (m:List Int) (h:m.length<64):wsOf m=firstW:=by
 have e:m.length / 64=0:=by omega
 rw [wsOf,e];rfl
theorem fQ (m d:List Int) (h:m.length % 64+d.length≤64):splice (restOf m) (m.length % 64) d=tailOf m++d++List.replicate (64 - (m.length % 64+d.length)) 0:=by
 have hl:=cJ m
 have e1:(restOf m).take (m.length % 64)=tailOf m:=by
  unfold restOf
  rw [List.take_append_of_le_length (by omega),List.take_of_length_le (by omega)]
 have e2:(restOf m).drop (m.length % 64+d.length)=List.replicate (64 - (m.length % 64+d.length)) 0:=by
  unfold restOf
  rw [List.drop_append,List.drop_of_length_le (by omega),hl,List.nil_append,List.drop_replicate]
  congr 1
  omega
 unfold splice
 rw [e1,e2,List.append_assoc]
theorem more_ws (m d:List Int) (h:m.length % 64+d.length<64):wsOf (m++d)=wsOf m:=by
 have e:(m++d).length / 64=m.length / 64:=by simp;omega
 rw [wsOf,e,gK m d _ (by omega),wsOf]
theorem more_rest (m d:List Int) (h:m.length % 64+d.length<64):restOf (m++d)=splice (restOf m) (m.length % 64) d:=by
 have e:(m++d).length / 64=m.length / 64:=by simp;omega
 have e2:(m++d).length % 64=m.length % 64+d.length:=by simp;omega
 rw [fQ m d (by omega),restOf,tailOf,e,e2,List.drop_append_of_le_length (by omega),tailOf]
theorem j2 (m d:List Int) (h:m.length % 64+d.length=64):wsOf (m++d)=mix (wsOf m) (splice (restOf m) (m.length % 64) d):=by
 have e:(m++d).length / 64=m.length / 64+1:=by simp;omega
 have e3:((m++d).drop (64 * (m.length / 64))).take 64=tailOf m++d:=by
  rw [List.drop_append_of_le_length (by omega),List.take_of_length_le (by have:=cJ m;unfold tailOf at this;simp at this ⊢;omega),tailOf]
 rw [fQ m d (by omega),wsOf,e,absorb,gK m d _ (by omega),e3,h]
 simp [wsOf]
theorem full_rest (m d:List Int) (h:m.length % 64+d.length=64):restOf (m++d)=List.replicate 64 0:=by
 have e:(m++d).length % 64=0:=by simp;omega
 have hl:=cJ (m++d)
 rw [e] at hl
 rw [restOf,List.eq_nil_of_length_eq_zero hl,e]
 rfl
def hrow (ws rest:List Int) (n:Int):List Value:=u32s ws++(u8s rest++[.int .i64 n])
theorem df (ws rest:List Int) (n:Int) (h:ws.length=8) (h':rest.length=64):(hrow ws rest n).length=73:=by simp [hrow,ao,aa,h,h']
theorem hrow_rest (ws rest:List Int) (n:Int) (h:ws.length=8) (h':rest.length=64):((hrow ws rest n).drop 8).take 64=u8s rest:=by
 rw [hrow,List.drop_append,List.drop_of_length_le (by rw [ao];omega),ao,h,List.nil_append,Nat.sub_self,List.drop_zero,List.take_append_of_le_length (by rw [aa];omega),List.take_of_length_le (by rw [aa];omega)]
theorem gx (ws rest:List Int) (n:Int) (h:ws.length=8) (h':rest.length=64):(hrow ws rest n)[72]?=some (.int .i64 n):=by
 rw [hrow,List.getElem?_append_right (by rw [ao];omega),List.getElem?_append_right (by rw [aa,ao];omega),aa,ao,h,h']
 rfl
theorem hrow_setSize (ws rest:List Int) (n n':Int) (h:ws.length=8) (h':rest.length=64):(hrow ws rest n).set 72 (.int .i64 n')=hrow ws rest n':=by
 rw [hrow,List.set_append_right _ _ (by rw [ao];omega),List.set_append_right _ _ (by rw [aa,ao];omega),aa,ao,h,h']
 rfl
theorem lw (ws ws' rest:List Int) (n:Int) (h:ws.length=8) (h':ws'.length=8):splice (hrow ws rest n) 0 (u32s ws')=hrow ws' rest n:=by
 unfold splice hrow
 rw [List.take_zero,List.nil_append,ao,h',Nat.zero_add,List.drop_append,List.drop_of_length_le (by rw [ao];omega),ao,h]
 rfl
theorem iK (ws rest:List Int) (n:Int) (off:Nat) (cs:List Int) (h:ws.length=8) (h':rest.length=64) (hc:off+cs.length≤64):splice (hrow ws rest n) (8+off) (u8s cs)=hrow ws (splice rest off cs) n:=by
 unfold splice hrow
 rw [aa,List.take_append,List.take_of_length_le (by rw [ao];omega),ao,h,List.drop_append,List.drop_of_length_le (by rw [ao];omega),ao,h,
  show 8+off - 8=off by omega,show 8+off+cs.length - 8=off+cs.length by omega,List.take_append_of_le_length (by rw [aa];omega),List.drop_append_of_le_length (by rw [aa];omega)]
 simp [u8s]
def be8 (n:Int):List Int :=
 [n / 256 / 256 / 256 / 256 / 256 / 256 / 256 % 256,n / 256 / 256 / 256 / 256 / 256 / 256 % 256,n / 256 / 256 / 256 / 256 / 256 % 256,n / 256 / 256 / 256 / 256 % 256,n / 256 / 256 / 256 % 256,n / 256 / 256 % 256,n / 256 % 256,n % 256]
theorem dH (n:Int):Bytes (be8 n):=by
 intro x hx
 simp only [be8,List.mem_cons,List.not_mem_nil,or_false] at hx
 rcases hx with rfl|rfl|rfl|rfl|rfl|rfl|rfl|rfl<;>omega
def fin (ws rest:List Int) (n:Nat):List Int :=
 if 56≤n % 64 then mix (mix ws (rest.set (n % 64) 128)) (splice (List.replicate 64 0) 56 (be8 (n * 8)))
 else mix ws (splice (rest.set (n % 64) 128) 56 (be8 (n * 8)))
theorem fin_length (ws rest:List Int) (n:Nat) (h:ws.length=8):(fin ws rest n).length=8:=by
 unfold fin;split
 ·exact bp _ _ (bp _ _ h)
 ·exact bp _ _ h
def asB (ws:List Int):List Int:=ws.flatMap four
theorem cE (ws:List Int) (h:ws.length=8):(asB ws).length=32:=by
 match ws,h with
 | [a,b,c,d,e,f,g,h],_=>rfl
theorem four_bytes (x:Int):Bytes (four x):=by
 intro y hy
 simp only [four,List.mem_cons,List.not_mem_nil,or_false] at hy
 rcases hy with rfl|rfl|rfl|rfl<;>omega
theorem asB_bytes (ws:List Int):Bytes (asB ws):=by
 intro y hy
 obtain ⟨x,_,hx⟩:=List.mem_flatMap.1 hy
 exact four_bytes x y hx
def asRow (ws:List Int) (k:Nat):List Int:=asB (ws.take k)++List.replicate (32 - 4 * k) 0
theorem fE (ws:List Int) (h:ws.length=8) (k:Nat) (hk:k≤8):(asB (ws.take k)).length=4 * k:=by
 have:∀l:List Int,(asB l).length=4 * l.length:=by
  intro l
  induction l with
  | nil=>rfl
  | cons x l ih=>simp [asB,four] at ih ⊢;omega
 rw [this]
 simp
 omega
theorem asRow_length (ws:List Int) (h:ws.length=8) (k:Nat) (hk:k≤8):(asRow ws k).length=32:=by simp [asRow,fE ws h k hk];omega
theorem asRow_full (ws:List Int) (h:ws.length=8):asRow ws 8=asB ws:=by
 unfold asRow
 rw [List.take_of_length_le (by omega)]
 simp
theorem asRow_step (ws:List Int) (h:ws.length=8) (k:Nat) (hk:k<8):splice (asRow ws k) (4 * k) (four (ws.getD k 0))=asRow ws (k+1):=by
 have hl:=fE ws h k (by omega)
 have h4:(four (ws.getD k 0)).length=4:=rfl
 have e1:(asRow ws k).take (4 * k)=asB (ws.take k):=by
  unfold asRow
  rw [List.take_append_of_le_length (by omega),List.take_of_length_le (by omega)]
 have e2:(asRow ws k).drop (4 * k+4)=List.replicate (32 - 4 * (k+1)) 0:=by
  unfold asRow
  rw [List.drop_append,List.drop_of_length_le (by omega),hl,List.nil_append,List.drop_replicate]
  congr 1
  omega
 have e3:asB (ws.take (k+1))=asB (ws.take k)++four (ws.getD k 0):=by
  have hg:ws.getD k 0=ws[k]'(by omega):=by simp [show k<ws.length by omega]
  unfold asB
  rw [List.take_succ_eq_append_getElem (by omega),List.flatMap_append,hg,List.flatMap_cons,List.flatMap_nil,List.append_nil]
 unfold splice
 rw [h4,e1,e2,asRow,e3,List.append_assoc]
def shaOf (m:List Int):List Int:=asB (fin (wsOf m) (restOf m) m.length)
theorem be (m:List Int):(shaOf m).length=32:=cE _ (fin_length _ _ _ (bC m))
theorem eL (m:List Int):Bytes (shaOf m):=asB_bytes _
def hexDigit (x:Int):Int:=[48,49,50,51,52,53,54,55,56,57,97,98,99,100,101,102].getD x.toNat 0
def hexOf (l:List Int):List Int:=l.flatMap fun c=>[hexDigit (c / 16),hexDigit (c % 16)]
open Go Go.RowKit
theorem info_hash:(Tryz.prog.info? 255).map (fun i=>(i.zero,i.size))=some (some (.agg (hrow (List.replicate 8 0) (List.replicate 64 0) 0).toArray),73):=by kernel_rfl
theorem sz_hash:(Tryz.prog.info? 255).map (·.size)=some 73:=(zero_of_info info_hash).2
theorem zero_hash:∀w,(zeroValue 255).run Tryz.prog w=.ok (.agg (hrow (List.replicate 8 0) (List.replicate 64 0) 0).toArray) w:=(zero_of_info info_hash).1
theorem sz_int:(Tryz.prog.info? 3).map (·.size)=some 1:=by kernel_rfl
theorem ji:∀w,(isAgg 3).run Tryz.prog w=.ok false w:=by intro w;simp [go_sem]
theorem bF:(Tryz.prog.info? 5).map (fun i=>(i.zero,i.size,i.bytes))=some (some (.int .u8 0),1,1):=by kernel_rfl
theorem built_new:Tryz.prog.built 255 [(0,.agg (u32s firstW).toArray)]=some (hrow firstW (List.replicate 64 0) 0).toArray:=by kernel_rfl
theorem built_b64:Tryz.prog.built 108 []=some (u8s (List.replicate 64 0)).toArray:=by kernel_rfl
theorem li (w:World) :
  Calls Tryz.prog 205 #[] w fun e w'=>e=.returned (.agg (u32s firstW).toArray)∧Below w.heap.size w w':=by
 go_enter Tryz.func205,Tryz.ntmps205
 go_wp2
 refine bodyPost_ret (v:=.agg (u32s firstW).toArray) (by simp [results,Tryz.results205,go_sem,u32s,firstW]) rfl ⟨rfl,?_⟩
 exact (Below.refl _ _).alloc (Nat.le_refl _) _
theorem begun_first (g:Nat) (rs:List Int) (n:Int) (hrs:rs.length=64) (hn:n<64) (w:World) (hr:Row w g (hrow firstW rs n) 255) :
  Calls Tryz.prog 190 #[.pointer (some ⟨g,0,none⟩)] w fun e w'=>e=.returned (.agg (u32s firstW).toArray)∧Below w.heap.size w w':=by
 have hc:w.cell? ⟨g,72,none⟩=some (.int .i64 n):=by rw [hr.cell,gx firstW rs n rfl hrs]
 have hg:g<w.heap.size:=hr.lt
 have c0:w.cell? ⟨g,0,none⟩=some (.int .u32 1779033703):=hr.cell 0
 have c1:w.cell? ⟨g,1,none⟩=some (.int .u32 3144134277):=hr.cell 1
 have c2:w.cell? ⟨g,2,none⟩=some (.int .u32 1013904242):=hr.cell 2
 have c3:w.cell? ⟨g,3,none⟩=some (.int .u32 2773480762):=hr.cell 3
 have c4:w.cell? ⟨g,4,none⟩=some (.int .u32 1359893119):=hr.cell 4
 have c5:w.cell? ⟨g,5,none⟩=some (.int .u32 2600822924):=hr.cell 5
 have c6:w.cell? ⟨g,6,none⟩=some (.int .u32 528734635):=hr.cell 6
 have c7:w.cell? ⟨g,7,none⟩=some (.int .u32 1541459225):=hr.cell 7
 clear hr
 have heq:∀W,(Op.equalIn 10000 222 (.agg #[.int .u32 1779033703,.int .u32 3144134277,.int .u32 1013904242,.int .u32 2773480762,.int .u32 1359893119,.int .u32 2600822924,.int .u32 528734635,.int .u32 1541459225]) (.agg #[.int .u32 0,.int .u32 0,.int .u32 0,.int .u32 0,.int .u32 0,.int .u32 0,.int .u32 0,.int .u32 0])).run Tryz.prog W=.ok false W:=by
  intro W
  have:=jY (P:=Tryz.prog) W 9998 222 69 8 .u32 eA Tryz.underlying69 dB firstW (List.replicate 8 0) rfl rfl
  exact this
 go_enter Tryz.func190,Tryz.ntmps190
 go_wp2
 refine bodyPost_ret (v:=.agg (u32s firstW).toArray) (by simp [results,Tryz.results190,go_sem,u32s,firstW]) rfl ⟨rfl,?_⟩
 exact (Below.refl _ _).alloc (Nat.le_refl _) _
theorem begun_later (g:Nat) (ws rs:List Int) (n:Int) (hws:ws.length=8) (hrs:rs.length=64) (hn:64≤n) (w:World) (hr:Row w g (hrow ws rs n) 255) :
  Calls Tryz.prog 190 #[.pointer (some ⟨g,0,none⟩)] w fun e w'=>e=.returned (.agg (u32s ws).toArray)∧Below w.heap.size w w':=by
 have hc:w.cell? ⟨g,72,none⟩=some (.int .i64 n):=by rw [hr.cell,gx ws rs n hws hrs]
 match ws,hws with
 | [x0,x1,x2,x3,x4,x5,x6,x7],_ =>
 have hg:g<w.heap.size:=hr.lt
 have c0:w.cell? ⟨g,0,none⟩=some (.int .u32 x0):=hr.cell 0
 have c1:w.cell? ⟨g,1,none⟩=some (.int .u32 x1):=hr.cell 1
 have c2:w.cell? ⟨g,2,none⟩=some (.int .u32 x2):=hr.cell 2
 have c3:w.cell? ⟨g,3,none⟩=some (.int .u32 x3):=hr.cell 3
 have c4:w.cell? ⟨g,4,none⟩=some (.int .u32 x4):=hr.cell 4
 have c5:w.cell? ⟨g,5,none⟩=some (.int .u32 x5):=hr.cell 5
 have c6:w.cell? ⟨g,6,none⟩=some (.int .u32 x6):=hr.cell 6
 have c7:w.cell? ⟨g,7,none⟩=some (.int .u32 x7):=hr.cell 7
 clear hr
 go_enter Tryz.func190,Tryz.ntmps190
 go_wp2
 refine bodyPost_ret (v:=.agg (u32s [x0,x1,x2,x3,x4,x5,x6,x7]).toArray) (by simp [results,Tryz.results190,go_sem,u32s]) rfl ⟨rfl,?_⟩
 exact (Below.refl _ _).alloc (Nat.le_refl _) _
theorem en (g:Nat) (ws rs:List Int) (n:Int) (hws:ws.length=8) (hrs:rs.length=64) (hn:n<64→ws=firstW) (w:World) (hr:Row w g (hrow ws rs n) 255) :
  Calls Tryz.prog 190 #[.pointer (some ⟨g,0,none⟩)] w fun e w'=>e=.returned (.agg (u32s ws).toArray)∧Below w.heap.size w w':=by
 by_cases h:n<64
 ·have:=hn h
  subst this
  exact begun_first g rs n hrs h w hr
 ·exact begun_later g ws rs n hws hrs (by omega) w hr
theorem new_any (w:World) :
  Calls Tryz.prog 204 #[] w fun e w'=>∃g,e=.returned (.pointer (some ⟨g,0,none⟩))∧w.heap.size≤g∧Row w' g (hrow firstW (List.replicate 64 0) 0) 255∧Below w.heap.size w w':=by
 have hm:=Mem.start w
 go_enter Tryz.func204,Tryz.ntmps204
 go_wp2_with (first
  | (go_at_call 205;refine (li _).mono ?_;rintro e w1 ⟨rfl,hb⟩;replace hm:=hm.call hb;clear hb)
  | ((with_reducible refine ae (some 2) (.build 255 #[(0,.tmp 1)]) ?_);go_must (refine ay (hrow firstW (List.replicate 64 0) 0) [(0,.agg (u32s firstW).toArray)] rfl built_new ?_))
  | ((with_reducible refine ae (some 3) (.box 255 (.tmp 2)) ?_);refine az (hrow firstW (List.replicate 64 0) 0) rfl hm ?_;clear hm;intro w2 g hm))
 go_ret
 have hf:=hm.fresh _ (List.mem_cons_self ..)
 exact ⟨g,rfl,by simpa using hf,hm.get 0 rfl,hm.below⟩
theorem gV (w:World) :
  Calls Tryz.prog 119 #[.int .i64 8] w fun e w'=>e=.returned (.int .i64 8)∧w'=w:=by
 go_enter Tryz.func119,Tryz.ntmps119
 go_wp2
 go_ret
 exact ⟨rfl,rfl⟩
theorem longer_nil (w:World) :
  Calls Tryz.prog 120 #[.slice none 0 0,.int .i64 8] w fun e w'=>∃g,e=.returned (.slice (some ⟨g,0,none⟩) 8 8)∧w.heap.size≤g∧Row w' g (u8s (List.replicate 8 0)) 5∧Below w.heap.size w w':=by
 have hm:=Mem.start w
 have hcp:∀(g:Nat) (W:World),(Builtin.copy_ #[56,56] 3 #[.slice (some ⟨g,0,none⟩) 8 8,.slice none 0 0]).run Tryz.prog W=.ok (goInt 0) W:=fun g W=>run_copy_nil (P:=Tryz.prog) W _ _ _ _ _ 8 8 aF (by rw [aQ];rfl)
 go_enter Tryz.func120,Tryz.ntmps120
 go_wp2_with (first
  | ((with_reducible refine ae (some 10) (.makeSlice 56 (.tmp 9) (.tmp 9)) ?_);refine ff _ aF _ bF rfl 8 rfl rfl rfl rfl (by omega) hm ?_;clear hm;intro w1 g hm))
 go_ret
 have hf:=hm.fresh _ (List.mem_cons_self ..)
 exact ⟨g,rfl,by simpa using hf,hm.get 0 rfl,hm.below⟩
end Go.Proofs.YtlpnafdkhoimhaaGreatDoor
namespace Go.Proofs.YtlpnafdkhoimhaaGreatDoor
open Go Go.RowKit
theorem jR (g:Nat) (n:Int) (w:World) (hr:Row w g (u8s (List.replicate 8 0)) 5) :
  Calls Tryz.prog 121 #[.slice (some ⟨g,0,none⟩) 8 8,.int .u64 n] w fun e w'=>e=.returned (.tuple #[])∧Row w' g (u8s (be8 n)) 5∧Upd g w w':=by
 have hm:=Mem.enter hr
 clear hr
 go_enter Tryz.func121,Tryz.ntmps121
 go_wp2_with fail
 refine wp_loop_rounds 9 ?_
 iterate 9 (rw [rounds_succ];go_wp2_with (first
  | (((with_reducible refine ae none (.store 5 (.tmp 16) (.tmp 15)) ?_);refine bj 0 _ _ hm rfl (rfl) rfl aQ (by simp [u8s]) rfl rfl ?_;clear hm;intro w9 hm))))
 go_end0
 exact ⟨rfl,hm.get 0 rfl,hm.toUpd⟩
theorem gq (n:Int) (w:World) :
  Calls Tryz.prog 91 #[.slice none 0 0,.int .u64 n,.int .i64 8] w fun e w'=>∃g,e=.returned (.slice (some ⟨g,0,none⟩) 8 8)∧w.heap.size≤g∧Row w' g (u8s (be8 n)) 5∧Below w.heap.size w w':=by
 have hm:=Mem.start w
 go_enter Tryz.func91,Tryz.ntmps91
 go_wp2_with (first
  | (go_at_call 119;refine (gV _).mono ?_;rintro e w1 ⟨rfl,rfl⟩)
  | (go_at_call 120;refine (longer_nil _).mono ?_;rintro e w2 ⟨g,rfl,hge,hr,hb⟩)
  | (go_at_call 121;refine (jR g n _ hr).mono ?_;rintro e w3 ⟨rfl,hr2,hu⟩))
 go_ret
 exact ⟨g,rfl,hge,hr2,gp hb hu hge hb.size⟩
theorem jQ (ws:List Int) (hws:ws.length=8) (w:World) :
  Calls Tryz.prog 192 #[.agg (u32s ws).toArray] w fun e w'=>e=.returned (.agg (u8s (asB ws)).toArray)∧Below w.heap.size w w':=by
 have hm:=Mem.start w
 go_enter Tryz.func192,Tryz.ntmps192
 go_wp2_with (first
  | ((with_reducible refine ae (some 1) (.box 222 (.tmp 0)) ?_);refine az (u32s ws) rfl hm ?_;clear hm;intro w1 g1 hm)
  | ((with_reducible refine ae (some 2) (.alloc 42) ?_);refine ag _ bz hm ?_;clear hm;intro w2 g2 hm)
  | ((with_reducible refine ae (some 3) (.alloc 42) ?_);refine ag _ bz hm ?_;clear hm;intro w3 g3 hm)
  | ((with_reducible refine ae (some 7) (.load 222 (.tmp 1)) ?_);refine av 2 hm rfl rfl _ eA rfl 8 bU (by rw [ao];exact hws) ?_))

 go_loopw [8] (fun vi wr=>∃k:Nat,k≤8∧vi=.int .i64 k∧Mem w [] wr [(g3,u8s (asRow ws k),42),(g2,u8s (List.replicate 32 0),42),(g1,u32s ws,222)]) (fun vi _=>8 - (intOf vi).toNat)
 case atStart=>exact ⟨0,by omega,rfl,hm⟩
 case round =>
  clear hm
  obtain ⟨k,hk,rfl,hm⟩:=hrel
  by_cases hlt:k<8
  ·obtain ⟨x,hx⟩:∃x,x=ws.getD k 0:=⟨_,rfl⟩
   have hvx:(u32s ws)[k]?=some (.int .u32 x):=by rw [aU _ _ (by omega),hx]
   have e4:IntKind.i64.wrap (4 * (k:Int))=((4 * k:Nat):Int):=by rw [show 4 * (k:Int)=((4 * k:Nat):Int) by omega,hP _ (by omega)]
   have hst:splice (u8s (asRow ws k)) (4 * k) (u8s (four x))=u8s (asRow ws (k+1)):=by
    rw [hx,←asRow_step ws hws k hlt];simp [splice,u8s]
   have hln:4 * k+4≤(u8s (asRow ws k)).length:=by rw [aa,asRow_length ws hws k hk];omega
   have HV:Hid _:=hvx
   have HE:Hid _:=e4
   have HS:Hid _:=hst
   have HL:Hid _:=hln
   clear hvx e4 hst hln hx
   go_wp2_with (first
    | ((with_reducible refine ae (some 11) (.index 222 (.tmp 7) (.tmp 8)) ?_);refine wpl_ixa 8 eA dB ey (u32s ws) k (.int .u32 x) (hlt) rfl rfl (rfl) (HV.out) ?_)
    | (go_at_call 208;refine (putBig_any _ _).mono ?_;rintro e w4 ⟨rfl,hb⟩;replace hm:=hm.call hb;clear hb)
    | ((with_reducible refine ae (some 6) (.alloc 271) ?_);refine ag _ eW hm ?_;clear hm;intro w5 g5 hm)
    | ((with_reducible refine ae none (.store 271 (.tmp 6) (.tmp 13)) ?_);refine ah 0 (u8s (four x)) hm rfl rfl rfl 4 gI (by simp [aa]) (rfl) (ai _) ?_;clear hm;intro w6 hm))

   refine cU 4 (by kernel_rfl) (by kernel_rfl) hm ?_
   clear hm
   intro w7 hm
   simp only [List.take_succ_cons,List.take_zero,List.drop_succ_cons,List.drop_zero]
   still_step
   still_step
   refine gt 32 dV aQ (4 * k) (32 - 4 * k) (by omega) (by omega) rfl (Or.inl (dl _ rfl HE.out)) (Or.inr ⟨rfl,by omega⟩) ?_
   still_step
   refine wpStill_nil ?_
   go_wp2_with (first
    | ((with_reducible refine ae (some 18) (.call {callee:=.builtin .copy,args:=#[.tmp 16,.tmp 17],argTypes:=#[56,56]}) ?_);go_must (refine iU 1 (4 * k) (32 - 4 * k) (32 - 4 * k) ⟨g5,0,none⟩ 4 4 (u8s (four x)) hm rfl rfl rfl _ aF aQ (by have h4:(u8s (four x)).length=4:=rfl;rw [h4];show 4=min 4 (32 - 4 * k);omega) (by exact (Seg.row (hm.get 0 rfl)).src) (by exact HL.out) (ai _) ?_);clear hm;intro w8 hm))

   have hn:Mem w [] w8 [(g3,u8s (asRow ws (k+1)),42),(g2,u8s (List.replicate 32 0),42),(g1,u32s ws,222)]:=by
    rw [HS.out] at hm
    exact hm.tail
   clear hm
   go_roundw
   case rel=>exact ⟨k+1,by omega,by go_num,hn⟩
   case measure=>simp [intOf];omega
  ·have hk8:k=8:=by omega
   subst hk8
   rw [asRow_full ws hws] at hm
   have hln:(u8s (asB ws)).length=32:=by rw [aa,cE ws hws]
   have HL:Hid _:=hln
   clear hln
   go_wp2_with (first
    | ((with_reducible refine ae (some 20) (.load 42 (.tmp 3)) ?_);refine av 0 hm rfl rfl _ dV rfl 32 bB (HL.out) ?_)
    | ((with_reducible refine ae none (.store 42 (.tmp 2) (.tmp 20)) ?_);refine ah 1 (u8s (asB ws)) hm rfl rfl rfl 32 bB (by simp [aa]) (HL.out) (ai _) ?_;clear hm;intro w8 hm))
   exact aH 1 hm rfl Tryz.results192 rfl _ dV rfl 32 bB HL.out rfl ⟨rfl,hm.below⟩
end Go.Proofs.YtlpnafdkhoimhaaGreatDoor
namespace Go.Proofs.YtlpnafdkhoimhaaGreatDoor
open Go Go.RowKit
theorem Tab.mem {w0 w:World} {S:List Nat} {rows:List (Nat×List Value×TypeId)} (h:Tab w0) (hm:Mem w0 S w rows) (hS:0 ∉ S):Tab w:=by
 intro j hj
 rw [hm.old (p:=⟨0,j,none⟩) h.lt hS]
 exact h j hj
theorem Tab.below {w w':World} (h:Tab w) (hb:Below w.heap.size w w'):Tab w':=by
 intro j hj
 rw [hb.cell (p:=⟨0,j,none⟩) h.lt]
 exact h j hj
theorem Tab.upd {w w':World} {g:Nat} (h:Tab w) (hu:Upd g w w') (hg:0≠g):Tab w':=by
 intro j hj
 rw [hu.cell (p:=⟨0,j,none⟩) h.lt hg]
 exact h j hj
theorem le_of_cut {j n r l:Nat} (h:n≤r) (hr:r=l - j) (hj:j≤l):j+n≤l:=by omega
theorem gy (g:Nat) (m cs:List Int) (v:Value) (hbm:Bytes m) (hbc:Bytes cs) (hlen:m.length+cs.length≤1099511627776) (w:World) (ht:Tab w) (hg0:0≠g) (hr:Row w g (hrow (wsOf m) (restOf m) m.length) 255) (hv:Sl w g v cs) :
  Calls Tryz.prog 161 #[.pointer (some ⟨g,0,none⟩),v] w fun e w'=>e=.returned (.tuple #[])∧Row w' g (hrow (wsOf (m++cs)) (restOf (m++cs)) (m++cs).length) 255∧Upd g w w':=by
 obtain ⟨p,cap,rfl,hcap,hseg⟩:=hv
 have hS:0 ∉ [g]:=by simpa using hg0
 have hm:=Mem.enter hr
 have hw8:=bC m
 have hr64:=bQ m
 have hsm:(m.length:Int)<64→wsOf m=firstW:=fun h=>kt m (by omega)
 have hsz:(hrow (wsOf m) (restOf m) m.length)[72]?=some (.int .i64 m.length):=gx _ _ _ hw8 hr64
 have hln:(hrow (wsOf m) (restOf m) m.length).length=73:=df _ _ _ hw8 hr64
 have HT:Hid _:=ht
 have HBM:Hid _:=hbm
 have HBC:Hid _:=hbc
 have HW8:Hid _:=hw8
 have HR64:Hid _:=hr64
 have HSM:Hid _:=hsm
 have HSZ:Hid _:=hsz
 have HLN:Hid _:=hln
 have HSEG:Hid _:=hseg
 have HS:Hid _:=hS
 clear ht hbm hbc hw8 hr64 hsm hsz hln hseg hS hr hg0
 go_enter Tryz.func161,Tryz.ntmps161
 go_wp2_with (first
  | (go_at_call 190;refine (en g _ _ _ HW8.out HR64.out HSM.out _ (hm.get 0 rfl)).mono ?_;rintro e w1 ⟨rfl,hb⟩;replace hm:=hm.call hb;clear hb)
  | ((with_reducible refine ae (some 4) (.alloc 222) ?_);refine ag _ dP hm ?_;clear hm;intro w2 g4 hm)
  | ((with_reducible refine ae none (.store 222 (.tmp 4) (.tmp 8)) ?_);refine ah 0 (u32s (wsOf m)) hm rfl rfl rfl 8 bU (by simp [ao]) (by rw [ao];exact HW8.out) (aX _) ?_;clear hm;intro w3 hm)
  | ((with_reducible refine ae (some 12) (.load 3 (.tmp 11)) ?_);refine bm 1 72 (.int .i64 m.length) hm rfl rfl ji (HSZ.out) ?_)
  | ((with_reducible refine ae (some 17) (.load 3 (.tmp 16)) ?_);refine bm 1 72 (.int .i64 m.length) hm rfl rfl ji (HSZ.out) ?_)
  | ((with_reducible refine ae none (.store 3 (.tmp 22) (.tmp 20)) ?_);refine bj 1 72 (.int .i64 (m.length+cs.length)) hm rfl (rfl) rfl sz_int (by rw [HLN.out];omega) rfl rfl ?_;clear hm;intro w4 hm))

 rw [hrow_setSize _ _ _ _ HW8.out HR64.out] at hm
 replace hm:Mem w [g] w4 [(g4,u32s (wsOf m),222),(g,hrow (wsOf m) (restOf m) (m.length+cs.length),255)]:=hm
 clear HSM HSZ HLN HR64
 go_loopw [1,5] (fun vb vh wr=>∃j:Nat,j≤cs.length∧vh=.int .i64 ((m.length+j) % 64:Nat)∧Sl w g vb (cs.drop j)∧Mem w [g] wr [(g4,u32s (wsOf (m++cs.take j)),222),(g,hrow (wsOf m) (restOf (m++cs.take j)) (m.length+cs.length),255)])
  (fun vb _ _=>slLen vb)
 case atStart=>exact ⟨0,by omega,by go_num,⟨p,cap,rfl,hcap,HSEG.out⟩,by simpa using hm⟩
 case round =>
  clear hm HSEG hcap
  obtain ⟨j,hj,rfl,⟨p',cap',rfl,hcap',hseg'⟩,hm⟩:=hrel
  have hdl:(cs.drop j).length=cs.length - j:=by simp
  rw [hdl] at hcap' hseg'
  rw [hdl]
  obtain ⟨q,hq⟩:∃q,q=(m.length+j) % 64:=⟨_,rfl⟩
  obtain ⟨r,hrr⟩:∃r,r=cs.length - j:=⟨_,rfl⟩
  rw [←hq,←hrr]
  rw [←hrr] at hcap' hseg' hdl
  by_cases hpos:0<r
  ·obtain ⟨b,off,rfl,hne,hsg⟩:=hseg' hpos
   obtain ⟨n,hn⟩:∃n,n=Nat.min r (64 - q):=⟨_,rfl⟩
   have hq64:q<64:=by omega
   have hnr:n≤r:=by rw [hn];exact Nat.min_le_left _ _
   have hnq:n≤64 - q:=by rw [hn];exact Nat.min_le_right _ _
   have hjn:j+n≤cs.length:=le_of_cut hnr hrr hj
   obtain ⟨d,hd⟩:∃d,d=(cs.drop j).take n:=⟨_,rfl⟩
   have hdn:d.length=n:=by rw [hd];simp [hdl];omega
   have hM:(m++cs.take j).length=m.length+j:=by simp;omega
   have hMq:(m++cs.take j).length % 64=q:=by rw [hM,hq]
   have hM':m++cs.take (j+n)=(m++cs.take j)++d:=by rw [hd,List.append_assoc,List.take_add]
   have hsd:Seg w b off d:=by rw [hd];exact hsg.take n
   have hbd:Bytes d:=by rw [hd];exact (Bytes.drop HBC.out j).take n
   have hbM:Bytes (m++cs.take j):=Bytes.append HBM.out (Bytes.take HBC.out j)
   have hsl:∀p',p'=(if cap'=n then some ⟨b,off,none⟩ else (some (⟨b,off,none⟩:Addr)).map (·.add n))→Sl w g (.slice p' (r - n) (cap' - n)) (cs.drop (j+n)):=by
    intro p' hp
    have:=sl_drop (p:=p') (n:=n) (by rw [hdl];exact hcap') (by rw [hdl];exact hnr) hne hsg hp
    rw [hdl,List.drop_drop] at this
    exact this
   have hlr:(hrow (wsOf m) (restOf (m++cs.take j)) (m.length+cs.length)).length=73:=df _ _ _ HW8.out (bQ _)
   have hnew:splice (hrow (wsOf m) (restOf (m++cs.take j)) (m.length+cs.length)) (8+q) (u8s d)=hrow (wsOf m) (splice (restOf (m++cs.take j)) q d) (m.length+cs.length):=iK _ _ _ _ _ HW8.out (bQ _) (by omega)
   have hnp:0<n:=by rw [hn];exact Nat.lt_min.2 ⟨hpos,by omega⟩
   have hne':b ∉ [g]:=by simpa using hne
   have HNE:Hid _:=hne'
   have HSL:Hid _:=hsl
   have HLR:Hid _:=hlr
   have HNEW:Hid _:=hnew
   have HN:Hid _:=hn
   have HDN:Hid _:=hdn
   have HMQ:Hid _:=hMq
   have HM':Hid _:=hM'
   have HSD:Hid (Seg w b off d):=hsd
   have HBD:Hid _:=hbd
   have HBJ:Hid _:=hbM
   have HQ:Hid _:=hq
   have HRR:Hid _:=hrr
   clear hseg' hsl hlr hnew hn hdn hMq hM' hsd hbd hbM hq hd hM hne hsg hdl hne' hrr
   by_cases hfull:q+n=64
   ·have hb1:((q:Int)+(n:Int)==64)=true:=beq_iff_eq.2 (by omega)
    have HF:Hid _:=hfull
    clear hfull
    go_wp2_with (first
     | ((with_reducible refine ae (some 30) (.slice 108 (.tmp 28) (some (.tmp 29)) none none) ?_);refine ed 64 cD aQ q (64 - q) (by omega) (by omega) rfl (Or.inl (dl _ rfl rfl)) (Or.inr ⟨rfl,by omega⟩) ?_)
     | ((with_reducible refine ae (some 32) (.call {callee:=.builtin .copy,args:=#[.tmp 30,.tmp 31],argTypes:=#[56,56]}) ?_);refine cI 1 (8+q) (64 - q) (64 - q) ⟨b,off,none⟩ r cap' (u8s d) n (hrow (wsOf m) (splice (restOf (m++cs.take j)) q d) (m.length+cs.length)) hm rfl rfl rfl _ aF aQ (by rw [aa];exact HDN.out) HN.out (by exact (HSD.out.mem hm HNE.out).src) (by rw [HLR.out];omega) (ai _) (by exact HNEW.out) ?_;clear hm;intro w5 hm)
     | ((with_reducible refine ae (some 35) (.slice 56 (.tmp 33) (some (.tmp 34)) none none) ?_);refine jW _ aF aQ n rfl rfl rfl hnr ?_;intro p2 hp2;have HS2:Hid _:=HSL.out p2 hp2;clear hp2))

    have hspl:(splice (restOf (m++cs.take j)) q d).length=64:=by rw [length_splice _ _ _ (by rw [bQ,HDN.out];omega),bQ]
    have hbs:Bytes (splice (restOf (m++cs.take j)) q d):=(iR HBJ.out).splice HBD.out q
    have hnz:splice (hrow (wsOf m) (splice (restOf (m++cs.take j)) q d) (m.length+cs.length)) 8 (u8s (List.replicate 64 0))=hrow (wsOf m) (List.replicate 64 0) (m.length+cs.length):=by
     have:=iK (wsOf m) (splice (restOf (m++cs.take j)) q d) (m.length+cs.length) 0 (List.replicate 64 0) HW8.out hspl (by simp)
     rw [fv _ _ (by rw [hspl];simp)] at this
     exact this
    have hl73:(hrow (wsOf m) (splice (restOf (m++cs.take j)) q d) (m.length+cs.length)).length=73:=df _ _ _ HW8.out hspl
    have HSP:Hid _:=hspl
    have HBS:Hid _:=hbs
    have HNZ:Hid _:=hnz
    have H73:Hid _:=hl73
    clear hspl hbs hnz hl73
    refine cU 5 (by kernel_rfl) (by kernel_rfl) hm ?_
    clear hm
    intro w6 hm
    simp only [List.take_succ_cons,List.take_zero,List.drop_succ_cons,List.drop_zero]
    refine ie 0 0 (u32s (wsOf (m++cs.take j))) hm rfl rfl _ eA rfl 8 bU (by simp [ao,bC]) (by rw [List.drop_zero,List.take_of_length_le (by simp [ao,bC])]) ?_
    still_step
    still_step
    still_step
    refine ie 1 8 (u8s (splice (restOf (m++cs.take j)) q d)) hm rfl rfl _ cD rfl 64 bw (by rw [H73.out];omega) (hrow_rest _ _ _ HW8.out HSP.out) ?_
    refine wpStill_nil ?_
    go_wp2_with (first
     | (go_at_call 191;refine (gg (wsOf (m++cs.take j)) (splice (restOf (m++cs.take j)) q d) (bC _) HSP.out (Bytes.get HBS.out) _ (Tab.mem HT.out hm HS.out)).mono ?_;rintro e w7 ⟨rfl,hb⟩;replace hm:=hm.call hb;clear hb)
     | ((with_reducible refine ae none (.store 222 (.tmp 4) (.tmp 46)) ?_);refine ah 0 (u32s (mix (wsOf (m++cs.take j)) (splice (restOf (m++cs.take j)) q d))) hm rfl rfl rfl 8 bU (by simp [ao,bC]) (by rw [ao];exact bp _ _ (bC _)) (aX _) ?_;clear hm;intro w8 hm)
     | ((with_reducible refine ae (some 48) (.build 108 #[]) ?_);refine ay (u8s (List.replicate 64 0)) [] rfl built_b64 ?_)
     | ((with_reducible refine ae none (.store 108 (.tmp 50) (.tmp 48)) ?_);refine wpl_sts 1 8 (u8s (List.replicate 64 0)) (hrow (wsOf m) (List.replicate 64 0) (m.length+cs.length)) hm rfl rfl rfl 64 bw (by simp [aa]) (by rw [H73.out];omega) (ai _) (HNZ.out) ?_;clear hm;intro w9 hm))

    have hmm:Mem w [g] w9 [(g4,u32s (wsOf (m++cs.take (j+n))),222),(g,hrow (wsOf m) (restOf (m++cs.take (j+n))) (m.length+cs.length),255)]:=by
     rw [HM'.out,j2 (m++cs.take j) d (by rw [HMQ.out,HDN.out];exact HF.out),full_rest (m++cs.take j) d (by rw [HMQ.out,HDN.out];exact HF.out),HMQ.out]
     exact hm
    clear hm
    go_roundw
    case rel=>exact ⟨j+n,hjn,by have h1:=HQ.out;have h2:=HF.out;go_num,HS2.out,hmm⟩
    case measure=>simp [slLen];omega
   ·have hb1:((q:Int)+(n:Int)==64)=false:=beq_eq_false_iff_ne.2 (by omega)
    have hlt64:q+n<64:=by omega
    go_wp2_with (first
     | ((with_reducible refine ae (some 30) (.slice 108 (.tmp 28) (some (.tmp 29)) none none) ?_);refine ed 64 cD aQ q (64 - q) (by omega) (by omega) rfl (Or.inl (dl _ rfl rfl)) (Or.inr ⟨rfl,by omega⟩) ?_)
     | ((with_reducible refine ae (some 32) (.call {callee:=.builtin .copy,args:=#[.tmp 30,.tmp 31],argTypes:=#[56,56]}) ?_);refine cI 1 (8+q) (64 - q) (64 - q) ⟨b,off,none⟩ r cap' (u8s d) n (hrow (wsOf m) (splice (restOf (m++cs.take j)) q d) (m.length+cs.length)) hm rfl rfl rfl _ aF aQ (by rw [aa];exact HDN.out) HN.out (by exact (HSD.out.mem hm HNE.out).src) (by rw [HLR.out];omega) (ai _) (by exact HNEW.out) ?_;clear hm;intro w5 hm)
     | ((with_reducible refine ae (some 35) (.slice 56 (.tmp 33) (some (.tmp 34)) none none) ?_);refine jW _ aF aQ n rfl rfl rfl hnr ?_;intro p2 hp2;have HS2:Hid _:=HSL.out p2 hp2;clear hp2))

    have hmm:Mem w [g] w5 [(g4,u32s (wsOf (m++cs.take (j+n))),222),(g,hrow (wsOf m) (restOf (m++cs.take (j+n))) (m.length+cs.length),255)]:=by
     rw [HM'.out,more_ws (m++cs.take j) d (by rw [HMQ.out,HDN.out];exact hlt64),more_rest (m++cs.take j) d (by rw [HMQ.out,HDN.out];exact hlt64),HMQ.out]
     exact hm
    clear hm
    go_roundw
    case rel=>exact ⟨j+n,hjn,by have:=HQ.out;go_num,HS2.out,hmm⟩
    case measure=>simp [slLen];omega
  ·have hjl:j=cs.length:=by clear hseg';omega
   have hr0:r=0:=by omega
   subst hr0
   subst hjl
   rw [List.take_length] at hm
   have h73:(hrow (wsOf m) (restOf (m++cs)) (m.length+cs.length)).length=73:=df _ _ _ HW8.out (bQ _)
   have hsw:splice (hrow (wsOf m) (restOf (m++cs)) (m.length+cs.length)) 0 (u32s (wsOf (m++cs)))=hrow (wsOf (m++cs)) (restOf (m++cs)) (m.length+cs.length):=lw _ _ _ _ HW8.out (bC _)
   have H73:Hid _:=h73
   have HSW:Hid _:=hsw
   clear h73 hsw hseg' hdl hrr hq
   go_wp2_with (first
    | ((with_reducible refine ae (some 52) (.load 222 (.tmp 4)) ?_);refine av 0 hm rfl rfl _ eA rfl 8 bU (by rw [ao];exact bC _) ?_)
    | ((with_reducible refine ae none (.store 222 (.tmp 54) (.tmp 52)) ?_);refine wpl_sts 1 0 (u32s (wsOf (m++cs))) (hrow (wsOf (m++cs)) (restOf (m++cs)) (m.length+cs.length)) hm rfl rfl rfl 8 bU (by rw [ao];exact bC _) (by rw [H73.out];omega) (aX _) (HSW.out) ?_;clear hm;intro w9 hm))

   go_end0
   refine ⟨rfl,?_,hm.toUpd⟩
   have:=hm.get 1 rfl
   rw [List.length_append]
   simpa using this
end Go.Proofs.YtlpnafdkhoimhaaGreatDoor
