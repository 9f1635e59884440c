import Derived.Test.YtlpnafdkhoimhaaGreatDoorQr01
import Derived.OrdersHeld
import Derived.Laws.BytesString
import Derived.Maps.AppendAt
import Derived.Lib.AppendStr
import Derived.Maps.Range
set_option maxRecDepth 100000
set_option maxHeartbeats 4000000
namespace Go.Proofs.YtlpnafdkhoimhaaGreatDoor
open Go Go.RowKit
def endsIn (R:Act→World→Prop):Exit→Act→World→Prop
 | .normal,a,w=>R a w
 | _,_,_=>False
theorem wp_ends {P:Program} {c:Code} {Q:Exit→Act→World→Prop} {a:Act} {w:World} (R:Act→World→Prop) (h:c.wp P (endsIn R) a w) (hq:∀a w,R a w→Q .normal a w):c.wp P Q a w :=
 Code.wp_mono (fun e a w q=>by
  cases e with
  | normal=>exact hq a w q
  | _=>exact q.elim) h
theorem aA {P:Program} {c:Code} {Q:Exit→Act→World→Prop} {a:Act} {w:World} (h:c.wp P (endsIn (fun a w=>Q .normal a w)) a w):c.wp P Q a w:=wp_ends _ h (fun _ _ h=>h)
theorem gD (n:Nat) (h:n<4611686018427387904):IntKind.u64.wrap (n:Int)=(n:Int):=by
 simp [IntKind.wrap,IntKind.bits,IntKind.signed]
 omega
section
variable {P:Program} {md:Region.Mode} {ops:Array Oper} {R:Act→World→Prop} {T:World→Prop} {fuel:Nat} {listed:Array Bool} {a:Act} {w w0:World} {S:List Nat} {rows:List (Nat×List Value×TypeId)}
theorem aZ {id:Nat} {l:List Oper} (hmix:P.follows .mixedOrders=true) (hm:Mem w0 S w rows)
  (h:∀w',Mem w0 S w' rows→wpAnyH P .any l.toArray (endsIn R) T l.toArray.size (Array.replicate l.toArray.size false) a w'):(Code.region id l.toArray true).wp P (endsIn R) a w :=
 wp_region_held hmix (h _ hm.drew)
theorem anyH_take (i:Nat) {o:Oper} {v:Value} (hi:ops[i]?=some o) (hs:Region.noSelect ops=true) (hf:Region.free md ops listed i=true) (hr:(Region.ready md ops listed).contains i=true) (hg:o.guard=none)
  (hy:∀w,T w→(execOp a.eval o).run P w=.ok (.value v) w) (hT:T w) (h:wpAnyH P md ops (endsIn R) T fuel (listed.setIfInBounds i true) (a.put o.dst v) w):wpAnyH P md ops (endsIn R) T (fuel+1) listed a w :=
 wpAnyH_take hi hs hf hr (fun _ _ _ h=>h) (Or.inl ⟨by simp [Region.wanted,hg],hy⟩) hT h
theorem aT (i:Nat) {o:Oper} {v:Value} (hi:ops[i]?=some o) (hb:(Region.noSelect ops&&Region.free md ops listed i&&(Region.ready md ops listed).contains i)=true) (hg:o.guard=none)
  (hy:∀w,T w→(execOp a.eval o).run P w=.ok (.value v) w) (hT:T w) (h:wpAnyH P md ops (endsIn R) T fuel (listed.setIfInBounds i true) (a.put o.dst v) w):wpAnyH P md ops (endsIn R) T (fuel+1) listed a w:=by
 simp only [Bool.and_eq_true] at hb
 exact anyH_take i hi hb.1.1 hb.1.2 hb.2 hg hy hT h
theorem bT {ty:TypeId} {x:Operand} {dst:Option Tmp} {typ:TypeId} {pos:String} {aft:Array Edge} {g:Nat} {l:List Value} {t:TypeId} (off:Nat) (sub:List Value) (hr:Row w g l t) (hx:a.eval x=.pointer (some ⟨g,off,none⟩))
  (d:TypeDesc) (hu:P.underlying ty=some d) (hd:(match d with | .struct _ | .array _ _=>true|_=>false)=true) (n:Nat) (hs:(P.info? ty).map (·.size)=some n) (hn:off+n≤l.length) (hsub:(l.drop off).take n=sub) :
  (execOp a.eval {dst:=dst,op:=.load ty x,type:=typ,pos:=pos,after:=aft,guard:=none}).run P w=.ok (.value (.agg sub.toArray)) w:=by
 unfold execOp
 simp only [hx,Instr.loadAt,Instr.sureAddr,Sem.run_bind,Sem.run_pure,Result.andThen_ok,cZ w g off n ty t l d hr hu hd hs hn,hsub]
theorem anyH_takeG (i:Nat) {o:Oper} {v:Value} (hi:ops[i]?=some o) (hs:Region.noSelect ops=true) (hf:Region.free md ops listed i=true) (hr:(Region.ready md ops listed).contains i=true) (hw:Region.wanted o (yielded ops a.tmps)=true)
  (hy:∀w,T w→(execOp a.eval o).run P w=.ok (.value v) w) (hT:T w) (h:wpAnyH P md ops (endsIn R) T fuel (listed.setIfInBounds i true) (a.put o.dst v) w):wpAnyH P md ops (endsIn R) T (fuel+1) listed a w :=
 wpAnyH_take hi hs hf hr (fun _ _ _ h=>h) (Or.inl ⟨hw,hy⟩) hT h
theorem aG (i:Nat) {o:Oper} {v:Value} (hi:ops[i]?=some o) (hb:(Region.noSelect ops&&Region.free md ops listed i&&(Region.ready md ops listed).contains i)=true) (hw:Region.wanted o (yielded ops a.tmps)=true)
  (hy:∀w,T w→(execOp a.eval o).run P w=.ok (.value v) w) (hT:T w) (h:wpAnyH P md ops (endsIn R) T fuel (listed.setIfInBounds i true) (a.put o.dst v) w):wpAnyH P md ops (endsIn R) T (fuel+1) listed a w:=by
 simp only [Bool.and_eq_true] at hb
 exact anyH_takeG i hi hb.1.1 hb.1.2 hb.2 hw hy hT h
theorem aL (i:Nat) {o:Oper} (hi:ops[i]?=some o) (hg:o.guard=none)
  (h:∀K:Act→World→Prop,(∀a' w',T w'→wpAnyH P md ops (endsIn R) T fuel (listed.setIfInBounds i true) a' w'→K a' w')→wpList P ops (endsIn K) [o] a w) :
  wpOp P ops (endsIn R) i (fun a' w'=>T w'∧wpAnyH P md ops (endsIn R) T fuel (listed.setIfInBounds i true) a' w') a w:=by
 have hh:=h (fun a' w'=>T w'∧wpAnyH P md ops (endsIn R) T fuel (listed.setIfInBounds i true) a' w') (fun _ _ h1 h2=>⟨h1,h2⟩)
 unfold wpOp
 simp only [hi]
 have hw:Region.wanted o (yielded ops a.tmps)=true:=by simp [Region.wanted,hg]
 unfold wpList at hh
 rw [if_pos hw] at hh
 rw [if_pos hw]
 exact hh
theorem aP (i:Nat) {o:Oper} (hr:Region.ready md ops listed=[i]) (hi:ops[i]?=some o) (hg:o.guard=none)
  (h:∀K:Act→World→Prop,(∀a' w',T w'→wpAnyH P md ops (endsIn R) T fuel (listed.setIfInBounds i true) a' w'→K a' w')→wpList P ops (endsIn K) [o] a w):wpAnyH P md ops (endsIn R) T (fuel+1) listed a w :=
 wpAnyH_all hr (by simp) (fun j hj=>by
  simp only [List.mem_cons,List.not_mem_nil,or_false] at hj
  subst hj
  exact aL j hi hg h)
end
section
variable {P:Program} {ops:Array Oper} {rest:List Oper} {a:Act} {w:World} {dst:Option Tmp} {typ:TypeId} {pos:String} {aft:Array Edge}
theorem jZ {ty:TypeId} {g:Nat} {l:List Value} {t:TypeId} (j:Nat) (v:Value) (hr:Row w g l t) (ha:∀w,(isAgg ty).run P w=.ok false w) (hv:l[j]?=some v):(loadVar ty ⟨g,j,none⟩).run P w=.ok v w:=by
 have hc:w.cell? ⟨g,j,none⟩=some v:=by rw [hr.cell,hv]
 simp [loadVar,ha,go_sem,hc]
theorem eI {ty:TypeId} {x:Operand} {g:Nat} {l:List Value} {t:TypeId} (j:Nat) (v:Value) (hr:Row w g l t) (hx:a.eval x=.pointer (some ⟨g,j,none⟩)) (ha:∀w,(isAgg ty).run P w=.ok false w) (hv:l[j]?=some v) :
  (execOp a.eval {dst:=dst,op:=.load ty x,type:=typ,pos:=pos,after:=aft,guard:=none}).run P w=.ok (.value v) w:=by
 unfold execOp
 simp only [hx,Instr.loadAt,Instr.sureAddr,Sem.run_bind,Sem.run_pure,Result.andThen_ok,jZ j v hr ha hv]
theorem eS {Q:Exit→Act→World→Prop} {ty:TypeId} {x:Operand} {g:Nat} {l:List Value} {t:TypeId} (j:Nat) (v:Value) (hr:Row w g l t) (hx:a.eval x=.pointer (some ⟨g,j,none⟩)) (ha:∀w,(isAgg ty).run P w=.ok false w) (hv:l[j]?=some v)
  (h:wpList P ops Q rest (a.put dst v) w):wpList P ops Q ({dst:=dst,op:=.load ty x,type:=typ,pos:=pos,after:=aft,guard:=none}::rest) a w:=by
 refine wpList_plain rfl fun K hK=>?_
 have hh:=hK _ _ h
 unfold Oper.wp execOp
 simp only [hx,Instr.loadAt,Instr.sureAddr,Sem.run_bind,Sem.run_pure,Result.andThen_ok,jZ j v hr ha hv]
 exact hh
theorem gB {Q:Act→Prop} {ty:TypeId} {x:Operand} {g:Nat} {l:List Value} {t:TypeId} (j:Nat) (v:Value) (hr:Row w g l t) (hx:a.eval x=.pointer (some ⟨g,j,none⟩)) (ha:∀w,(isAgg ty).run P w=.ok false w) (hv:l[j]?=some v)
  (h:wpStill P ops w Q rest (a.put dst v)):wpStill P ops w Q ({dst:=dst,op:=.load ty x,type:=typ,pos:=pos,after:=aft,guard:=none}::rest) a:=by
 refine gw rfl _ ?_ h
 unfold execOp
 simp only [hx,Instr.loadAt,Instr.sureAddr,Sem.run_bind,Sem.run_pure,Result.andThen_ok,jZ j v hr ha hv]
end
theorem Mem.allocO {w0 w:World} {S:List Nat} {rows:List (Nat×List Value×TypeId)} (hm:Mem w0 S w rows) (o:Obj):Mem w0 S (w.alloc o) rows :=
 hm.call ⟨rfl,rfl,rfl,by simp,fun _ hk=>Below.heap_alloc _ _ _ hk⟩
theorem Seg.newO (w:World) (cs:List Int) (t:TypeId) (fr:Nat×Nat):Seg (w.alloc (.cells (u8s cs).toArray t fr)) w.heap.size 0 cs:=by
 intro j hj
 have h:(w.alloc (.cells (u8s cs).toArray t fr)).heap[w.heap.size]?=some (.cells (u8s cs).toArray t fr):=heap_alloc_new w _
 rw [cell_of_row _ _ _ _ _ _ h,Nat.zero_add]
 simpa using cK cs j hj
section
variable {P:Program} {a:Act} {w:World} {dst:Option Tmp} {typ:TypeId} {pos:String} {aft:Array Edge} {gd:Option (Nat×Bool)}
theorem au {ty:TypeId} {x:Operand} {g:Nat} {l:List Value} {t:TypeId} (off:Nat) (sub:List Value) (hr:Row w g l t) (hx:a.eval x=.pointer (some ⟨g,off,none⟩))
  (d:TypeDesc) (hu:P.underlying ty=some d) (hd:(match d with | .struct _ | .array _ _=>true|_=>false)=true) (n:Nat) (hs:(P.info? ty).map (·.size)=some n) (hn:off+n≤l.length) (hsub:(l.drop off).take n=sub) :
  (execOp a.eval {dst:=dst,op:=.load ty x,type:=typ,pos:=pos,after:=aft,guard:=gd}).run P w=.ok (.value (.agg sub.toArray)) w:=by
 unfold execOp
 simp only [hx,Instr.loadAt,Instr.sureAddr,Sem.run_bind,Sem.run_pure,Result.andThen_ok,cZ w g off n ty t l d hr hu hd hs hn,hsub]
theorem aK {ty:TypeId} {x:Operand} {g:Nat} {l:List Value} {t:TypeId} (j:Nat) (v:Value) (hr:Row w g l t) (hx:a.eval x=.pointer (some ⟨g,j,none⟩)) (ha:∀w,(isAgg ty).run P w=.ok false w) (hv:l[j]?=some v) :
  (execOp a.eval {dst:=dst,op:=.load ty x,type:=typ,pos:=pos,after:=aft,guard:=gd}).run P w=.ok (.value v) w:=by
 unfold execOp
 simp only [hx,Instr.loadAt,Instr.sureAddr,Sem.run_bind,Sem.run_pure,Result.andThen_ok,jZ j v hr ha hv]
theorem exec_eqa {t:TypeId} {x y:Operand} {rt:TypeId} (e:TypeId) (n:Nat) (k:IntKind) (xs ys:List Int) (hx:a.eval x=.agg (xs.map (Value.int k)).toArray) (hy:a.eval y=.agg (ys.map (Value.int k)).toArray) (ht:P.underlying t=some (.array n e)) (he:P.underlying e=some (.int k)) (hs:(P.info? e).map (·.size)=some 1) (hm:P.eqGuardType P.depth t=false) (h1:xs.length=n) (h2:ys.length=n) :
  (execOp a.eval {dst:=dst,op:=.binOp .eql t x y rt,type:=typ,pos:=pos,after:=aft,guard:=gd}).run P w=.ok (.value (.bool (decide (xs=ys)))) w:=by
 unfold execOp
 simp only [hx,hy,Sem.run_bind,run_eqGuard_agg w .eql t x y _ _ hm,Sem.run_pure,Result.andThen_ok,run_eqla w t e n k ht he hs xs ys h1 h2]
theorem exec_eqs {t:TypeId} {x y:Operand} {rt:TypeId} (s s':ByteArray) (hx:a.eval x=.string s) (hy:a.eval y=.string s') :
  (execOp a.eval {dst:=dst,op:=.binOp .eql t x y rt,type:=typ,pos:=pos,after:=aft,guard:=gd}).run P w=.ok (.value (.bool (s==s'))) w:=by
 unfold execOp
 simp only [hx,hy]
 simp [eqGuard,binOp,Op.stringOp]
 exact (beq_toListBytes s s').symm
theorem exec_eqsB {t:TypeId} {x y:Operand} {rt:TypeId} (s s':ByteArray) (v:Bool) (hx:a.eval x=.string s) (hy:a.eval y=.string s') (hv:(s==s')=v) :
  (execOp a.eval {dst:=dst,op:=.binOp .eql t x y rt,type:=typ,pos:=pos,after:=aft,guard:=gd}).run P w=.ok (.value (.bool v)) w:=by
 subst hv
 exact exec_eqs s s' hx hy
end
end Go.Proofs.YtlpnafdkhoimhaaGreatDoor
namespace Go.Proofs.YtlpnafdkhoimhaaGreatDoor
open Go Go.RowKit
section
variable {P:Program} {ops:Array Oper} {rest:List Oper} {a:Act} {w:World} {Q:Exit→Act→World→Prop} {dst:Option Tmp} {typ:TypeId} {pos:String} {aft:Array Edge}
theorem run_slh (w:World) {ty:TypeId} {elem:TypeId} (hu:P.underlying ty=some (.slice elem)) (hs:(P.info? elem).map (·.size)=some 1) {g o len cap:Nat} (l m:Nat) (hlm:l+m≤cap) (hlc:l<cap) :
  (Instr.sliceAt ty (.slice (some ⟨g,o,none⟩) len cap) (some (.int .i64 (l:Int))) (some (.int .i64 ((l+m:Nat):Int))) none).run P w=.ok (.slice (some ⟨g,o+l,none⟩) m (cap - l)) w:=by
 cases hq:P.info? elem with
 | none=>simp [hq] at hs
 | some q =>
  have hs1:q.size=1:=by simpa [hq] using hs
  have hsz:(sizeOf elem).run P w=.ok 1 w:=by simp [sizeOf,typeInfo,hq,hs1]
  have bnd:∀(j y:Nat) (code:BoundsCode),j≤y→(Instr.sliceBound (.int .i64 (j:Int)) y code).run P w=.ok j w:=by
   intro j y code hj
   rw [run_sliceBound (P:=P) w .i64 (j:Int) y code (by omega) (by omega)]
   simp
  obtain ⟨h,hh⟩:∃h,h=l+m:=⟨_,rfl⟩
  rw [←hh]
  have hb:(Instr.sliceBounds true len cap (some (.int .i64 (l:Int))) (some (.int .i64 (h:Int))) none).run P w=.ok (l,h,cap) w:=by
   simp [Instr.sliceBounds,bnd h cap _ (by omega),bnd l h _ (by omega)]
  have hne:¬cap=l:=by omega
  have hml:h - l=m:=by omega
  simp [Instr.sliceAt,Instr.slice,run_underlying hu,hb,hsz,hne,bK,hml]
theorem wpl_slh {ty:TypeId} {x lo hi:Operand} {elem:TypeId} (hu:P.underlying ty=some (.slice elem)) (hs:(P.info? elem).map (·.size)=some 1) {g o len cap:Nat} (l m:Nat) {il ih:Int} (hlm:l+m≤cap) (hlc:l<cap) (hx:a.eval x=.slice (some ⟨g,o,none⟩) len cap)
  (hlo:a.eval lo=.int .i64 il) (hil:il=(l:Int)) (hhi:a.eval hi=.int .i64 ih) (hih:ih=((l+m:Nat):Int))
  (h:wpList P ops Q rest (a.put dst (.slice (some ⟨g,o+l,none⟩) m (cap - l))) w) :
  wpList P ops Q ({dst:=dst,op:=.slice ty x (some lo) (some hi) none,type:=typ,pos:=pos,after:=aft,guard:=none}::rest) a w:=by
 subst hil hih
 refine wpList_plain rfl fun K hK=>?_
 have hh:=hK _ _ h
 unfold Oper.wp execOp
 simp only [hx,hlo,hhi,Option.map_some,Option.map_none,run_slh (P:=P) w hu hs l m hlm hlc,Sem.run_bind,Sem.run_pure,Result.andThen_ok]
 exact hh
end
end Go.Proofs.YtlpnafdkhoimhaaGreatDoor
namespace Go.Proofs.YtlpnafdkhoimhaaGreatDoor
open Go Go.RowKit
section
variable {P:Program} {ops:Array Oper} {rest:List Oper} {a:Act} {w:World} {Q:Exit→Act→World→Prop}
theorem bA {typ:TypeId} {pos:String} {aft:Array Edge} (dst:Option Tmp) (op:Op) (gd:Option (Nat×Bool)) (h:wpList P ops Q ({dst:=dst,op:=op,type:=typ,pos:=pos,after:=aft,guard:=gd}::rest) a w) :
  wpList P ops Q ({dst:=dst,op:=op,type:=typ,pos:=pos,after:=aft,guard:=gd}::rest) a w:=h
theorem aj {o:Oper} (v:Value) (hw:Region.wanted o (yielded ops a.tmps)=true) (hr:(execOp a.eval o).run P w=.ok (.value v) w) (h:wpList P ops Q rest (a.put o.dst v) w):wpList P ops Q (o::rest) a w:=by
 refine wpList_step fun K hK=>?_
 rw [if_pos hw]
 unfold Oper.wp
 rw [hr]
 exact hK _ _ h
end
open Go Go.RowKit
theorem fP (g:Nat) (m:List Int) (hbm:Bytes m) (hlen:m.length≤1099511627776) (w:World) (ht:Tab w) (hr:Row w g (hrow (wsOf m) (restOf m) m.length) 255) :
  Calls Tryz.prog 162 #[.pointer (some ⟨g,0,none⟩)] w fun e w'=>e=.returned (.agg (u8s (shaOf m)).toArray)∧Below w.heap.size w w':=by
 have hm:=Mem.start w
 have hw8:=bC m
 have hr64:=bQ m
 have hsm:(m.length:Int)<64→wsOf m=firstW:=fun h=>kt m (by omega)
 have hsz:(hrow (wsOf m) (restOf m) m.length)[72]?=some (.int .i64 m.length):=gx _ _ _ hw8 hr64
 have hln:(hrow (wsOf m) (restOf m) m.length).length=73:=df _ _ _ hw8 hr64
 have HT:Hid _:=ht
 have HR:Hid (Row w g (hrow (wsOf m) (restOf m) m.length) 255):=hr
 have HBM:Hid _:=hbm
 have HW8:Hid _:=hw8
 have HR64:Hid _:=hr64
 have HSM:Hid _:=hsm
 have HSZ:Hid _:=hsz
 have HLN:Hid _:=hln
 clear ht hbm hw8 hr64 hsm hsz hln hr
 go_enter Tryz.func162,Tryz.ntmps162
 go_wp2_with (first
  | ((with_reducible refine ae (some 2) (.alloc 42) ?_);refine ag _ bz hm ?_;clear hm;intro w1 g2 hm))

 refine wp_ends (fun a' w'=>∃g3 g4,a'=⟨#[.pointer (some ⟨g,0,none⟩),undef,.pointer (some ⟨g2,0,none⟩),.pointer (some ⟨g3,0,none⟩),.pointer (some ⟨g4,0,none⟩),undef,.pointer (some ⟨g,0,none⟩),.agg (u32s (wsOf m)).toArray,.pointer (some ⟨g,0,none⟩),.pointer (some ⟨g,0,none⟩),.pointer (some ⟨g,8,none⟩),.agg (u8s (restOf m)).toArray,undef,undef,undef,undef,undef,undef,undef,undef,undef,undef,undef,undef,undef,undef,undef,undef,undef,undef,undef,undef,undef,undef,undef,undef,undef,undef],[]⟩∧Mem w [] w' [(g4,u8s (restOf m),108),(g3,u32s (wsOf m),222),(g2,u8s (List.replicate 32 0),42)]) ?_ ?_
 ·refine aZ (T:=fun W=>Below w.heap.size w W) (by kernel_rfl) hm ?_
  clear hm
  intro w2 hm
  refine aT 0 (v:=.pointer (some ⟨g,0,none⟩)) rfl (by kernel_rfl) rfl (fun W _=>rfl) hm.below ?_
  refine aT 2 (v:=.pointer (some ⟨g,0,none⟩)) rfl (by kernel_rfl) rfl (fun W _=>rfl) hm.below ?_
  refine aT 3 (v:=.pointer (some ⟨g,0,none⟩)) rfl (by kernel_rfl) rfl (fun W _=>rfl) hm.below ?_
  refine aT 4 (v:=.pointer (some ⟨g,8,none⟩)) rfl (by kernel_rfl) rfl (fun W _=>by go_simp) hm.below ?_
  refine aT 5 (v:=.agg (u8s (restOf m)).toArray) rfl (by kernel_rfl) rfl (fun W hW=>bT 8 _ (Row.below' HR.out hW) rfl _ cD rfl 64 bw (by rw [HLN.out];omega) (hrow_rest _ _ _ HW8.out HR64.out)) hm.below ?_
  refine wpAnyH_all (rs:=[1,6,7]) (by kernel_rfl) (by simp) ?_
  intro i hi
  simp only [List.mem_cons,List.not_mem_nil,or_false] at hi
  rcases hi with rfl|rfl|rfl
  ·refine aL 1 rfl rfl ?_
   intro K hK
   go_wp2_with ((go_at_call 190;refine (en g _ _ _ HW8.out HR64.out HSM.out _ (Row.below' HR.out hm.below)).mono ?_;rintro e w3 ⟨rfl,hb⟩;replace hm:=hm.call hb;clear hb))
   refine hK _ _ hm.below ?_
   clear hK K
   refine wpAnyH_all (rs:=[6,7]) (by kernel_rfl) (by simp) ?_
   intro i hi
   simp only [List.mem_cons,List.not_mem_nil,or_false] at hi
   rcases hi with rfl|rfl
   ·refine aL 6 rfl rfl ?_
    intro K hK
    (refine ag _ dP hm ?_;clear hm;intro w4 g3 hm)
    refine wpList_nil ?_
    refine hK _ _ hm.below ?_
    clear hK K
    refine wpAnyH_all (rs:=[7]) (by kernel_rfl) (by simp) ?_
    intro i hi
    simp only [List.mem_cons,List.not_mem_nil,or_false] at hi
    rcases hi with rfl
    ·refine aL 7 rfl rfl ?_
     intro K hK
     (refine ag _ cG hm ?_;clear hm;intro w5 g4 hm)
     refine wpList_nil ?_
     refine hK _ _ hm.below ?_
     clear hK K
     refine wpAnyH_all (rs:=[8]) (by kernel_rfl) (by simp) ?_
     intro i hi
     simp only [List.mem_cons,List.not_mem_nil,or_false] at hi
     rcases hi with rfl
     ·refine aL 8 rfl rfl ?_
      intro K hK
      (first|refine ah 0 (u32s (wsOf m)) hm rfl rfl rfl 8 bU rfl (by rw [ao];exact HW8.out) (aX _) ?_|refine ah 1 (u32s (wsOf m)) hm rfl rfl rfl 8 bU rfl (by rw [ao];exact HW8.out) (aX _) ?_);(clear hm;intro w6 hm)
      refine wpList_nil ?_
      refine hK _ _ hm.below ?_
      clear hK K
      refine wpAnyH_all (rs:=[9]) (by kernel_rfl) (by simp) ?_
      intro i hi
      simp only [List.mem_cons,List.not_mem_nil,or_false] at hi
      rcases hi with rfl
      ·refine aL 9 rfl rfl ?_
       intro K hK
       (first|refine ah 0 (u8s (restOf m)) hm rfl rfl rfl 64 bw rfl (by rw [aa];exact HR64.out) (ai _) ?_|refine ah 1 (u8s (restOf m)) hm rfl rfl rfl 64 bw rfl (by rw [aa];exact HR64.out) (ai _) ?_);(clear hm;intro w7 hm)
       refine wpList_nil ?_
       refine hK _ _ hm.below ?_
       clear hK K
       refine wpAnyH_done (by kernel_rfl) ⟨g3,g4,rfl,?_⟩ _
       first|exact hm|exact hm.swap
   ·refine aL 7 rfl rfl ?_
    intro K hK
    (refine ag _ cG hm ?_;clear hm;intro w5 g4 hm)
    refine wpList_nil ?_
    refine hK _ _ hm.below ?_
    clear hK K
    refine wpAnyH_all (rs:=[6]) (by kernel_rfl) (by simp) ?_
    intro i hi
    simp only [List.mem_cons,List.not_mem_nil,or_false] at hi
    rcases hi with rfl
    ·refine aL 6 rfl rfl ?_
     intro K hK
     (refine ag _ dP hm ?_;clear hm;intro w4 g3 hm)
     refine wpList_nil ?_
     refine hK _ _ hm.below ?_
     clear hK K
     refine wpAnyH_all (rs:=[8]) (by kernel_rfl) (by simp) ?_
     intro i hi
     simp only [List.mem_cons,List.not_mem_nil,or_false] at hi
     rcases hi with rfl
     ·refine aL 8 rfl rfl ?_
      intro K hK
      (first|refine ah 0 (u32s (wsOf m)) hm rfl rfl rfl 8 bU rfl (by rw [ao];exact HW8.out) (aX _) ?_|refine ah 1 (u32s (wsOf m)) hm rfl rfl rfl 8 bU rfl (by rw [ao];exact HW8.out) (aX _) ?_);(clear hm;intro w6 hm)
      refine wpList_nil ?_
      refine hK _ _ hm.below ?_
      clear hK K
      refine wpAnyH_all (rs:=[9]) (by kernel_rfl) (by simp) ?_
      intro i hi
      simp only [List.mem_cons,List.not_mem_nil,or_false] at hi
      rcases hi with rfl
      ·refine aL 9 rfl rfl ?_
       intro K hK
       (first|refine ah 0 (u8s (restOf m)) hm rfl rfl rfl 64 bw rfl (by rw [aa];exact HR64.out) (ai _) ?_|refine ah 1 (u8s (restOf m)) hm rfl rfl rfl 64 bw rfl (by rw [aa];exact HR64.out) (ai _) ?_);(clear hm;intro w7 hm)
       refine wpList_nil ?_
       refine hK _ _ hm.below ?_
       clear hK K
       refine wpAnyH_done (by kernel_rfl) ⟨g3,g4,rfl,?_⟩ _
       first|exact hm|exact hm.swap
  ·refine aL 6 rfl rfl ?_
   intro K hK
   (refine ag _ dP hm ?_;clear hm;intro w4 g3 hm)
   refine wpList_nil ?_
   refine hK _ _ hm.below ?_
   clear hK K
   refine wpAnyH_all (rs:=[1,7]) (by kernel_rfl) (by simp) ?_
   intro i hi
   simp only [List.mem_cons,List.not_mem_nil,or_false] at hi
   rcases hi with rfl|rfl
   ·refine aL 1 rfl rfl ?_
    intro K hK
    go_wp2_with ((go_at_call 190;refine (en g _ _ _ HW8.out HR64.out HSM.out _ (Row.below' HR.out hm.below)).mono ?_;rintro e w3 ⟨rfl,hb⟩;replace hm:=hm.call hb;clear hb))
    refine hK _ _ hm.below ?_
    clear hK K
    refine wpAnyH_all (rs:=[7]) (by kernel_rfl) (by simp) ?_
    intro i hi
    simp only [List.mem_cons,List.not_mem_nil,or_false] at hi
    rcases hi with rfl
    ·refine aL 7 rfl rfl ?_
     intro K hK
     (refine ag _ cG hm ?_;clear hm;intro w5 g4 hm)
     refine wpList_nil ?_
     refine hK _ _ hm.below ?_
     clear hK K
     refine wpAnyH_all (rs:=[8]) (by kernel_rfl) (by simp) ?_
     intro i hi
     simp only [List.mem_cons,List.not_mem_nil,or_false] at hi
     rcases hi with rfl
     ·refine aL 8 rfl rfl ?_
      intro K hK
      (first|refine ah 0 (u32s (wsOf m)) hm rfl rfl rfl 8 bU rfl (by rw [ao];exact HW8.out) (aX _) ?_|refine ah 1 (u32s (wsOf m)) hm rfl rfl rfl 8 bU rfl (by rw [ao];exact HW8.out) (aX _) ?_);(clear hm;intro w6 hm)
      refine wpList_nil ?_
      refine hK _ _ hm.below ?_
      clear hK K
      refine wpAnyH_all (rs:=[9]) (by kernel_rfl) (by simp) ?_
      intro i hi
      simp only [List.mem_cons,List.not_mem_nil,or_false] at hi
      rcases hi with rfl
      ·refine aL 9 rfl rfl ?_
       intro K hK
       (first|refine ah 0 (u8s (restOf m)) hm rfl rfl rfl 64 bw rfl (by rw [aa];exact HR64.out) (ai _) ?_|refine ah 1 (u8s (restOf m)) hm rfl rfl rfl 64 bw rfl (by rw [aa];exact HR64.out) (ai _) ?_);(clear hm;intro w7 hm)
       refine wpList_nil ?_
       refine hK _ _ hm.below ?_
       clear hK K
       refine wpAnyH_done (by kernel_rfl) ⟨g3,g4,rfl,?_⟩ _
       first|exact hm|exact hm.swap
   ·refine aL 7 rfl rfl ?_
    intro K hK
    (refine ag _ cG hm ?_;clear hm;intro w5 g4 hm)
    refine wpList_nil ?_
    refine hK _ _ hm.below ?_
    clear hK K
    refine wpAnyH_all (rs:=[1]) (by kernel_rfl) (by simp) ?_
    intro i hi
    simp only [List.mem_cons,List.not_mem_nil,or_false] at hi
    rcases hi with rfl
    ·refine aL 1 rfl rfl ?_
     intro K hK
     go_wp2_with ((go_at_call 190;refine (en g _ _ _ HW8.out HR64.out HSM.out _ (Row.below' HR.out hm.below)).mono ?_;rintro e w3 ⟨rfl,hb⟩;replace hm:=hm.call hb;clear hb))
     refine hK _ _ hm.below ?_
     clear hK K
     refine wpAnyH_all (rs:=[8]) (by kernel_rfl) (by simp) ?_
     intro i hi
     simp only [List.mem_cons,List.not_mem_nil,or_false] at hi
     rcases hi with rfl
     ·refine aL 8 rfl rfl ?_
      intro K hK
      (first|refine ah 0 (u32s (wsOf m)) hm rfl rfl rfl 8 bU rfl (by rw [ao];exact HW8.out) (aX _) ?_|refine ah 1 (u32s (wsOf m)) hm rfl rfl rfl 8 bU rfl (by rw [ao];exact HW8.out) (aX _) ?_);(clear hm;intro w6 hm)
      refine wpList_nil ?_
      refine hK _ _ hm.below ?_
      clear hK K
      refine wpAnyH_all (rs:=[9]) (by kernel_rfl) (by simp) ?_
      intro i hi
      simp only [List.mem_cons,List.not_mem_nil,or_false] at hi
      rcases hi with rfl
      ·refine aL 9 rfl rfl ?_
       intro K hK
       (first|refine ah 0 (u8s (restOf m)) hm rfl rfl rfl 64 bw rfl (by rw [aa];exact HR64.out) (ai _) ?_|refine ah 1 (u8s (restOf m)) hm rfl rfl rfl 64 bw rfl (by rw [aa];exact HR64.out) (ai _) ?_);(clear hm;intro w7 hm)
       refine wpList_nil ?_
       refine hK _ _ hm.below ?_
       clear hK K
       refine wpAnyH_done (by kernel_rfl) ⟨g3,g4,rfl,?_⟩ _
       first|exact hm|exact hm.swap
  ·refine aL 7 rfl rfl ?_
   intro K hK
   (refine ag _ cG hm ?_;clear hm;intro w5 g4 hm)
   refine wpList_nil ?_
   refine hK _ _ hm.below ?_
   clear hK K
   refine wpAnyH_all (rs:=[1,6]) (by kernel_rfl) (by simp) ?_
   intro i hi
   simp only [List.mem_cons,List.not_mem_nil,or_false] at hi
   rcases hi with rfl|rfl
   ·refine aL 1 rfl rfl ?_
    intro K hK
    go_wp2_with ((go_at_call 190;refine (en g _ _ _ HW8.out HR64.out HSM.out _ (Row.below' HR.out hm.below)).mono ?_;rintro e w3 ⟨rfl,hb⟩;replace hm:=hm.call hb;clear hb))
    refine hK _ _ hm.below ?_
    clear hK K
    refine wpAnyH_all (rs:=[6]) (by kernel_rfl) (by simp) ?_
    intro i hi
    simp only [List.mem_cons,List.not_mem_nil,or_false] at hi
    rcases hi with rfl
    ·refine aL 6 rfl rfl ?_
     intro K hK
     (refine ag _ dP hm ?_;clear hm;intro w4 g3 hm)
     refine wpList_nil ?_
     refine hK _ _ hm.below ?_
     clear hK K
     refine wpAnyH_all (rs:=[8]) (by kernel_rfl) (by simp) ?_
     intro i hi
     simp only [List.mem_cons,List.not_mem_nil,or_false] at hi
     rcases hi with rfl
     ·refine aL 8 rfl rfl ?_
      intro K hK
      (first|refine ah 0 (u32s (wsOf m)) hm rfl rfl rfl 8 bU rfl (by rw [ao];exact HW8.out) (aX _) ?_|refine ah 1 (u32s (wsOf m)) hm rfl rfl rfl 8 bU rfl (by rw [ao];exact HW8.out) (aX _) ?_);(clear hm;intro w6 hm)
      refine wpList_nil ?_
      refine hK _ _ hm.below ?_
      clear hK K
      refine wpAnyH_all (rs:=[9]) (by kernel_rfl) (by simp) ?_
      intro i hi
      simp only [List.mem_cons,List.not_mem_nil,or_false] at hi
      rcases hi with rfl
      ·refine aL 9 rfl rfl ?_
       intro K hK
       (first|refine ah 0 (u8s (restOf m)) hm rfl rfl rfl 64 bw rfl (by rw [aa];exact HR64.out) (ai _) ?_|refine ah 1 (u8s (restOf m)) hm rfl rfl rfl 64 bw rfl (by rw [aa];exact HR64.out) (ai _) ?_);(clear hm;intro w7 hm)
       refine wpList_nil ?_
       refine hK _ _ hm.below ?_
       clear hK K
       refine wpAnyH_done (by kernel_rfl) ⟨g3,g4,rfl,?_⟩ _
       first|exact hm|exact hm.swap
   ·refine aL 6 rfl rfl ?_
    intro K hK
    (refine ag _ dP hm ?_;clear hm;intro w4 g3 hm)
    refine wpList_nil ?_
    refine hK _ _ hm.below ?_
    clear hK K
    refine wpAnyH_all (rs:=[1]) (by kernel_rfl) (by simp) ?_
    intro i hi
    simp only [List.mem_cons,List.not_mem_nil,or_false] at hi
    rcases hi with rfl
    ·refine aL 1 rfl rfl ?_
     intro K hK
     go_wp2_with ((go_at_call 190;refine (en g _ _ _ HW8.out HR64.out HSM.out _ (Row.below' HR.out hm.below)).mono ?_;rintro e w3 ⟨rfl,hb⟩;replace hm:=hm.call hb;clear hb))
     refine hK _ _ hm.below ?_
     clear hK K
     refine wpAnyH_all (rs:=[8]) (by kernel_rfl) (by simp) ?_
     intro i hi
     simp only [List.mem_cons,List.not_mem_nil,or_false] at hi
     rcases hi with rfl
     ·refine aL 8 rfl rfl ?_
      intro K hK
      (first|refine ah 0 (u32s (wsOf m)) hm rfl rfl rfl 8 bU rfl (by rw [ao];exact HW8.out) (aX _) ?_|refine ah 1 (u32s (wsOf m)) hm rfl rfl rfl 8 bU rfl (by rw [ao];exact HW8.out) (aX _) ?_);(clear hm;intro w6 hm)
      refine wpList_nil ?_
      refine hK _ _ hm.below ?_
      clear hK K
      refine wpAnyH_all (rs:=[9]) (by kernel_rfl) (by simp) ?_
      intro i hi
      simp only [List.mem_cons,List.not_mem_nil,or_false] at hi
      rcases hi with rfl
      ·refine aL 9 rfl rfl ?_
       intro K hK
       (first|refine ah 0 (u8s (restOf m)) hm rfl rfl rfl 64 bw rfl (by rw [aa];exact HR64.out) (ai _) ?_|refine ah 1 (u8s (restOf m)) hm rfl rfl rfl 64 bw rfl (by rw [aa];exact HR64.out) (ai _) ?_);(clear hm;intro w7 hm)
       refine wpList_nil ?_
       refine hK _ _ hm.below ?_
       clear hK K
       refine wpAnyH_done (by kernel_rfl) ⟨g3,g4,rfl,?_⟩ _
       first|exact hm|exact hm.swap

 ·rintro a' w' ⟨g3,g4,rfl,hm⟩
  obtain ⟨q,hq⟩:∃q,q=m.length % 64:=⟨_,rfl⟩
  have hq64:q<64:=by omega
  have hqi:(m.length:Int) % 64=(q:Int):=by omega
  have HQ:Hid _:=hq
  clear hq
  have hb64:((restOf m).set q 128).length=64:=by rw [List.length_set];exact HR64.out
  have hbb:Bytes ((restOf m).set q 128):=Bytes.set (iR HBM.out) q 128 ⟨by omega,by omega⟩
  have HB64:Hid _:=hb64
  have HBB:Hid _:=hbb
  clear hb64 hbb
  by_cases h56:56≤q
  ·have h56i:(56:Int)≤(q:Int):=by omega
   have hfin:fin (wsOf m) (restOf m) m.length=mix (mix (wsOf m) ((restOf m).set q 128)) (splice (List.replicate 64 0) 56 (be8 (m.length * 8))):=by
    unfold fin;rw [←HQ.out,if_pos h56]
   have HF:Hid _:=hfin
   clear hfin
   go_wp2_with (first
    | ((with_reducible refine ae (some 15) (.load 3 (.tmp 14)) ?_);refine eS 72 (.int .i64 m.length) (Row.below' HR.out hm.below) rfl ji HSZ.out ?_)
    | ((with_reducible refine ae none (.store 5 (.tmp 18) (.const (.int .u8 128))) ?_);refine bj 0 q (.int .u8 128) hm rfl (rfl) rfl aQ (by rw [aa,HR64.out];exact hq64) rfl rfl ?_;clear hm;intro w8 hm;rw [bW] at hm)
    | ((with_reducible refine ae (some 21) (.load 222 (.tmp 3)) ?_);refine av 1 hm rfl rfl _ eA rfl 8 bU (by rw [ao];exact HW8.out) ?_)
    | ((with_reducible refine ae (some 22) (.load 108 (.tmp 4)) ?_);refine av 0 hm rfl rfl _ cD rfl 64 bw (by rw [aa];exact HB64.out) ?_)
    | (go_at_call 191;refine (gg (wsOf m) ((restOf m).set q 128) HW8.out HB64.out (Bytes.get HBB.out) _ (Tab.below HT.out hm.below)).mono ?_;rintro e w9 ⟨rfl,hb⟩;replace hm:=hm.call hb;clear hb)
    | ((with_reducible refine ae none (.store 222 (.tmp 3) (.tmp 23)) ?_);refine ah 1 (u32s (mix (wsOf m) ((restOf m).set q 128))) hm rfl rfl rfl 8 bU (by rw [ao];exact HW8.out) (by rw [ao];exact bp _ _ HW8.out) (aX _) ?_;clear hm;intro w10 hm)
    | ((with_reducible refine ae (some 24) (.build 108 #[]) ?_);refine ay (u8s (List.replicate 64 0)) [] rfl built_b64 ?_)
    | ((with_reducible refine ae none (.store 108 (.tmp 4) (.tmp 24)) ?_);refine ah 0 (u8s (List.replicate 64 0)) hm rfl rfl rfl 64 bw (by rw [aa];exact HB64.out) (by rw [aa];rfl) (ai _) ?_;clear hm;intro w11 hm))

   have hlB:(List.replicate 64 (0:Int)).length=64:=rfl
   have hl8:(be8 (m.length * 8)).length=8:=rfl
   have hspl:(splice (List.replicate 64 (0:Int)) 56 (be8 (m.length * 8))).length=64:=by rw [length_splice _ _ _ (by omega),hlB]
   have hnw:splice (u8s (List.replicate 64 (0:Int))) 56 (u8s (be8 (m.length * 8)))=u8s (splice (List.replicate 64 (0:Int)) 56 (be8 (m.length * 8))):=by simp [splice,u8s]
   have HNW:Hid _:=hnw
   have HLB:Hid _:=hlB
   clear hlB hl8 hnw
   have hbs:Bytes (splice (List.replicate 64 (0:Int)) 56 (be8 (m.length * 8))):=Bytes.splice (Bytes.zeros 64) (dH _) 56
   have HSP:Hid _:=hspl
   have HBS:Hid _:=hbs
   clear hspl hbs
   refine aA ?_
   refine aZ (T:=fun W=>Below w.heap.size w W) (by kernel_rfl) hm ?_
   clear hm
   intro w12 hm
   refine aT 0 (v:=.slice (some ⟨g4,56,none⟩) 8 8) rfl (by kernel_rfl) rfl (fun W _=>by go_simp) hm.below ?_
   refine aT 1 (v:=.pointer (some ⟨g,0,none⟩)) rfl (by kernel_rfl) rfl (fun W _=>rfl) hm.below ?_
   refine aT 2 (v:=.pointer (some ⟨g,0,none⟩)) rfl (by kernel_rfl) rfl (fun W _=>rfl) hm.below ?_
   refine aT 3 (v:=.pointer (some ⟨g,72,none⟩)) rfl (by kernel_rfl) rfl (fun W _=>by go_simp) hm.below ?_
   refine aT 4 (v:=.int .i64 m.length) rfl (by kernel_rfl) rfl (fun W hW=>eI 72 _ (Row.below' HR.out hW) rfl ji HSZ.out) hm.below ?_
   refine aT 5 (v:=.int .u64 m.length) rfl (by kernel_rfl) rfl (fun W _=>by go_simp;exact gD _ (by omega)) hm.below ?_
   refine aT 6 (v:=.int .u64 (m.length * 8)) rfl (by kernel_rfl) rfl (fun W _=>by go_simp;rw [show (m.length:Int) * 8=((m.length * 8:Nat):Int) by omega];exact gD _ (by omega)) hm.below ?_

   refine aP 7 (by kernel_rfl) rfl rfl ?_
   intro K hK
   go_wp2_with (go_at_call 91;refine (gq _ _).mono ?_;rintro e w13 ⟨g9,rfl,hg9,hr9,hb⟩;replace hm:=hm.call hb;clear hb)
   refine hK _ _ hm.below ?_
   clear hK K
   refine aP 8 (by kernel_rfl) rfl rfl ?_
   intro K hK
   refine cI 0 56 8 8 ⟨g9,0,none⟩ 8 8 (u8s (be8 (m.length * 8))) 8 (u8s (splice (List.replicate 64 (0:Int)) 56 (be8 (m.length * 8)))) hm rfl rfl rfl _ aF aQ rfl rfl (Seg.row hr9).src (by have h:=HLB.out;rw [aa];omega) (ai _) HNW.out ?_
   clear hm
   intro w14 hm
   refine wpList_nil ?_
   refine hK _ _ hm.below ?_
   clear hK K
   refine wpAnyH_done (by kernel_rfl) ?_ _
   go_simp
   simp only [endsIn]
   go_wp2_with (first
    | ((with_reducible refine ae (some 34) (.load 222 (.tmp 3)) ?_);refine av 1 hm rfl rfl _ eA rfl 8 bU (by rw [ao];exact (bp _ _ HW8.out)) ?_)
    | ((with_reducible refine ae (some 35) (.load 108 (.tmp 4)) ?_);refine av 0 hm rfl rfl _ cD rfl 64 bw (by rw [aa];exact HSP.out) ?_)
    | (go_at_call 191;refine (gg (mix (wsOf m) ((restOf m).set q 128)) (splice (List.replicate 64 (0:Int)) 56 (be8 (m.length * 8))) (bp _ _ HW8.out) HSP.out (Bytes.get HBS.out) _ (Tab.below HT.out hm.below)).mono ?_;rintro e w15 ⟨rfl,hb⟩;replace hm:=hm.call hb;clear hb)
    | (go_at_call 192;refine (jQ (mix (mix (wsOf m) ((restOf m).set q 128)) (splice (List.replicate 64 (0:Int)) 56 (be8 (m.length * 8)))) (bp _ _ (bp _ _ HW8.out)) _).mono ?_;rintro e w16 ⟨rfl,hb⟩;replace hm:=hm.call hb;clear hb)
    | ((with_reducible refine ae none (.store 42 (.tmp 2) (.tmp 37)) ?_);refine ah 2 (u8s (asB (mix (mix (wsOf m) ((restOf m).set q 128)) (splice (List.replicate 64 (0:Int)) 56 (be8 (m.length * 8)))))) hm rfl rfl rfl 32 bB (rfl) (by rw [aa];exact cE _ (bp _ _ (bp _ _ HW8.out))) (ai _) ?_;clear hm;intro w17 hm))

   have hsha:shaOf m=asB (mix (mix (wsOf m) ((restOf m).set q 128)) (splice (List.replicate 64 (0:Int)) 56 (be8 (m.length * 8)))):=by unfold shaOf;rw [HF.out]
   rw [hsha]
   exact aH 2 hm rfl Tryz.results162 rfl _ dV rfl 32 bB (by rw [aa];exact cE _ (bp _ _ (bp _ _ HW8.out))) rfl ⟨rfl,hm.below⟩

  ·have h56i:¬(56:Int)≤(q:Int):=by omega
   have hfin:fin (wsOf m) (restOf m) m.length=mix (wsOf m) (splice ((restOf m).set q 128) 56 (be8 (m.length * 8))):=by
    unfold fin;rw [←HQ.out,if_neg h56]
   have HF:Hid _:=hfin
   clear hfin
   go_wp2_with (first
    | ((with_reducible refine ae (some 15) (.load 3 (.tmp 14)) ?_);refine eS 72 (.int .i64 m.length) (Row.below' HR.out hm.below) rfl ji HSZ.out ?_)
    | ((with_reducible refine ae none (.store 5 (.tmp 18) (.const (.int .u8 128))) ?_);refine bj 0 q (.int .u8 128) hm rfl (rfl) rfl aQ (by rw [aa,HR64.out];exact hq64) rfl rfl ?_;clear hm;intro w8 hm;rw [bW] at hm))

   have hlB:((restOf m).set q 128).length=64:=HB64.out
   have hl8:(be8 (m.length * 8)).length=8:=rfl
   have hspl:(splice ((restOf m).set q 128) 56 (be8 (m.length * 8))).length=64:=by rw [length_splice _ _ _ (by omega),hlB]
   have hnw:splice (u8s ((restOf m).set q 128)) 56 (u8s (be8 (m.length * 8)))=u8s (splice ((restOf m).set q 128) 56 (be8 (m.length * 8))):=by simp [splice,u8s]
   have HNW:Hid _:=hnw
   have HLB:Hid _:=hlB
   clear hlB hl8 hnw
   have hbs:Bytes (splice ((restOf m).set q 128) 56 (be8 (m.length * 8))):=Bytes.splice HBB.out (dH _) 56
   have HSP:Hid _:=hspl
   have HBS:Hid _:=hbs
   clear hspl hbs
   refine aA ?_
   refine aZ (T:=fun W=>Below w.heap.size w W) (by kernel_rfl) hm ?_
   clear hm
   intro w12 hm
   refine aT 0 (v:=.slice (some ⟨g4,56,none⟩) 8 8) rfl (by kernel_rfl) rfl (fun W _=>by go_simp) hm.below ?_
   refine aT 1 (v:=.pointer (some ⟨g,0,none⟩)) rfl (by kernel_rfl) rfl (fun W _=>rfl) hm.below ?_
   refine aT 2 (v:=.pointer (some ⟨g,0,none⟩)) rfl (by kernel_rfl) rfl (fun W _=>rfl) hm.below ?_
   refine aT 3 (v:=.pointer (some ⟨g,72,none⟩)) rfl (by kernel_rfl) rfl (fun W _=>by go_simp) hm.below ?_
   refine aT 4 (v:=.int .i64 m.length) rfl (by kernel_rfl) rfl (fun W hW=>eI 72 _ (Row.below' HR.out hW) rfl ji HSZ.out) hm.below ?_
   refine aT 5 (v:=.int .u64 m.length) rfl (by kernel_rfl) rfl (fun W _=>by go_simp;exact gD _ (by omega)) hm.below ?_
   refine aT 6 (v:=.int .u64 (m.length * 8)) rfl (by kernel_rfl) rfl (fun W _=>by go_simp;rw [show (m.length:Int) * 8=((m.length * 8:Nat):Int) by omega];exact gD _ (by omega)) hm.below ?_

   refine aP 7 (by kernel_rfl) rfl rfl ?_
   intro K hK
   go_wp2_with (go_at_call 91;refine (gq _ _).mono ?_;rintro e w13 ⟨g9,rfl,hg9,hr9,hb⟩;replace hm:=hm.call hb;clear hb)
   refine hK _ _ hm.below ?_
   clear hK K
   refine aP 8 (by kernel_rfl) rfl rfl ?_
   intro K hK
   refine cI 0 56 8 8 ⟨g9,0,none⟩ 8 8 (u8s (be8 (m.length * 8))) 8 (u8s (splice ((restOf m).set q 128) 56 (be8 (m.length * 8)))) hm rfl rfl rfl _ aF aQ rfl rfl (Seg.row hr9).src (by have h:=HLB.out;rw [aa];omega) (ai _) HNW.out ?_
   clear hm
   intro w14 hm
   refine wpList_nil ?_
   refine hK _ _ hm.below ?_
   clear hK K
   refine wpAnyH_done (by kernel_rfl) ?_ _
   go_simp
   simp only [endsIn]
   go_wp2_with (first
    | ((with_reducible refine ae (some 34) (.load 222 (.tmp 3)) ?_);refine av 1 hm rfl rfl _ eA rfl 8 bU (by rw [ao];exact HW8.out) ?_)
    | ((with_reducible refine ae (some 35) (.load 108 (.tmp 4)) ?_);refine av 0 hm rfl rfl _ cD rfl 64 bw (by rw [aa];exact HSP.out) ?_)
    | (go_at_call 191;refine (gg (wsOf m) (splice ((restOf m).set q 128) 56 (be8 (m.length * 8))) HW8.out HSP.out (Bytes.get HBS.out) _ (Tab.below HT.out hm.below)).mono ?_;rintro e w15 ⟨rfl,hb⟩;replace hm:=hm.call hb;clear hb)
    | (go_at_call 192;refine (jQ (mix (wsOf m) (splice ((restOf m).set q 128) 56 (be8 (m.length * 8)))) (bp _ _ HW8.out) _).mono ?_;rintro e w16 ⟨rfl,hb⟩;replace hm:=hm.call hb;clear hb)
    | ((with_reducible refine ae none (.store 42 (.tmp 2) (.tmp 37)) ?_);refine ah 2 (u8s (asB (mix (wsOf m) (splice ((restOf m).set q 128) 56 (be8 (m.length * 8)))))) hm rfl rfl rfl 32 bB (rfl) (by rw [aa];exact cE _ (bp _ _ HW8.out)) (ai _) ?_;clear hm;intro w17 hm))

   have hsha:shaOf m=asB (mix (wsOf m) (splice ((restOf m).set q 128) 56 (be8 (m.length * 8)))):=by unfold shaOf;rw [HF.out]
   rw [hsha]
   exact aH 2 hm rfl Tryz.results162 rfl _ dV rfl 32 bB (by rw [aa];exact cE _ (bp _ _ HW8.out)) rfl ⟨rfl,hm.below⟩
open Go Go.RowKit
def strOf (ns:List Int):ByteArray:=⟨(ns.map fun n=>UInt8.ofNat n.toNat).toArray⟩
section
variable {P:Program} {ops:Array Oper} {rest:List Oper} {a:Act} {w w0:World} {Q:Exit→Act→World→Prop} {dst:Option Tmp} {typ:TypeId} {pos:String} {aft:Array Edge} {S:List Nat} {rows:List (Nat×List Value×TypeId)}
theorem run_ixs (w:World) {ty:TypeId} (hu:P.underlying ty=some .string) (s:ByteArray) {k:IntKind} {i:Int} (j:Nat) (b:UInt8) (hi:i=(j:Int)) (hb:s.data[j]?=some b):(Instr.index ty (.string s) (.int k i)).run P w=.ok (.int .u8 b.toNat) w:=by
 subst hi
 have hj:j<s.size:=by
  rcases Nat.lt_or_ge j s.data.size with h|h
  ·exact h
  ·rw [Array.getElem?_eq_none h] at hb;cases hb
 have hg:s[j]=b:=by
  have:s.data[j]?=some s.data[j]:=by simp
  rw [this] at hb
  exact Option.some.inj hb
 rw [run_index_string w ty s k (j:Int) hu,dif_pos ⟨by omega,by omega⟩]
 simp [hg]
theorem wpl_ixs {ty:TypeId} {x ix:Operand} (hu:P.underlying ty=some .string) (s:ByteArray) {k:IntKind} {i:Int} (j:Nat) (v:Int) (hx:a.eval x=.string s) (hix:a.eval ix=.int k i) (hi:i=(j:Int)) (hb:∃b,s.data[j]?=some b∧(b.toNat:Int)=v)
  (h:wpList P ops Q rest (a.put dst (.int .u8 v)) w) :
  wpList P ops Q ({dst:=dst,op:=.index ty x ix,type:=typ,pos:=pos,after:=aft,guard:=none}::rest) a w:=by
 obtain ⟨b,hb,rfl⟩:=hb
 refine wpList_plain rfl fun K hK=>?_
 have hh:=hK _ _ h
 unfold Oper.wp execOp
 simp only [hx,hix,run_ixs w hu s j b hi hb,Sem.run_bind,Sem.run_pure,Result.andThen_ok]
 exact hh
end
def digs:ByteArray:={data:=#[48,49,50,51,52,53,54,55,56,57,97,98,99,100,101,102]}
def hexRow (l:List Int) (k:Nat):List Int:=hexOf (l.take k)++List.replicate (64 - 2 * k) 0
open Go Go.RowKit
theorem bE {w w':World} (h:Below w.heap.size w w'):w.grownBy w' none:=⟨h.os,h.tape,h.output,h.size,fun k hk _=>h.block k hk⟩
theorem iH {w w':World} {g:Nat} (h:Upd g w w'):w.grownBy w' (some g):=⟨h.os,h.tape,h.output,h.size,fun k hk hn=>h.block k hk (fun e=>hn (by rw [e]))⟩
def OwnB (e:TypeId) (w:World) (base:Nat) (v:Value) (zs:List Int):Prop:=w.ownsRow base e 1 v zs.length (u8s zs)
section
variable {e:TypeId} {w w' w0:World} {base:Nat} {v:Value} {zs:List Int} {S:List Nat} {rows:List (Nat×List Value×TypeId)}
theorem OwnB.nil (e:TypeId) (w:World) (base:Nat):OwnB e w base (.slice none 0 0) []:=World.ownsRow_nil w base e 1
theorem OwnB.below (h:OwnB e w base v zs) (hb:Below w.heap.size w w'):OwnB e w' base v zs:=World.ownsRow.kept h (bE hb) (by cases h':v.ownBlock<;>simp)
theorem OwnB.alloc (h:OwnB e w base v zs) (o:Obj):OwnB e (w.alloc o) base v zs:=World.ownsRow.alloc h o
theorem OwnB.apart (h:OwnB e w base v zs) {g:Nat} {l:List Value} {t:TypeId} (hr:Row w g l t) (ht:t≠e):v.ownBlock≠some g:=by
 obtain ⟨_,h2⟩:=h
 rcases h2 with ⟨rfl,_⟩|⟨g',cap,cur,rfl,_,hh,_⟩
 ·simp [Value.ownBlock]
 ·intro he
  have hg:g'=g:=by simpa [Value.ownBlock] using he
  subst hg
  rw [hr] at hh
  simp only [Option.some.injEq,Obj.cells.injEq] at hh
  exact ht hh.2.1
theorem OwnB.upd (h:OwnB e w base v zs) {g:Nat} {l:List Value} {t:TypeId} (hr:Row w g l t) (ht:t≠e) (hu:Upd g w w'):OwnB e w' base v zs :=
 World.ownsRow.kept h (iH hu) (Or.inr (h.apart hr ht))
theorem OwnB.old (h:OwnB e w base v zs):∃p cap,v=.slice p zs.length cap∧zs.length≤cap∧(0<zs.length→∃b off,p=some ⟨b,off,none⟩∧Seg w b off zs):=by
 have h0:=h
 obtain ⟨_,h2⟩:=h
 rcases h2 with ⟨rfl,hn⟩|⟨g,cap,cur,rfl,hb,hh,hn,_,_,_⟩
 ·exact ⟨none,0,by rw [hn],by omega,fun h=>absurd h (by omega)⟩
 ·refine ⟨_,cap,rfl,hn,fun _=>⟨g,0,rfl,fun j hj=>?_⟩⟩
  have:=World.ownsRow.cells h0 rfl j (.int .u8 (zs.getD j 0)) (cK zs j hj)
  rw [bK] at this
  exact this
theorem Mem.grown (hm:Mem w0 S w rows) (h:OwnB e w w0.heap.size v zs) (hty:∀r∈rows,r.2.2≠e) (hg:w.grownBy w' v.ownBlock):Mem w0 S w' rows:=by
 have hl:=World.ownsRow.lt h
 refine ⟨hg.os.trans hm.os,hg.tape.trans hm.tape,hg.output.trans hm.output,Nat.le_trans hm.size hg.size,fun k hk hn=>?_,fun r hr=>?_,hm.nodup,hm.fresh⟩
 ·refine (hg.block k (Nat.lt_of_lt_of_le hk hm.size) (fun he=>?_)).trans (hm.block k hk hn)
  have:=(hl k he.symm).1
  omega
 ·have hrow:=hm.row r hr
  unfold Row
  rw [hg.block r.1 hrow.lt (fun he=>h.apart hrow (hty r hr) he.symm)]
  exact hrow
theorem run_app {P:Program} (t ty:TypeId) (ht:P.underlying t=some (.slice e)) (hi:(P.info? e).map (fun i=>(i.zero,i.size,i.bytes))=some (some (.int .u8 0),1,1)) (h:OwnB e w base v zs) (ps:Option Addr) (c:Nat) (ys:List Int)
  (hs:0<ys.length→∃b off,ps=some ⟨b,off,none⟩∧Seg w b off ys) (hlen:zs.length+ys.length≤1099511627776) (hbase:base≤w.heap.size) :
  ∃v' w',(Builtin.append_ #[t,t] ty #[v,.slice ps ys.length c]).run P w=.ok v' w'∧OwnB e w' base v' (zs++ys)∧w.grownBy w' v.ownBlock:=by
 cases hq:P.info? e with
 | none=>simp [hq] at hi
 | some i =>
  simp only [hq,Option.map_some,Option.some.injEq,Prod.mk.injEq] at hi
  obtain ⟨hz,h1,h2⟩:=hi
  by_cases h0:0<ys.length
  ·obtain ⟨b,off,rfl,hseg⟩:=hs h0
   obtain ⟨v',w',hr,hown,hgr,_,_⟩:=run_append_own_at (P:=P) w base t ty e i (.int .u8 0) 1 1 ht hq hz h1 h2 rfl (by omega) v zs.length (u8s zs) h ⟨b,off,none⟩ ys.length c (u8s ys) (by rw [aa];omega) hseg.src (ai _) (by unfold maxLen;omega) (by omega) hbase
   refine ⟨v',w',hr,?_,hgr⟩
   unfold OwnB
   rw [List.length_append,show u8s (zs++ys)=u8s zs++u8s ys by simp [u8s]]
   exact hown
  ·have hy:ys=[]:=List.eq_nil_of_length_eq_zero (by omega)
   subst hy
   refine ⟨v,w,?_,by rw [List.append_nil];exact h,⟨rfl,rfl,rfl,Nat.le_refl _,fun _ _ _=>rfl⟩⟩
   obtain ⟨_,h3⟩:=h
   have hld:∀a:Addr,(loadCells a 0).run P w=.ok #[] w:=fun a=>rfl
   rcases h3 with ⟨rfl,_⟩|⟨g,cap,cur,rfl,_,_,hn,_⟩
   ·cases ps<;>simp [Builtin.append_,run_underlying ht,sizeOf,typeInfo,hq,Builtin.lenOf,Builtin.firstCells,hld]
   ·cases ps<;>simp [Builtin.append_,run_underlying ht,sizeOf,typeInfo,hq,Builtin.lenOf,Builtin.firstCells,hld,hn,storeCells]
end
section
variable {P:Program} {ops:Array Oper} {rest:List Oper} {a:Act} {w w0:World} {Q:Exit→Act→World→Prop} {dst:Option Tmp} {typ:TypeId} {pos:String} {aft:Array Edge} {gd:Option (Nat×Bool)} {S:List Nat} {rows:List (Nat×List Value×TypeId)}
theorem dO {s x:Operand} {t e:TypeId} (hw:Region.wanted {dst:=dst,op:=.call {callee:=.builtin .append,args:=#[s,x],argTypes:=#[t,t]},type:=typ,pos:=pos,after:=aft,guard:=gd} (yielded ops a.tmps)=true)
  (ht:P.underlying t=some (.slice e)) (hi:(P.info? e).map (fun i=>(i.zero,i.size,i.bytes))=some (some (.int .u8 0),1,1)) {v:Value} {zs:List Int} (ys:List Int) {ps:Option Addr} {n c:Nat} (hm:Mem w0 S w rows) (hown:OwnB e w w0.heap.size v zs) (hty:∀r∈rows,r.2.2≠e)
  (hs:a.eval s=v) (hx:a.eval x=.slice ps n c) (hn:n=ys.length) (hsrc:0<ys.length→∃b off,ps=some ⟨b,off,none⟩∧Seg w b off ys) (hlen:zs.length+ys.length≤1099511627776)
  (h:∀v' w',OwnB e w' w0.heap.size v' (zs++ys)→Mem w0 S w' rows→wpList P ops Q rest (a.put dst v') w') :
  wpList P ops Q ({dst:=dst,op:=.call {callee:=.builtin .append,args:=#[s,x],argTypes:=#[t,t]},type:=typ,pos:=pos,after:=aft,guard:=gd}::rest) a w:=by
 subst hn
 obtain ⟨v',w',hr,ho,hg⟩:=run_app (P:=P) t typ ht hi hown ps c ys hsrc hlen hm.size
 refine wpList_step fun K hK=>?_
 rw [if_pos hw]
 have hh:=hK _ _ (h v' w' ho (hm.grown hown hty hg))
 unfold Oper.wp execOp
 simp only [resolve,invoke,builtin,Sem.run_bind,Sem.run_pure,Result.andThen_ok,List.map_toArray,List.map_cons,List.map_nil,hs,hx,hr]
 exact hh
end
end Go.Proofs.YtlpnafdkhoimhaaGreatDoor
namespace Go.Proofs.YtlpnafdkhoimhaaGreatDoor
open Go Go.RowKit
section
variable {P:Program} {ops:Array Oper} {rest:List Oper} {a:Act} {w w0:World} {Q:Exit→Act→World→Prop} {dst:Option Tmp} {typ:TypeId} {pos:String} {aft:Array Edge} {gd:Option (Nat×Bool)} {S:List Nat} {rows:List (Nat×List Value×TypeId)}
theorem bx {ty:TypeId} {x:Operand} {b j:Nat} (v:Value) (hc:w.cell? ⟨b,j,none⟩=some v) (hx:a.eval x=.pointer (some ⟨b,j,none⟩)) (ha:∀w,(isAgg ty).run P w=.ok false w)
  (h:wpList P ops Q rest (a.put dst v) w):wpList P ops Q ({dst:=dst,op:=.load ty x,type:=typ,pos:=pos,after:=aft,guard:=none}::rest) a w:=by
 refine wpList_plain rfl fun K hK=>?_
 have hh:=hK _ _ h
 have hld:(loadVar ty ⟨b,j,none⟩).run P w=.ok v w:=by simp [loadVar,ha,go_sem,hc]
 unfold Oper.wp execOp
 simp only [hx,Instr.loadAt,Instr.sureAddr,Sem.run_bind,Sem.run_pure,Result.andThen_ok,hld]
 exact hh
end
end Go.Proofs.YtlpnafdkhoimhaaGreatDoor
namespace Go.Proofs.YtlpnafdkhoimhaaGreatDoor
open Go Go.RowKit
def Later (w:World) (v v':Value):Prop:=v'.ownBlock=v.ownBlock∨∀j,v'.ownBlock=some j→w.heap.size≤j
theorem Later.refl (w:World) (v:Value):Later w v v:=Or.inl rfl
theorem Later.step {w w1:World} {v v1 v2:Value} (h:Later w v v1) (hs:w.heap.size≤w1.heap.size) (h2:v2.ownBlock=v1.ownBlock∨v2.ownBlock=some w1.heap.size):Later w v v2:=by
 rcases h2 with h2|h2
 ·rcases h with h|h
  ·exact Or.inl (h2.trans h)
  ·exact Or.inr (fun j hj=>h j (h2.symm.trans hj))
 ·refine Or.inr (fun j hj=>?_)
  rw [h2] at hj
  cases hj
  exact hs
theorem eq {w w1 w2:World} {v v1:Value} (hg:w.grownBy w1 v.ownBlock) (hl:Later w v v1) (hg2:w1.grownBy w2 v1.ownBlock):w.grownBy w2 v.ownBlock:=by
 refine hg.andThen hg2 (fun j hj=>?_)
 rcases hl with hl|hl
 ·exact Or.inr (hl.symm.trans hj)
 ·exact Or.inl (hl j hj)
section
variable {P:Program} {ops:Array Oper} {rest:List Oper} {a:Act} {w:World} {Q:Exit→Act→World→Prop} {dst:Option Tmp} {typ:TypeId} {pos:String} {aft:Array Edge} {gd:Option (Nat×Bool)}
theorem wpl_appG {s x:Operand} {t e:TypeId} (hw:Region.wanted {dst:=dst,op:=.call {callee:=.builtin .append,args:=#[s,x],argTypes:=#[t,t]},type:=typ,pos:=pos,after:=aft,guard:=gd} (yielded ops a.tmps)=true)
  (ht:P.underlying t=some (.slice e)) (hi:(P.info? e).map (fun i=>(i.zero,i.size,i.bytes))=some (some (.int .u8 0),1,1)) {v:Value} {zs:List Int} (ys:List Int) {b off n c base:Nat} (hown:OwnB e w base v zs) (hbase:base≤w.heap.size)
  (hs:a.eval s=v) (hx:a.eval x=.slice (some ⟨b,off,none⟩) n c) (hn:n=ys.length) (hsrc:Seg w b off ys) (hlen:zs.length+ys.length≤1099511627776)
  (h:∀v' w',OwnB e w' base v' (zs++ys)→w.grownBy w' v.ownBlock→(v'.ownBlock=v.ownBlock∨v'.ownBlock=some w.heap.size)→wpList P ops Q rest (a.put dst v') w') :
  wpList P ops Q ({dst:=dst,op:=.call {callee:=.builtin .append,args:=#[s,x],argTypes:=#[t,t]},type:=typ,pos:=pos,after:=aft,guard:=gd}::rest) a w:=by
 subst hn
 cases hq:P.info? e with
 | none=>simp [hq] at hi
 | some i =>
  simp only [hq,Option.map_some,Option.some.injEq,Prod.mk.injEq] at hi
  obtain ⟨hz,h1,h2⟩:=hi
  obtain ⟨v',w',hr,ho,hg,_,hv⟩:=run_append_own_at (P:=P) w base t typ e i (.int .u8 0) 1 1 ht hq hz h1 h2 rfl (by omega) v zs.length (u8s zs) hown ⟨b,off,none⟩ ys.length c (u8s ys) (by rw [aa];omega) hsrc.src (ai _) (by unfold maxLen;omega) (by omega) hbase
  refine wpList_step fun K hK=>?_
  rw [if_pos hw]
  have hh:=hK _ _ (h v' w' (by unfold OwnB;rw [List.length_append,show u8s (zs++ys)=u8s zs++u8s ys by simp [u8s]];exact ho) hg hv)
  unfold Oper.wp execOp
  simp only [resolve,invoke,builtin,Sem.run_bind,Sem.run_pure,Result.andThen_ok,List.map_toArray,List.map_cons,List.map_nil,hs,hx,hr]
  exact hh
end
end Go.Proofs.YtlpnafdkhoimhaaGreatDoor
