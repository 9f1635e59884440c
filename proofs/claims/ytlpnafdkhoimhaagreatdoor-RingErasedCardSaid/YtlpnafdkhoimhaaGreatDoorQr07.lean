import Derived.Test.YtlpnafdkhoimhaaGreatDoorQr05
import Derived.Test.YtlpnafdkhoimhaaGreatDoorQr03
import Derived.Test.YtlpnafdkhoimhaaGreatDoorQr06
import Derived.Test.YtlpnafdkhoimhaaGreatDoorQr04
import Derived.Test.YtlpnafdkhoimhaaGreatDoorProg
import Derived.Lib.Split
import Derived.Lib.Join
import Derived.Lib.IndexBytes
import Derived.Maps.AppendAt
import Derived.Lib.SlicesS
import Derived.Test.YtlpnafdkhoimhaaGreatDoorChecked
set_option maxRecDepth 100000
set_option maxHeartbeats 4000000
namespace Go.Proofs.YtlpnafdkhoimhaaGreatDoor
open Go Go.RowKit
section
variable {P:Program} {md:Region.Mode} {ops:Array Oper} {R:Act→World→Prop} {T:World→Prop} {fuel:Nat} {listed:Array Bool} {a:Act} {w:World}
theorem cw (i:Nat) {o:Oper} (hi:ops[i]?=some o) (hw:Region.wanted o (yielded ops a.tmps)=true)
  (h:∀K:Act→World→Prop,(∀a' w',T w'→wpAnyH P md ops (endsIn R) T fuel (listed.setIfInBounds i true) a' w'→K a' w')→wpList P ops (endsIn K) [o] a w) :
  wpOp P ops (endsIn R) i (fun a' w'=>T w'∧wpAnyH P md ops (endsIn R) T fuel (listed.setIfInBounds i true) a' w') a w:=by
 have hh:=h (fun a' w'=>T w'∧wpAnyH P md ops (endsIn R) T fuel (listed.setIfInBounds i true) a' w') (fun _ _ h1 h2=>⟨h1,h2⟩)
 unfold wpOp
 simp only [hi]
 unfold wpList at hh
 rw [if_pos hw] at hh
 rw [if_pos hw]
 exact hh
theorem aO (i:Nat) {o:Oper} (hr:Region.ready md ops listed=[i]) (hi:ops[i]?=some o) (hw:Region.wanted o (yielded ops a.tmps)=true)
  (h:∀K:Act→World→Prop,(∀a' w',T w'→wpAnyH P md ops (endsIn R) T fuel (listed.setIfInBounds i true) a' w'→K a' w')→wpList P ops (endsIn K) [o] a w):wpAnyH P md ops (endsIn R) T (fuel+1) listed a w :=
 wpAnyH_all hr (by simp) (fun j hj=>by
  simp only [List.mem_cons,List.not_mem_nil,or_false] at hj
  subst hj
  exact cw j hi hw h)
theorem bI (i:Nat) {o:Oper} (hi:ops[i]?=some o) (hs:Region.noSelect ops=true) (hf:Region.free md ops listed i=true) (hr:(Region.ready md ops listed).contains i=true) (hw:Region.wanted o (yielded ops a.tmps)=false)
  (hT:T w) (h:wpAnyH P md ops (endsIn R) T fuel (listed.setIfInBounds i true) (a.put o.dst undef) w):wpAnyH P md ops (endsIn R) T (fuel+1) listed a w :=
 wpAnyH_take hi hs hf hr (fun _ _ _ h=>h) (Or.inr ⟨hw,rfl⟩) hT h
end
theorem wrapm (x:Int):IntKind.u32.wrap x=x % 4294967296:=by simp [IntKind.wrap,IntKind.bits,IntKind.signed]
theorem wrapw (x:Int) (h0:0≤x) (h1:x<4294967296):IntKind.u32.wrap x=x:=by rw [wrapm];omega
def cutHi (p:Option Addr) (cap:Nat):Option Addr:=if cap=0 then p else p.map (·.add 0)
def cutLo (p:Option Addr) (cap l:Nat):Option Addr:=if cap=l then p else p.map (·.add l)
theorem old_hi {w:World} {p:Option Addr} {n cap:Nat} {cs:List Int} (h:SlOld w (.slice p n cap) cs) (m:Nat) (hm:m≤n):SlOld w (.slice (cutHi p cap) m cap) (cs.take m):=by
 obtain ⟨hn,hc,hs⟩:=h.src0
 have hl:(cs.take m).length=m:=by rw [List.length_take];omega
 refine ⟨_,cap,by rw [hl],by rw [hl];omega,fun h0=>?_⟩
 rw [hl] at h0
 obtain ⟨b,off,rfl,hseg⟩:=hs (by omega)
 refine ⟨b,off,?_,hseg.take m⟩
 rw [cutHi,if_neg (by omega)]
 simp [bK]
theorem old_lo {w:World} {p:Option Addr} {n cap:Nat} {cs:List Int} (h:SlOld w (.slice p n cap) cs) (l:Nat) (hl:l≤n):SlOld w (.slice (cutLo p cap l) (n - l) (cap - l)) (cs.drop l):=by
 obtain ⟨hn,hc,hs⟩:=h.src0
 have hd:(cs.drop l).length=n - l:=by rw [List.length_drop];omega
 refine ⟨_,cap - l,by rw [hd],by rw [hd];omega,fun h0=>?_⟩
 rw [hd] at h0
 obtain ⟨b,off,rfl,hseg⟩:=hs (by omega)
 refine ⟨b,off+l,?_,hseg.drop l⟩
 rw [cutLo,if_neg (by omega)]
 simp [bK]
section
variable {P:Program} {a:Act} {w:World} {dst:Option Tmp} {typ:TypeId} {pos:String} {aft:Array Edge} {gd:Option (Nat×Bool)}
theorem iI {ty:TypeId} {x hi:Operand} {elem:TypeId} (hu:P.underlying ty=some (.slice elem)) (hs:(P.info? elem).map (·.size)=some 1) {p:Option Addr} {len cap:Nat} (m:Nat) {ih:Int} (hm:m≤cap) (hx:a.eval x=.slice p len cap) (hhi:a.eval hi=.int .i64 ih) (hih:ih=(m:Int)) :
  (execOp a.eval {dst:=dst,op:=.slice ty x none (some hi) none,type:=typ,pos:=pos,after:=aft,guard:=gd}).run P w=.ok (.value (.slice (cutHi p cap) m cap)) w:=by
 subst hih
 cases hq:P.info? elem with
 | none=>simp [hq] at hs
 | some q =>
  have hs1:q.size=1:=by simpa [hq] using hs
  have hsz:(sizeOf elem).run P w=.ok 1 w:=by simp [sizeOf,typeInfo,hq,hs1]
  have bnd:∀code,(Instr.sliceBound (.int .i64 (m:Int)) cap code).run P w=.ok m w:=by
   intro code
   rw [run_sliceBound (P:=P) w .i64 (m:Int) cap code (by omega) (by omega)]
   simp
  have hb:(Instr.sliceBounds true len cap none (some (.int .i64 (m:Int))) none).run P w=.ok (0,m,cap) w:=by
   simp [Instr.sliceBounds,bnd]
  have hr:(Instr.sliceAt ty (.slice p len cap) none (some (.int .i64 (m:Int))) none).run P w=.ok (.slice (cutHi p cap) m cap) w:=by
   simp [Instr.sliceAt,Instr.slice,run_underlying hu,hb,hsz,cutHi]
  unfold execOp
  simp only [hx,hhi,Option.map_some,Option.map_none,hr,Sem.run_bind,Sem.run_pure,Result.andThen_ok]
theorem exec_sLo {ty:TypeId} {x lo:Operand} {elem:TypeId} (hu:P.underlying ty=some (.slice elem)) (hs:(P.info? elem).map (·.size)=some 1) {p:Option Addr} {len cap:Nat} (l:Nat) {il:Int} (hl:l≤len) (hx:a.eval x=.slice p len cap) (hlo:a.eval lo=.int .i64 il) (hil:il=(l:Int)) :
  (execOp a.eval {dst:=dst,op:=.slice ty x (some lo) none none,type:=typ,pos:=pos,after:=aft,guard:=gd}).run P w=.ok (.value (.slice (cutLo p cap l) (len - l) (cap - l))) w:=by
 subst hil
 cases hq:P.info? elem with
 | none=>simp [hq] at hs
 | some q =>
  have hs1:q.size=1:=by simpa [hq] using hs
  have hsz:(sizeOf elem).run P w=.ok 1 w:=by simp [sizeOf,typeInfo,hq,hs1]
  have hb:(Instr.sliceBounds true len cap (some (.int .i64 (l:Int))) none none).run P w=.ok (l,len,cap) w:=by
   have:=run_sliceBound (P:=P) w .i64 (l:Int) len .sliceB (by omega) (by omega)
   simp [Instr.sliceBounds,this]
  have hr:(Instr.sliceAt ty (.slice p len cap) (some (.int .i64 (l:Int))) none none).run P w=.ok (.slice (cutLo p cap l) (len - l) (cap - l)) w:=by
   simp [Instr.sliceAt,Instr.slice,run_underlying hu,hb,hsz,cutLo]
  unfold execOp
  simp only [hx,hlo,Option.map_some,Option.map_none,hr,Sem.run_bind,Sem.run_pure,Result.andThen_ok]
end
open Go Go.RowKit
theorem info_tag:(Tryz.prog.info? 168).map (fun i=>(i.zero,i.size))=some (some (.agg (u8s (List.replicate 16 0)).toArray),16):=by kernel_rfl
theorem fZ:∀w,(zeroValue 168).run Tryz.prog w=.ok (.agg (u8s (List.replicate 16 0)).toArray) w:=(zero_of_info info_tag).1
theorem cM:(Tryz.prog.info? 168).map (·.size)=some 16:=(zero_of_info info_tag).2
theorem cW:Tryz.prog.underlying 168=some (.array 16 5):=Tryz.underlying168
theorem info_b48:(Tryz.prog.info? 34).map (fun i=>(i.zero,i.size))=some (some (.agg (u8s (List.replicate 48 0)).toArray),48):=by kernel_rfl
theorem zero_b48:∀w,(zeroValue 34).run Tryz.prog w=.ok (.agg (u8s (List.replicate 48 0)).toArray) w:=(zero_of_info info_b48).1
theorem et:(Tryz.prog.info? 34).map (·.size)=some 48:=(zero_of_info info_b48).2
theorem d4:Tryz.prog.underlying 34=some (.array 48 5):=Tryz.underlying34
theorem eg_tag:Tryz.prog.eqGuardType Tryz.prog.depth 168=false:=by kernel_rfl
section
variable {P:Program} {ops:Array Oper} {rest:List Oper} {a:Act} {w w0:World} {Q:Exit→Act→World→Prop} {dst:Option Tmp} {typ:TypeId} {pos:String} {aft:Array Edge} {gd:Option (Nat×Bool)} {S:List Nat} {rows:List (Nat×List Value×TypeId)}
theorem eG {ty:TypeId} {x:Operand} (n:Nat) {elem:TypeId} (hu:P.underlying ty=some (.array n elem)) {p:Option Addr} {len cap:Nat} (hn:n≤len) (hx:a.eval x=.slice p len cap) :
  (execOp a.eval {dst:=dst,op:=.sliceToArrayPointer ty x,type:=typ,pos:=pos,after:=aft,guard:=gd}).run P w=.ok (.value (.pointer p)) w:=by
 have hr:(Instr.arrayAt ty (.slice p len cap)).run P w=.ok (.pointer p) w:=by
  simp [Instr.arrayAt,run_underlying hu,show ¬len<n by omega]
 unfold execOp
 simp only [hx,hr,Sem.run_bind,Sem.run_pure,Result.andThen_ok]
theorem da {ty:TypeId} {x:Operand} (n:Nat) {elem:TypeId} (hu:P.underlying ty=some (.array n elem)) {p:Option Addr} {len cap:Nat} (hn:n≤len) (hx:a.eval x=.slice p len cap)
  (h:wpList P ops Q rest (a.put dst (.pointer p)) w):wpList P ops Q ({dst:=dst,op:=.sliceToArrayPointer ty x,type:=typ,pos:=pos,after:=aft,guard:=none}::rest) a w :=
 aj (.pointer p) rfl (eG n hu hn hx) h
/-- Bytes of a slice, loaded as an array. -/
theorem exec_ldS {ty:TypeId} {x:Operand} {g off:Nat} (cs:List Int) (hx:a.eval x=.pointer (some ⟨g,off,none⟩)) (hc:Seg w g off cs) (d:TypeDesc) (hu:P.underlying ty=some d) (hd:(match d with | .struct _ | .array _ _=>true|_=>false)=true) (n:Nat) (hs:(P.info? ty).map (·.size)=some n) (hn:cs.length=n) :
  (execOp a.eval {dst:=dst,op:=.load ty x,type:=typ,pos:=pos,after:=aft,guard:=gd}).run P w=.ok (.value (.agg (u8s cs).toArray)) w:=by
 have hl:=fM w g off n ty (u8s cs) d (fun j v hj=>by have:=hc.src j v hj;rw [bK] at this;exact this) hu hd hs (by rw [aa];exact hn)
 unfold execOp
 simp only [hx,Instr.loadAt,Instr.sureAddr,Sem.run_bind,Sem.run_pure,Result.andThen_ok,hl]
theorem own_row {e:TypeId} {base g:Nat} {zs:List Int} (hr:Row w g (u8s zs) e) (hb:base≤g) (hl:zs.length≤1000000):OwnB e w base (.slice (some ⟨g,0,none⟩) zs.length zs.length) zs:=by
 refine ⟨by rw [aa,Nat.mul_one],Or.inr ⟨g,zs.length,(u8s zs).toArray,rfl,hb,hr,Nat.le_refl _,by unfold maxLen;omega,by simp [aa],?_⟩⟩
 rw [Nat.mul_one]
 exact List.take_of_length_le (by rw [aa];exact Nat.le_refl _)
theorem own_empty {e:TypeId} {base g n:Nat} (hr:Row w g (List.replicate n (.int .u8 0)) e) (hb:base≤g) (hl:n≤1000000):OwnB e w base (.slice (some ⟨g,0,none⟩) 0 n) [] :=
 ⟨by simp [u8s],Or.inr ⟨g,n,(List.replicate n (Value.int .u8 0)).toArray,rfl,hb,hr,Nat.zero_le _,by unfold maxLen;omega,by simp,by simp [u8s]⟩⟩
theorem wpl_makeE {ty:TypeId} {x y:Operand} (elem:TypeId) (hu:P.underlying ty=some (.slice elem)) (z:Value) (hi:(P.info? elem).map (fun i=>(i.zero,i.size,i.bytes))=some (some z,1,1)) (hz:z.cells=#[z]) (n:Nat) {j:Int} (hx:a.eval x=.int .i64 0) (hy:a.eval y=.int .i64 j) (hyj:j=(n:Int)) (hn:n≤65536) (hm:Mem w0 S w rows)
  (h:∀w' g,Mem w0 S w' ((g,List.replicate n z,elem)::rows)→wpList P ops Q rest (a.put dst (.slice (some ⟨g,0,none⟩) 0 n)) w') :
  wpList P ops Q ({dst:=dst,op:=.makeSlice ty x y,type:=typ,pos:=pos,after:=aft,guard:=none}::rest) a w:=by
 subst hyj
 refine wpList_plain rfl fun K hK=>?_
 have hh:=hK _ _ (h _ _ (hm.alloc (List.replicate n z) elem))
 have hr:(Instr.makeSlice ty (.int .i64 0) (.int .i64 (n:Int))).run P w=.ok (.slice (some ⟨w.heap.size,0,none⟩) 0 n) (w.alloc (.cells (List.replicate n z).toArray elem)):=by
  cases hq:P.info? elem with
  | none=>simp [hq] at hi
  | some q =>
   simp only [hq,Option.map_some,Option.some.injEq,Prod.mk.injEq] at hi
   obtain ⟨h0,h1,h2⟩:=hi
   have:=run_makeSlice (P:=P) w ty elem q z hu hq h0 .i64 .i64 0 (n:Int) (by omega) (by omega) (by rw [h1];simp;omega) (by rw [h2];simp;omega) (by omega)
   rw [this,h1,hz]
   have e:madeCells #[z] ((n:Int).toNat * 1)=(List.replicate n z).toArray:=by
    unfold madeCells
    apply Array.ext
    ·simp
    ·intro k h1 h2
     simp [Nat.mod_one]
   rw [e]
   simp
 unfold Oper.wp execOp
 simp only [hx,hy,hr,Sem.run_bind,Sem.run_pure,Result.andThen_ok]
 exact hh
end
theorem set_eight (zs:List Int) (a b c d e f g h:Int):(((((((((u8s (zs++[0,0,0,0,0,0,0,0])).set (zs.length+7) (.int .u8 h)).set (zs.length+6) (.int .u8 g)).set (zs.length+5) (.int .u8 f)).set (zs.length+4) (.int .u8 e)).set (zs.length+3) (.int .u8 d)).set (zs.length+2) (.int .u8 c)).set (zs.length+1) (.int .u8 b)).set (zs.length+0) (.int .u8 a))=u8s (zs++[a,b,c,d,e,f,g,h]):=by
 rw [bW,bW,bW,bW,bW,bW,bW,bW]
 simp [u8s,List.set_append_right]
theorem longer_at8 (zs:List Int) (v:Value) (hzl:zs.length≤60000) (w:World) (hv:SlOld w v zs) :
  Calls Tryz.prog 120 #[v,.int .i64 8] w fun e w'=>∃g,e=.returned (.slice (some ⟨g,0,none⟩) (zs.length+8) (zs.length+8))∧w.heap.size≤g∧Row w' g (u8s (zs++[0,0,0,0,0,0,0,0])) 5∧Below w.heap.size w w':=by
 obtain ⟨p,cap,rfl,hcap⟩:=hv.len
 have hm:=Mem.start w
 have HV:Hid (SlOld w (.slice p zs.length cap) zs):=hv
 have HNE:Hid (splice (List.replicate (zs.length+8) (.int .u8 0)) 0 (u8s (zs.take zs.length))=u8s (zs++[0,0,0,0,0,0,0,0])):=by
  show _=_
  have e:List.replicate (zs.length+8) (Value.int .u8 0)=u8s (List.replicate (zs.length+8) 0):=by simp [u8s]
  rw [List.take_of_length_le (Nat.le_refl _),e,cF zs (zs.length+8),show zs.length+8 - zs.length=8 by omega]
  rfl
 have HMI:Hid (zs.length=Nat.min zs.length (zs.length+8)):=(Nat.min_eq_left (by omega)).symm
 clear hv
 go_enter Tryz.func120,Tryz.ntmps120
 go_wp2_with (first
  | ((with_reducible refine ae (some 10) (.makeSlice 56 (.tmp 9) (.tmp 9)) ?_);go_must (refine ff _ aF _ bF rfl (zs.length+8) rfl (by first|rfl|omega|go_num) rfl (by first|rfl|omega|go_num) (by omega) hm ?_);clear hm;intro w1 g hm)
  | ((with_reducible refine ae (some 13) (.call {callee:=.builtin .copy,args:=#[.tmp 11,.tmp 12],argTypes:=#[56,56]}) ?_);go_must (refine dy 0 zs zs.length (u8s (zs++[0,0,0,0,0,0,0,0])) hm rfl rfl rfl _ aF aQ (SlOld.mem HV.out hm) HMI.out (by simp) HNE.out ?_);clear hm;intro w2 hm))
 go_ret
 have hf:=hm.fresh _ (List.mem_cons_self ..)
 exact ⟨g,rfl,by simpa using hf,hm.get 0 rfl,hm.below⟩
theorem lB (g:Nat) (zs:List Int) (n:Int) (w:World) (hr:Row w g (u8s (zs++[0,0,0,0,0,0,0,0])) 5) :
  Calls Tryz.prog 121 #[.slice (some ⟨g,zs.length,none⟩) 8 8,.int .u64 n] w fun e w'=>e=.returned (.tuple #[])∧Row w' g (u8s (zs++be8 n)) 5∧Upd g w w':=by
 have hm:=Mem.enter hr
 have HLN:Hid (((u8s (zs++[0,0,0,0,0,0,0,0])).length=zs.length+8)):=by show _=_;simp [aa]
 clear hr
 go_enter Tryz.func121,Tryz.ntmps121
 go_wp2_with fail
 refine wp_loop_rounds 9 ?_
 iterate 9 (rw [rounds_succ];go_wp2_with (first
  | (((with_reducible refine ae none (.store 5 (.tmp 16) (.tmp 15)) ?_);refine bj 0 _ _ hm rfl (rfl) rfl aQ (by first|(rw [HLN.out];omega)|(simp only [List.length_set];rw [HLN.out];omega)) rfl rfl ?_;clear hm;intro w9 hm))))
 go_end0
 have hrow:=hm.get 0 rfl
 exact ⟨rfl,by have e:=set_eight zs (n / 256 / 256 / 256 / 256 / 256 / 256 / 256 % 256) (n / 256 / 256 / 256 / 256 / 256 / 256 % 256) (n / 256 / 256 / 256 / 256 / 256 % 256) (n / 256 / 256 / 256 / 256 % 256) (n / 256 / 256 / 256 % 256) (n / 256 / 256 % 256) (n / 256 % 256) (n % 256);rw [show be8 n=[n / 256 / 256 / 256 / 256 / 256 / 256 / 256 % 256,n / 256 / 256 / 256 / 256 / 256 / 256 % 256,n / 256 / 256 / 256 / 256 / 256 % 256,n / 256 / 256 / 256 / 256 % 256,n / 256 / 256 / 256 % 256,n / 256 / 256 % 256,n / 256 % 256,n % 256] from rfl,←e];exact hrow,hm.toUpd⟩
theorem put_at8 (zs:List Int) (v:Value) (n:Int) (hzl:zs.length≤60000) (w:World) (hv:SlOld w v zs) :
  Calls Tryz.prog 91 #[v,.int .u64 n,.int .i64 8] w fun e w'=>∃g,e=.returned (.slice (some ⟨g,0,none⟩) (zs.length+8) (zs.length+8))∧w.heap.size≤g∧Row w' g (u8s (zs++be8 n)) 5∧Below w.heap.size w w':=by
 obtain ⟨p,cap,rfl,hcap⟩:=hv.len
 have hm:=Mem.start w
 have HV:Hid (SlOld w (.slice p zs.length cap) zs):=hv
 clear hv
 go_enter Tryz.func91,Tryz.ntmps91
 go_wp2_with (first
  | (go_at_call 119;refine (gV _).mono ?_;rintro e w1 ⟨rfl,rfl⟩)
  | (go_at_call 120;refine (longer_at8 zs _ hzl _ HV.out).mono ?_;rintro e w2 ⟨g,rfl,hge,hr,hb⟩;have HGE:Hid _:=hge;have HR:Hid (Row w2 g (u8s (zs++[0,0,0,0,0,0,0,0])) 5):=hr;have HBL:Hid _:=hb;clear hge hr hb)
  | ((with_reducible refine ae (some 17) (.slice 56 (.tmp 14) (some (.tmp 16)) none none) ?_);go_must (refine wpl_slo aF aQ zs.length zs.length 8 8 (by omega) (by omega) (by omega) (by omega) (by omega) rfl rfl rfl ?_))
  | (go_at_call 121;refine (lB g zs n _ HR.out).mono ?_;rintro e w3 ⟨rfl,hr2,hu⟩;have HR2:Hid (Row w3 g (u8s (zs++be8 n)) 5):=hr2;have HU2:Hid (Upd g w2 w3):=hu;clear hr2 hu))
 go_ret
 exact ⟨g,rfl,HGE.out,HR2.out,gp HBL.out HU2.out HGE.out HBL.out.size⟩
theorem cR (p n:Int) (hp:0≤p∧p<4294967296) (w:World) :
  Calls Tryz.prog 107 #[.int .u32 p,.int .u64 n] w fun e w'=>e=.returned (.agg (u8s (nonceOf p n)).toArray)∧Below w.heap.size w w':=by
 obtain ⟨hp0,hp1⟩:=hp
 have hm:=Mem.start w
 have HWR:Hid (IntKind.u64.wrap p=p):=gA p hp0 hp1
 have HL4:Hid ((be4 p).length=4):=db p
 have HLN:Hid ((u8s (nonceOf p n)).length=12):=by show _=_;rw [aa,dm]
 go_enter Tryz.func107,Tryz.ntmps107
 go_wp2_with (first
  | ((with_reducible refine ae (some 4) (.alloc 139) ?_);refine ag _ zero_nce hm ?_;clear hm;intro w1 g4 hm))
 refine (put_four [] _ p (by simp) _ ⟨none,0,rfl,Nat.le_refl _,fun h=>absurd h (by simp)⟩).mono ?_
 rintro e w2 ⟨g7,rfl,hge,hr,hb⟩
 replace hm:=hm.callNew hb hr hge
 clear hb hr hge
 rw [show ([]:List Int).length+4=4 from rfl]
 replace hm:Mem w [] w2 [(g7,u8s (be4 p),5),(g4,u8s (List.replicate 12 0),139)]:=hm
 go_wp2_with fail
 refine (put_at8 (be4 p) _ n (by rw [db];omega) _ (a8 (hm.get 0 rfl) (db p) (Nat.le_refl _))).mono ?_
 rintro e w3 ⟨g9,he,hge,hr,hb⟩
 rw [db] at he
 subst he
 replace hm:=hm.callNew hb hr hge
 clear hb hr hge
 replace hm:Mem w [] w3 [(g9,u8s (nonceOf p n),5),(g7,u8s (be4 p),5),(g4,u8s (List.replicate 12 0),139)]:=hm
 go_wp2_with (first
  | ((with_reducible refine ae (some 10) (.sliceToArrayPointer 139 (.tmp 9)) ?_);go_must (refine da 12 dK (by omega) rfl ?_))
  | ((with_reducible refine ae (some 11) (.load 139 (.tmp 10)) ?_);refine av 0 hm rfl rfl _ dK rfl 12 dI (HLN.out) ?_)
  | ((with_reducible refine ae none (.store 139 (.tmp 4) (.tmp 11)) ?_);refine ah 2 (u8s (nonceOf p n)) hm rfl rfl rfl 12 dI (by simp [aa]) (HLN.out) (ai _) ?_;clear hm;intro w4 hm))
 exact aH 2 hm rfl Tryz.results107 rfl _ dK rfl 12 dI HLN.out rfl ⟨rfl,hm.below⟩
open Go Go.ChangeShapes Go.WideShapes Go.ChangeAt Go.RowKit
theorem cells_int:Tryz.prog.cellsOf 3=1:=by kernel_rfl
theorem cells_i4:Tryz.prog.cellsOf 245=4:=by kernel_rfl
theorem un_int:Tryz.prog.underlying 3=some (.int .i64):=Tryz.underlying3
theorem places_type:(Tryz.prog.globals[2]?).map (·.type)=some 246:=by kernel_rfl
/-- An array of arrays of integers that reads as the table holds the table's numbers, cell for cell. -/
theorem lz {H:Type} {enc:TypeId×Value→H} {P:Program} {w:World} {base:Nat} {sp:Nat→Bool} {held:Bool} {fuel:Nat} {t e f:TypeId} {n m:Nat} {k:IntKind} {cs:List Value} {zs:List (List Int)} {p:List MemPlace}
  (ht:P.underlying t=some (.array n e)) (he:P.underlying e=some (.array m f)) (hf:P.underlying f=some (.int k)) (hcf:P.cellsOf f=1) (hce:P.cellsOf e=m) (hzn:zs.length=n)
  (h:DataW.trod enc P w base sp held fuel t cs=some (.agg (zs.map fun z=>Lib.tabData k z),p)):∀i,i<n→(cs.drop (i * m)).take m=(zs.getD i []).map fun z=>Value.int k z:=by
 cases fuel with
 | zero=>simp [DataW.trod] at h
 | succ fuel =>
  simp only [DataW.trod,ht] at h
  split at h
  ·rename_i hl
   obtain ⟨xs,hm,hx⟩:=Option.map_eq_some_iff.1 h
   have hxs:xs.map (·.1)=zs.map fun z=>(Lib.tabData k z:DataW H):=by
    have:=congrArg Prod.fst hx
    simpa using this
   intro i hi
   obtain ⟨b,hb,hfb⟩:=Lib.mapM_at hm i i (by simp [hi])
   have h2:(xs.map (·.1))[i]?=some b.1:=by simp [hb]
   rw [hxs] at h2
   have hz:zs[i]?=some (zs.getD i []):=by simp [show i<zs.length by omega]
   simp only [List.getElem?_map,hz,Option.map_some,Option.some.injEq] at h2
   obtain ⟨b1,b2⟩:=b
   simp only at h2
   subst h2
   rw [hce] at hfb
   exact Lib.cells_of_tab he hf hcf hce hfb
  ·cases h
def placesI:List (List Int):=[[0,4,8,12],[1,5,9,13],[2,6,10,14],[3,7,11,15],[0,5,10,15],[1,6,11,12],[2,7,8,13],[3,4,9,14]]
theorem places_flat:∀j:Fin 32,(placesI.getD (j.val / 4) []).getD (j.val % 4) 0=qFlat.getD j.val 0:=by decide +kernel
theorem places_len:∀i:Fin 8,(placesI.getD i.val []).length=4:=by decide +kernel
theorem qtab_of {W:World} (nm:String) {rest:List (String×DataW Unit)} (hn:Tryz.prog.globalNamed nm=some 2) (h:laidMet Tryz.prog ((nm,.agg (placesI.map fun z=>Lib.tabData .i64 z))::rest) W):QTab W:=by
 obtain ⟨ps,⟨g',t',cs,fuel,p,q,hg',ht',hvar,hd,_,_⟩,_⟩:=h
 obtain rfl:=Option.some.inj (hn.symm.trans hg')
 obtain rfl:=Option.some.inj (places_type.symm.trans ht')
 have hall:=lz un_i84 un_i4 un_int cells_int cells_i4 rfl hd
 intro j hj
 have hc:=World.var?_cell hn hvar j
 have h4:j / 4<8:=by omega
 have hr:=hall (j / 4) h4
 have h5:cs.toList[j]?=some (.int .i64 (qFlat.getD j 0)):=by
  have h6:((cs.toList.drop (j / 4 * 4)).take 4)[j % 4]?=cs.toList[j]?:=by
   rw [List.getElem?_take,if_pos (by omega),List.getElem?_drop,show j / 4 * 4+j % 4=j by omega]
  rw [←h6,hr,←places_flat ⟨j,hj⟩]
  have hl:=places_len ⟨j / 4,h4⟩
  exact i64s_get _ _ (by rw [hl];omega)
 rw [hc,←Array.getElem?_toList]
 exact h5
/-- An array of bytes that came in. -/
theorem iw {H:Type} {enc:TypeId×Value→H} {W:World} {base:Nat} {v:Value} {d:DataW H} {ps:List MemPlace} (t:TypeId) (n:Nat) (un:Tryz.prog.underlying t=some (.array n 5)) (hct:Tryz.prog.cellsOf t=n) (hok:Value.okWide Tryz.prog W .any base t v) (h:DataW.Trod enc Tryz.prog W 0 (fun _=>true) true t v d ps) :
  ∃zs:List Int,v=.agg (u8s zs).toArray∧zs.length=n∧Bytes zs:=by
 simp only [Value.okWide,un] at hok
 obtain ⟨cs,rfl,hsz,_⟩:=hok
 obtain ⟨fuel,hf⟩:=h
 obtain ⟨xs,m,rfl,_,hl,hxn,hget⟩:=DataW.trod_array un hf
 have hcell:∀i,i<n→∃z,cs[i]?=some (.int .u8 z)∧0≤z∧z<256:=by
  intro i hi
  have hx:xs[i]?=some (xs[i]'(by omega)):=by simp [show i<xs.length by omega]
  have h1:=hget i hi
  rw [hx,kn] at h1
  obtain ⟨z,hc,_,hwf⟩:=DataW.trod_int b7 h1
  have h2:=congrArg (·[0]?) hc
  have h3:cs[i]?=some (.int .u8 z):=by simpa [List.getElem?_take,List.getElem?_drop,Value.cells] using h2
  refine ⟨z,h3,?_⟩
  have:=bounds_u8 hwf
  omega
 refine ⟨cs.toList.map (fun v=>match v with | .int _ z=>z|_=>0),?_,by simp [hsz,hct],?_⟩
 ·congr 1
  apply Array.ext_getElem?
  intro i
  by_cases hi:i<n
  ·obtain ⟨z,hz,_⟩:=hcell i hi
   simp [u8s,hz]
  ·rw [Array.getElem?_eq_none (by rw [hsz,hct];omega),Array.getElem?_eq_none (by simp [u8s,hsz,hct];omega)]
 ·intro y hy
  obtain ⟨v,hv,rfl⟩:=List.mem_map.1 hy
  obtain ⟨i,hi,he⟩:=List.getElem_of_mem hv
  obtain ⟨z,hz,hb⟩:=hcell i (by simpa [hsz,hct] using hi)
  have hvz:v=.int .u8 z:=by
   have:cs.toList[i]?=some v:=by rw [←he];simp [show i<cs.size by simpa using hi]
   rw [Array.getElem?_toList,hz] at this
   exact (Option.some.inj this).symm
  subst hvz
  exact hb
theorem ju {P:Program} {W:World} {x:String×DataW Unit} {rest:List (String×DataW Unit)} (h:laidMet P (x::rest) W):laidMet P rest W:=by
 obtain ⟨n,d⟩:=x
 obtain ⟨ps,⟨g,t,cs,fuel,p,q,_,_,_,_,hr,rfl⟩,hnd,hc⟩:=h
 exact ⟨q,hr,(List.nodup_append.1 hnd).2.1,fun b off hm=>hc b off (List.mem_append_right _ hm)⟩
open Go Go.RowKit
theorem jU:Tryz.prog.underlying 29=some (.slice 9):=Tryz.underlying29
theorem eM:Tryz.prog.underlying 161=some (.array 3 9):=Tryz.underlying161
theorem made_str:(Tryz.prog.info? 9).map (fun i=>(i.zero,i.size,i.bytes))=some (some (.string ByteArray.empty),1,16):=by kernel_rfl
theorem info_str:(Tryz.prog.info? 9).map (fun i=>(i.zero,i.size))=some (some (.string ByteArray.empty),1):=by kernel_rfl
theorem dE:(Tryz.prog.info? 9).map (·.size)=some 1:=by kernel_rfl
theorem fJ:∀w,(isAgg 9).run Tryz.prog w=.ok false w:=by intro w;simp [go_sem]
theorem info_pl:(Tryz.prog.info? 161).map (fun i=>(i.zero,i.size))=some (some (.agg [.string ByteArray.empty,.string ByteArray.empty,.string ByteArray.empty].toArray),3):=by kernel_rfl
theorem ec:∀w,(zeroValue 161).run Tryz.prog w=.ok (.agg [.string ByteArray.empty,.string ByteArray.empty,.string ByteArray.empty].toArray) w:=(zero_of_info info_pl).1
theorem de:(Tryz.prog.info? 161).map (·.size)=some 3:=(zero_of_info info_pl).2
open Go Go.RowKit
def noStr:ByteArray:=ByteArray.empty
def bs (s:ByteArray):List UInt8:=s.data.toList
def mkS (l:List UInt8):ByteArray:=⟨l.toArray⟩
theorem bs_mkS (l:List UInt8):bs (mkS l)=l:=by simp [bs,mkS]
theorem mkS_bs (s:ByteArray):mkS (bs s)=s:=by cases s;simp [bs,mkS]
theorem jm {a b:ByteArray} (h:bs a=bs b):a=b:=by rw [←mkS_bs a,←mkS_bs b,h]
theorem dg (s:ByteArray):(bs s).length=s.size:=by unfold bs;exact Array.length_toList
theorem mkS_size (l:List UInt8):(mkS l).size=l.length:=by rw [←dg,bs_mkS]
theorem map_bs_mkS (l:List (List UInt8)):(l.map mkS).map bs=l:=by
 induction l with
 | nil=>rfl
 | cons x l ih=>rw [List.map_cons,List.map_cons,ih,bs_mkS]
theorem map_mkS_bs (l:List ByteArray):(l.map bs).map mkS=l:=by
 induction l with
 | nil=>rfl
 | cons x l ih=>rw [List.map_cons,List.map_cons,ih,mkS_bs]
def okc (x:Int):Bool:=(decide (97≤x)&&decide (x≤122))||(decide (48≤x)&&decide (x≤57))
def okU (c:UInt8):Bool:=okc (c.toNat:Int)
def seg (l:List UInt8):Bool:=decide (1≤l.length)&&(decide (l.length≤10)&&l.all okU)
theorem seg_parts {l:List UInt8} (h:seg l=true):1≤l.length∧l.length≤10∧∀c∈l,okU c=true:=by
 simp only [seg,Bool.and_eq_true,decide_eq_true_eq,List.all_eq_true] at h
 exact ⟨h.1,h.2.1,h.2.2⟩
def hang (x:UInt8):List (List UInt8)→List (List UInt8)
 | []=>[[x]]
 | h::r=>(x::h)::r
def cut (c:UInt8):List UInt8→List (List UInt8)
 | []=>[[]]
 | x::t=>if x=c then []::cut c t else hang x (cut c t)
theorem hang_length (x:UInt8) {l:List (List UInt8)} (h:l≠[]):(hang x l).length=l.length:=by
 cases l with
 | nil=>exact absurd rfl h
 | cons a t=>rfl
theorem cut_ne (c:UInt8) (l:List UInt8):cut c l≠[]:=by
 cases l with
 | nil=>simp [cut]
 | cons x t =>
  rw [cut]
  split
  ·simp
  ·cases cut c t<;>simp [hang]
theorem gZ (c:UInt8) {a:List UInt8} (h:c ∉ a) (t:List UInt8):cut c (a++c::t)=a::cut c t:=by
 induction a with
 | nil=>simp [cut]
 | cons x a ih =>
  have hx:¬x=c:=fun e=>h (by simp [e])
  rw [List.cons_append,cut,if_neg hx,ih (fun hc=>h (by simp [hc]))]
  rfl
theorem j8 (c:UInt8) {a:List UInt8} (h:c ∉ a):cut c a=[a]:=by
 induction a with
 | nil=>rfl
 | cons x a ih =>
  have hx:¬x=c:=fun e=>h (by simp [e])
  rw [cut,if_neg hx,ih (fun hc=>h (by simp [hc]))]
  rfl
theorem ly (c:UInt8) (l:List UInt8):(cut c l).length≤l.length+1:=by
 induction l with
 | nil=>simp [cut]
 | cons x t ih =>
  rw [cut]
  split
  ·simp;omega
  ·rw [hang_length x (cut_ne c t)];simp;omega
/-- The first instance of a sign. -/
theorem k9 (c:UInt8) (l:List UInt8) (h:c∈l):∃a t,l=a++c::t∧c ∉ a:=by
 induction l with
 | nil=>cases h
 | cons x l ih =>
  by_cases hx:x=c
  ·exact ⟨[],l,by rw [hx];rfl,by simp⟩
  ·obtain ⟨a,t,e,hn⟩:=ih ((List.mem_cons.1 h).resolve_left (fun e=>hx e.symm))
   exact ⟨x::a,t,by rw [e];rfl,by simp [hn];exact fun e=>hx e.symm⟩
def jn (c:UInt8) (ks:List (List UInt8)):List UInt8:=Lib.join ks [c]
theorem jn_nil (c:UInt8):jn c []=[]:=rfl
theorem jn_one (c:UInt8) (k:List UInt8):jn c [k]=k:=Lib.join_one k [c]
theorem jn_cons (c:UInt8) (k q:List UInt8) (r:List (List UInt8)):jn c (k::q::r)=k++c::jn c (q::r):=by
 simp [jn,Lib.join,List.intercalate]
theorem jn_len (c:UInt8):∀ {ks:List (List UInt8)},(∀k∈ks,k.length≤10)→(jn c ks).length≤11 * ks.length
 | [],_=>by simp [jn_nil]
 | [k],h=>by rw [jn_one];have:=h k (by simp);simp;omega
 | k::q::r,h=>by
  have:=h k (by simp)
  have h2:=jn_len c (ks:=q::r) (fun x hx=>h x (List.mem_cons_of_mem _ hx))
  rw [jn_cons]
  simp only [List.length_append,List.length_cons] at h2 ⊢
  omega
def okSegs (ks:List (List UInt8)):Bool:=decide (ks.length≤3)&&ks.all seg
theorem okSegs_parts {ks:List (List UInt8)} (h:okSegs ks=true):ks.length≤3∧∀k∈ks,seg k=true:=by
 simp only [okSegs,Bool.and_eq_true,decide_eq_true_eq,List.all_eq_true] at h
 exact h
theorem okSegs_mk {ks:List (List UInt8)} (h1:ks.length≤3) (h2:∀k∈ks,seg k=true):okSegs ks=true:=by
 simp only [okSegs,Bool.and_eq_true,decide_eq_true_eq,List.all_eq_true]
 exact ⟨h1,h2⟩
def isP (l:List UInt8):Bool:=l.isEmpty||okSegs (cut 47 l)
def segsOf (l:List UInt8):List (List UInt8):=if l.isEmpty || !isP l then [] else cut 47 l
theorem segsOf_ok (l:List UInt8):okSegs (segsOf l)=true:=by
 unfold segsOf
 split
 ·rfl
 ·next h =>
  simp only [Bool.or_eq_true,Bool.not_eq_true',not_or,Bool.not_eq_true,Bool.not_eq_false] at h
  have h2:=h.2
  simp only [isP,h.1,Bool.false_or] at h2
  exact h2
theorem segsOf_no {l:List UInt8} (h:isP l=false):segsOf l=[]:=by simp [segsOf,h]
theorem segsOf_path {l:List UInt8} (h:isP l=true) (h0:l≠[]):segsOf l=cut 47 l:=by
 have:l.isEmpty=false:=by
  cases l with
  | nil=>exact absurd rfl h0
  | cons _ _=>rfl
 simp [segsOf,h,this]
def codeOf:List (List UInt8)→List UInt8
 | []=>[]
 | k::r=>k++0::codeOf r
def decOk (l:List UInt8):Bool:=l.isEmpty||(decide (l.getLast?=some 0)&&okSegs (cut 0 l.dropLast))
def decOf (l:List UInt8):List UInt8:=if l.isEmpty || !decOk l then [] else jn 47 (cut 0 l.dropLast)
open Go Go.RowKit
def SegV (w:World) (b off:Nat) (cs:List Value):Prop:=∀j u,cs[j]?=some u→w.cell? ⟨b,off+j,none⟩=some u
def SlV (K:Nat) (w:World) (v:Value) (n:Nat) (cs:List Value):Prop :=
 ∃p cap,v=.slice p n cap∧n≤cap∧cs.length=n * K∧(0<n→∃b off,p=some ⟨b,off,none⟩∧SegV w b off cs)
theorem SegV.below {w w':World} {b off:Nat} {cs:List Value} (h:SegV w b off cs) (hb:Below w.heap.size w w'):SegV w' b off cs:=by
 intro j u hu
 have h1:=h j u hu
 rw [hb.cell (p:=⟨b,off+j,none⟩) (block_lt_of_cell h1)]
 exact h1
theorem SlV.below {K:Nat} {w w':World} {v:Value} {n:Nat} {cs:List Value} (h:SlV K w v n cs) (hb:Below w.heap.size w w'):SlV K w' v n cs:=by
 obtain ⟨p,cap,hv,hc,hl,hs⟩:=h
 refine ⟨p,cap,hv,hc,hl,fun h0=>?_⟩
 obtain ⟨b,off,hp,hseg⟩:=hs h0
 exact ⟨b,off,hp,hseg.below hb⟩
theorem SlV.nil (K:Nat) (w:World):SlV K w (.slice none 0 0) 0 []:=⟨none,0,rfl,Nat.le_refl _,by simp,fun h=>absurd h (by omega)⟩
theorem SlV.len {K:Nat} {w:World} {v:Value} {n:Nat} {cs:List Value} (h:SlV K w v n cs):∃p cap,v=.slice p n cap∧n≤cap:=by
 obtain ⟨p,cap,hv,hc,_⟩:=h
 exact ⟨p,cap,hv,hc⟩
theorem SlV.at {K:Nat} {w:World} {p:Option Addr} {n cap:Nat} {cs:List Value} (h:SlV K w (.slice p n cap) n cs) (h0:0<n):∃b off,p=some ⟨b,off,none⟩∧SegV w b off cs:=by
 obtain ⟨q,c,hv,_,_,hs⟩:=h
 simp only [Value.slice.injEq] at hv
 obtain ⟨rfl,_,rfl⟩:=hv
 exact hs h0
def less (a b:ByteArray):Bool:=Op.bytesLess a.toList b.toList
def prs (l:List (ByteArray×ByteArray)):List Value:=l.flatMap fun p=>[.string p.1,.string p.2]
def strs (l:List ByteArray):List Value:=l.map .string
theorem prs_length (l:List (ByteArray×ByteArray)):(prs l).length=l.length * 2:=by
 unfold prs
 induction l with
 | nil=>rfl
 | cons p l ih=>rw [List.flatMap_cons,List.length_append,ih];simp;omega
theorem prs_append (l m:List (ByteArray×ByteArray)):prs (l++m)=prs l++prs m:=by simp [prs]
theorem prs_at (l:List (ByteArray×ByteArray)) (i:Nat) (h:i<l.length):(prs l)[i * 2]?=some (.string (l.getD i (noStr,noStr)).1)∧(prs l)[i * 2+1]?=some (.string (l.getD i (noStr,noStr)).2):=by
 have e:l=l.take i++(l.getD i (noStr,noStr)::l.drop (i+1)):=by
  have h2:l.drop i=l.getD i (noStr,noStr)::l.drop (i+1):=by rw [List.drop_eq_getElem_cons h];simp [h]
  rw [←h2,List.take_append_drop]
 have hl:(prs (l.take i)).length=i * 2:=by rw [prs_length,List.length_take,Nat.min_eq_left (by omega)]
 generalize l.getD i (noStr,noStr)=p at e ⊢
 rw [e,prs_append,List.getElem?_append_right (by omega),List.getElem?_append_right (by omega),hl,Nat.sub_self,show i * 2+1 - i * 2=1 by omega]
 exact ⟨rfl,rfl⟩
theorem strs_at (l:List ByteArray) (i:Nat) (h:i<l.length):(strs l)[i]?=some (.string (l.getD i noStr)):=by simp [strs,h]
def SlP (w:World) (v:Value) (l:List (ByteArray×ByteArray)):Prop:=SlV 2 w v l.length (prs l)
def SlS (w:World) (v:Value) (l:List ByteArray):Prop:=SlV 1 w v l.length (strs l)
def SlU (w:World) (v:Value) (l:List Int):Prop:=SlV 1 w v l.length (u32s l)
theorem SlP.nil (w:World):SlP w (.slice none 0 0) []:=SlV.nil 2 w
theorem SlS.nil (w:World):SlS w (.slice none 0 0) []:=SlV.nil 1 w
theorem SlU.nil (w:World):SlU w (.slice none 0 0) []:=SlV.nil 1 w
theorem SlP.cells {w:World} {b off n cap:Nat} {l:List (ByteArray×ByteArray)} (hn:l.length=n) (h:SlP w (.slice (some ⟨b,off,none⟩) n cap) l) (i:Nat) (hi:i<n) :
  w.cell? ⟨b,off+i * 2,none⟩=some (.string (l.getD i (noStr,noStr)).1)∧w.cell? ⟨b,off+i * 2+1,none⟩=some (.string (l.getD i (noStr,noStr)).2):=by
 subst hn
 obtain ⟨b',off',hp,hs⟩:=SlV.at h (by omega)
 simp only [Option.some.injEq,Addr.mk.injEq] at hp
 obtain ⟨rfl,rfl,_⟩:=hp
 obtain ⟨h1,h2⟩:=prs_at l i hi
 exact ⟨hs _ _ h1,by rw [Nat.add_assoc];exact hs _ _ h2⟩
theorem SlS.cells {w:World} {b off n cap:Nat} {l:List ByteArray} (hn:l.length=n) (h:SlS w (.slice (some ⟨b,off,none⟩) n cap) l) (i:Nat) (hi:i<n) :
  w.cell? ⟨b,off+i,none⟩=some (.string (l.getD i noStr)):=by
 subst hn
 obtain ⟨b',off',hp,hs⟩:=SlV.at h (by omega)
 simp only [Option.some.injEq,Addr.mk.injEq] at hp
 obtain ⟨rfl,rfl,_⟩:=hp
 exact hs _ _ (strs_at l i hi)
theorem SlU.cells {w:World} {b off n cap:Nat} {l:List Int} (hn:l.length=n) (h:SlU w (.slice (some ⟨b,off,none⟩) n cap) l) (i:Nat) (hi:i<n) :
  w.cell? ⟨b,off+i,none⟩=some (.int .u32 (l.getD i 0)):=by
 subst hn
 obtain ⟨b',off',hp,hs⟩:=SlV.at h (by omega)
 simp only [Option.some.injEq,Addr.mk.injEq] at hp
 obtain ⟨rfl,rfl,_⟩:=hp
 exact hs _ _ (aU l i hi)
theorem SlP.at {w:World} {p:Option Addr} {n cap:Nat} {l:List (ByteArray×ByteArray)} (h:SlP w (.slice p n cap) l) (hn:l.length=n) (h0:0<n):∃b off,p=some ⟨b,off,none⟩:=by
 subst hn
 obtain ⟨b,off,hp,_⟩:=SlV.at h h0
 exact ⟨b,off,hp⟩
theorem SlS.at {w:World} {p:Option Addr} {n cap:Nat} {l:List ByteArray} (h:SlS w (.slice p n cap) l) (hn:l.length=n) (h0:0<n):∃b off,p=some ⟨b,off,none⟩:=by
 subst hn
 obtain ⟨b,off,hp,_⟩:=SlV.at h h0
 exact ⟨b,off,hp⟩
theorem SlU.at {w:World} {p:Option Addr} {n cap:Nat} {l:List Int} (h:SlU w (.slice p n cap) l) (hn:l.length=n) (h0:0<n):∃b off,p=some ⟨b,off,none⟩:=by
 subst hn
 obtain ⟨b,off,hp,_⟩:=SlV.at h h0
 exact ⟨b,off,hp⟩
theorem cA {B:Nat} {w0 w w':World} (h:Below B w0 w) (hB:B≤w.heap.size) (hm:Below w.heap.size w w'):Below B w0 w':=h.trans (hm.mono hB)
theorem own_sl {w:World} {base:Nat} {e:TypeId} {K:Nat} {v:Value} {n:Nat} {cs:List Value} (h:w.ownsRow base e K v n cs):SlV K w v n cs:=by
 have h0:=h
 obtain ⟨hl,h2⟩:=h
 rcases h2 with ⟨rfl,hn⟩|⟨g,cap,cur,rfl,hb,hh,hn,_,_,_⟩
 ·exact ⟨none,0,by rw [hn],by omega,hl,fun h=>absurd h (by omega)⟩
 ·refine ⟨_,cap,rfl,hn,hl,fun _=>⟨g,0,rfl,fun j u hu=>?_⟩⟩
  have:=World.ownsRow.cells h0 rfl j u hu
  rw [bK] at this
  exact this
theorem own_below {w w':World} {base:Nat} {e:TypeId} {K:Nat} {v:Value} {n:Nat} {cs:List Value} (h:w.ownsRow base e K v n cs) (hb:Below w.heap.size w w'):w'.ownsRow base e K v n cs :=
 World.ownsRow.kept h (bE hb) (by cases h':v.ownBlock<;>simp)
def SlR (B:Nat) (w:World) (v:Value) (cs:List Int):Prop :=
 ∃p cap,v=.slice p cs.length cap∧cs.length≤cap∧(0<cs.length→∃b off,p=some ⟨b,off,none⟩∧Seg w b off cs∧(b<B∨∃l,Row w b l 5))
theorem SlR.old {B:Nat} {w:World} {v:Value} {cs:List Int} (h:SlR B w v cs):SlOld w v cs:=by
 obtain ⟨p,cap,hv,hc,hs⟩:=h
 exact ⟨p,cap,hv,hc,fun h0=>by obtain ⟨b,off,hp,hseg,_⟩:=hs h0;exact ⟨b,off,hp,hseg⟩⟩
theorem SlR.of_old {w:World} {v:Value} {cs:List Int} (h:SlOld w v cs):SlR w.heap.size w v cs:=by
 obtain ⟨p,cap,hv,hc,hs⟩:=h
 exact ⟨p,cap,hv,hc,fun h0=>by obtain ⟨b,off,hp,hseg⟩:=hs h0;exact ⟨b,off,hp,hseg,Or.inl (hseg.lt h0)⟩⟩
theorem SlR.of_row {B:Nat} {w:World} {g n:Nat} {cs:List Int} (hr:Row w g (u8s cs) 5) (hn:cs.length=n):SlR B w (.slice (some ⟨g,0,none⟩) n n) cs :=
 ⟨_,n,by rw [hn],by omega,fun _=>⟨g,0,rfl,Seg.row hr,Or.inr ⟨_,hr⟩⟩⟩
theorem SlR.below {B:Nat} {w w':World} {v:Value} {cs:List Int} (h:SlR B w v cs) (hb:Below w.heap.size w w'):SlR B w' v cs:=by
 obtain ⟨p,cap,hv,hc,hs⟩:=h
 refine ⟨p,cap,hv,hc,fun h0=>?_⟩
 obtain ⟨b,off,hp,hseg,hr⟩:=hs h0
 refine ⟨b,off,hp,hseg.below hb,?_⟩
 rcases hr with h1|⟨l,h1⟩
 ·exact Or.inl h1
 ·exact Or.inr ⟨l,h1.below' hb⟩
theorem SlR.grown {B:Nat} {w w':World} {v:Value} {cs:List Int} {e:TypeId} {K:Nat} {o:Value} {n:Nat} {xs:List Value} (h:SlR B w v cs) (ho:w.ownsRow B e K o n xs) (he:5≠e) (hg:w.grownBy w' o.ownBlock):SlR B w' v cs:=by
 obtain ⟨p,cap,hv,hc,hs⟩:=h
 refine ⟨p,cap,hv,hc,fun h0=>?_⟩
 obtain ⟨b,off,hp,hseg,hr⟩:=hs h0
 have hne:some b≠o.ownBlock:=by
  rcases hr with h1|⟨l,h1⟩
  ·intro h2
   have:=(World.ownsRow.lt ho b h2.symm).1
   omega
  ·obtain ⟨_,h2⟩:=ho
   rcases h2 with ⟨rfl,_⟩|⟨g',cap',cur,rfl,_,hh,_⟩
   ·simp [Value.ownBlock]
   ·intro h3
    have hg':g'=b:=by simpa [Value.ownBlock] using h3.symm
    subst hg'
    rw [h1] at hh
    simp only [Option.some.injEq,Obj.cells.injEq] at hh
    exact he hh.2.1
 have hb:=hg.block b (hseg.lt h0) hne
 refine ⟨b,off,hp,fun j hj=>?_,?_⟩
 ·rw [World.cell?_of_block (w:=w) hb];exact hseg j hj
 ·rcases hr with h1|⟨l,h1⟩
  ·exact Or.inl h1
  ·exact Or.inr ⟨l,by unfold Row;rw [hb];exact h1⟩
section
variable {P:Program} {ops:Array Oper} {rest:List Oper} {a:Act} {w w0:World} {Q:Exit→Act→World→Prop} {dst:Option Tmp} {typ:TypeId} {pos:String} {aft:Array Edge} {gd:Option (Nat×Bool)} {S:List Nat} {rows:List (Nat×List Value×TypeId)}
end
theorem fold_set:∀(l:List Value) (k:Nat) (cs:Array Value) (i:Nat),((l.zipIdx k).foldl (fun cs (p:Value×Nat)=>cs.setIfInBounds p.2 p.1) cs)[i]?=if k≤i∧i<k+l.length∧i<cs.size then l[i - k]? else cs[i]?
 | [],k,cs,i=>by
  rw [if_neg (by simp;omega)]
  rfl
 | x::r,k,cs,i=>by
  rw [List.zipIdx_cons,List.foldl_cons,fold_set r (k+1)]
  simp only [Array.size_setIfInBounds,List.length_cons]
  by_cases h1:k+1≤i∧i<k+1+r.length∧i<cs.size
  ·rw [if_pos h1,if_pos (by omega),show i - k=(i - (k+1))+1 by omega,List.getElem?_cons_succ]
  ·rw [if_neg h1,Array.getElem?_setIfInBounds]
   by_cases h2:k=i
   ·subst h2
    by_cases h3:k<cs.size
    ·simp [h3]
    ·simp [h3]
   ·rw [if_neg h2,if_neg (by omega)]
section
variable {ops:Array Oper} {rest:List Oper} {a:Act} {w w0:World} {Q:Exit→Act→World→Prop} {dst:Option Tmp} {typ:TypeId} {pos:String} {aft:Array Edge} {gd:Option (Nat×Bool)} {S:List Nat} {rows:List (Nat×List Value×TypeId)}
theorem fd {ty:TypeId} {x:Operand} {b j:Nat} (v:Value) (hc:w.cell? ⟨b,j,none⟩=some v) (hx:a.eval x=.pointer (some ⟨b,j,none⟩)) (ha:∀w,(isAgg ty).run Tryz.prog w=.ok false w) :
  (execOp a.eval {dst:=dst,op:=.load ty x,type:=typ,pos:=pos,after:=aft,guard:=gd}).run Tryz.prog w=.ok (.value v) w:=by
 have hld:(loadVar ty ⟨b,j,none⟩).run Tryz.prog w=.ok v w:=by simp [loadVar,ha,go_sem,hc]
 unfold execOp
 simp only [hx,Instr.loadAt,Instr.sureAddr,Sem.run_bind,Sem.run_pure,Result.andThen_ok,hld]
end
open Go Go.RowKit
theorem index_no {c:UInt8}:∀ {l:List UInt8},c ∉ l→Lib.index l [c] = -1
 | [],_=>rfl
 | x::l,h=>by
  rw [Lib.index_one,Lib.indexByte]
  have hx:(x==c)=false:=beq_eq_false_iff_ne.2 (fun e=>h (by simp [e]))
  have ih:=index_no (c:=c) (l:=l) (fun hc=>h (List.mem_cons_of_mem _ hc))
  rw [Lib.index_one] at ih
  simp [hx,ih]
theorem lc {c:UInt8} (t:List UInt8):∀ {a:List UInt8},c ∉ a→Lib.index (a++c::t) [c]=(a.length:Int)
 | [],_=>by rw [Lib.index_one];simp [Lib.indexByte]
 | x::a,h=>by
  have hx:(x==c)=false:=beq_eq_false_iff_ne.2 (fun e=>h (by simp [e]))
  have ih:=lc (c:=c) t (a:=a) (fun hc=>h (List.mem_cons_of_mem _ hc))
  rw [Lib.index_one] at ih ⊢
  rw [List.cons_append,Lib.indexByte,hx,ih]
  have:¬((a.length:Int) == -1)=true:=by rw [beq_iff_eq];omega
  rw [if_neg (by simp),if_neg this]
  simp
theorem lg (c:UInt8):∀(k:Nat) (l:List UInt8),(cut c l).length≤k+1→Lib.splitK [c] 0 k l=cut c l
 | 0,l,h=>by
  by_cases hc:c∈l
  ·obtain ⟨a,t,rfl,hn⟩:=k9 c l hc
   rw [gZ c hn] at h
   have:=List.length_pos_iff.2 (cut_ne c t)
   simp at h
   exact absurd h (cut_ne c t)
  ·rw [j8 c hc];rfl
 | k+1,l,h=>by
  by_cases hc:c∈l
  ·obtain ⟨a,t,rfl,hn⟩:=k9 c l hc
   rw [gZ c hn] at h ⊢
   rw [Lib.splitK,lc t hn,if_neg (show ¬(((a.length:Nat):Int) == -1)=true by rw [beq_iff_eq];omega)]
   have e:(a++c::t).drop (a.length+1)=t:=by
    rw [show a++c::t=(a++[c])++t by simp,show a.length+1=(a++[c]).length by simp,List.drop_left]
   simp only [Int.toNat_natCast,Nat.add_zero,List.length_cons,List.length_nil,Nat.zero_add,List.take_left,e]
   rw [lg c k t (by simpa using h)]
  ·rw [j8 c hc,Lib.splitK,index_no hc,if_pos (by rfl)]
theorem jH (c:UInt8):∀(k:Nat) (l:List UInt8),k+1<(cut c l).length→(Lib.splitK [c] 0 k l).length=k+1
 | 0,l,_=>rfl
 | k+1,l,h=>by
  by_cases hc:c∈l
  ·obtain ⟨a,t,rfl,hn⟩:=k9 c l hc
   rw [gZ c hn] at h
   rw [Lib.splitK,lc t hn,if_neg (show ¬(((a.length:Nat):Int) == -1)=true by rw [beq_iff_eq];omega)]
   have e:(a++c::t).drop (a.length+1)=t:=by
    rw [show a++c::t=(a++[c])++t by simp,show a.length+1=(a++[c]).length by simp,List.drop_left]
   simp only [Int.toNat_natCast,Nat.add_zero,List.length_cons,List.length_nil,Nat.zero_add,e]
   rw [jH c k t (by simpa using h)]
  ·rw [j8 c hc] at h;simp at h
/-- What the program parts into four at most, and what it is made of. -/
theorem parts_okP (c:UInt8) (s:ByteArray):(okSegs ((Lib.splitB (mkS [c]) 0 (min 4 (s.size+1) - 1) s).map bs)=okSegs (cut c (bs s)))∧(okSegs (cut c (bs s))=true→(Lib.splitB (mkS [c]) 0 (min 4 (s.size+1) - 1) s).map bs=cut c (bs s)):=by
 have e:(Lib.splitB (mkS [c]) 0 (min 4 (s.size+1) - 1) s).map bs=Lib.splitK [c] 0 (min 4 (s.size+1) - 1) (bs s):=Lib.splitB_data (mkS [c]) 0 _ s
 rw [e]
 have hle:=ly c (bs s)
 rw [dg] at hle
 by_cases h:(cut c (bs s)).length≤(min 4 (s.size+1) - 1)+1
 ·rw [lg c _ _ h];exact ⟨rfl,fun _=>rfl⟩
 ·have h4:min 4 (s.size+1) - 1=3:=by omega
  have hl:=jH c (min 4 (s.size+1) - 1) (bs s) (by omega)
  rw [h4] at hl h ⊢
  have e1:okSegs (cut c (bs s))=false:=by unfold okSegs;rw [decide_eq_false (by omega)];rfl
  have e2:okSegs (Lib.splitK [c] 0 3 (bs s))=false:=by unfold okSegs;rw [decide_eq_false (by omega)];rfl
  rw [e1,e2]
  exact ⟨rfl,fun h=>by cases h⟩
def plv (ks:List ByteArray):List Value:=[.string (ks.getD 0 noStr),.string (ks.getD 1 noStr),.string (ks.getD 2 noStr)]
structure PlOk (ks:List ByteArray):Prop where
 len:ks.length≤3
 seg:∀k∈ks,seg (bs k)=true
theorem PlOk.of {ks:List ByteArray} (h:okSegs (ks.map bs)=true):PlOk ks:=by
 have:=okSegs_parts h
 exact ⟨by simpa using this.1,fun k hk=>this.2 (bs k) (List.mem_map_of_mem hk)⟩
theorem PlOk.to {ks:List ByteArray} (h:PlOk ks):okSegs (ks.map bs)=true :=
 okSegs_mk (by simpa using h.len) (fun k hk=>by obtain ⟨x,hx,rfl⟩:=List.mem_map.1 hk;exact h.seg x hx)
theorem PlOk.nil:PlOk []:=⟨by simp,fun k hk=>by cases hk⟩
theorem PlOk.size {ks:List ByteArray} (h:PlOk ks) {k:ByteArray} (hk:k∈ks):1≤k.size∧k.size≤10:=by
 have:=seg_parts (h.seg k hk)
 rw [dg] at this
 exact ⟨this.1,this.2.1⟩
theorem PlOk.drop {ks:List ByteArray} (h:PlOk ks):PlOk ks.dropLast :=
 ⟨by have:=h.len;simp;omega,fun k hk=>h.seg k (List.dropLast_subset ks hk)⟩
theorem PlOk.at {ks:List ByteArray} (h:PlOk ks) {i:Nat} (hi:i<ks.length):ks.getD i noStr≠noStr:=by
 have e:ks.getD i noStr=ks[i]:=by simp [hi]
 rw [e]
 intro hc
 have:=(h.size (List.getElem_mem hi)).1
 rw [hc] at this
 exact absurd this (by decide)
theorem plv_inj {ks qs:List ByteArray} (h:PlOk ks) (h2:PlOk qs) (he:plv ks=plv qs):ks=qs:=by
 simp only [plv,List.cons.injEq,Value.string.injEq,and_true] at he
 obtain ⟨e0,e1,e2⟩:=he
 have hl:ks.length=qs.length:=by
  have l1:=h.len
  have l2:=h2.len
  have key:∀i,i<3→(i<ks.length↔i<qs.length):=by
   intro i hi
   have e:ks.getD i noStr=qs.getD i noStr:=by
    rcases (show i=0∨i=1∨i=2 by omega) with rfl|rfl|rfl
    ·exact e0
    ·exact e1
    ·exact e2
   constructor
   ·intro hk
    refine Decidable.byContradiction fun hq=>h.at hk ?_
    rw [e];simp [List.getElem?_eq_none (show qs.length≤i by omega)]
   ·intro hq
    refine Decidable.byContradiction fun hk=>h2.at hq ?_
    rw [←e];simp [List.getElem?_eq_none (show ks.length≤i by omega)]
  have k0:=key 0 (by omega)
  have k1:=key 1 (by omega)
  have k2:=key 2 (by omega)
  omega
 apply List.ext_getElem hl
 intro i h1 h2'
 have l1:=h.len
 have e:ks.getD i noStr=qs.getD i noStr:=by
  rcases (show i=0∨i=1∨i=2 by omega) with rfl|rfl|rfl
  ·exact e0
  ·exact e1
  ·exact e2
 simpa [h1,h2'] using e
/-- How many segments, as slices.Index tells it. -/
theorem idx_pl {ks:List ByteArray} (h:PlOk ks):Lib.idxOfS ([ks.getD 0 noStr,ks.getD 1 noStr,ks.getD 2 noStr].take 3) noStr=if ks.length=3 then -1 else (ks.length:Int):=by
 have l1:=h.len
 split
 ·next h3 =>
  refine Lib.idxOfS_miss _ 3 _ fun j hj=>?_
  rcases (show j=0∨j=1∨j=2 by omega) with rfl|rfl|rfl
  ·exact h.at (by omega)
  ·exact h.at (by omega)
  ·exact h.at (by omega)
 ·next h3 =>
  refine Lib.idxOfS_hit _ 3 ks.length _ (by omega) (by simp) ?_ fun j hj=>?_
  ·have e:∀i,ks.length≤i→ks.getD i noStr=noStr:=fun i hi=>by simp [List.getElem?_eq_none hi]
   rcases (show ks.length=0∨ks.length=1∨ks.length=2 by omega) with hl|hl|hl
   ·rw [hl];exact e 0 (by omega)
   ·rw [hl];exact e 1 (by omega)
   ·rw [hl];exact e 2 (by omega)
  ·rcases (show j=0∨j=1∨j=2 by omega) with rfl|rfl|rfl
   ·exact h.at (by omega)
   ·exact h.at (by omega)
   ·exact h.at (by omega)
def plk (xs:List ByteArray) (k:Nat):List Value:=plv (xs.take k)
theorem plk_set (xs:List ByteArray) (k:Nat) (hk:k<xs.length) (hl:xs.length≤3):(plk xs k).set k (.string (xs.getD k noStr))=plk xs (k+1):=by
 unfold plk
 rcases (show k=0∨k=1∨k=2 by omega) with rfl|rfl|rfl
 ·match xs,hk with
  | a::r,_=>rfl
 ·match xs,hk with
  | a::b::r,_=>rfl
 ·match xs,hk with
  | a::b::c::r,_=>rfl
open Go Go.RowKit
theorem sod_any (x:Int) (w:World):Calls Tryz.prog 170 #[.int .u8 x] w fun e w'=>e=.returned (.bool (okc x))∧w'=w:=by
 by_cases h1:97≤x<;>by_cases h2:x≤122<;>by_cases h3:48≤x<;>by_cases h4:x≤57 <;>
 ·go_enter Tryz.func170,Tryz.ntmps170
  go_wp2
  go_ret
  exact ⟨by simp [okc,h1,h2,h3,h4],rfl⟩
theorem byte_at (s:ByteArray) (k:Nat) (h:k<s.size):∃b,s.data[k]?=some b∧(bs s)[k]?=some b:=by
 have h':k<s.data.size:=h
 exact ⟨s.data[k],by simp,by simp [bs]⟩
theorem segment_long (s:ByteArray) (w:World) (h:s.size<1∨10<s.size):Calls Tryz.prog 135 #[.string s] w fun e w'=>e=.returned (.bool false)∧w'=w:=by
 obtain ⟨n,hn⟩:∃n:Nat,n=s.size:=⟨_,rfl⟩
 rw [←hn] at h
 go_enter Tryz.func135,Tryz.ntmps135
 rcases h with h|h
 ·have h1:(s.size:Int)<1:=by omega
  go_wp2
  go_ret
  exact ⟨rfl,rfl⟩
 ·have h1:¬(s.size:Int)<1:=by omega
  have h2:(10:Int)<(s.size:Int):=by omega
  go_wp2
  go_ret
  exact ⟨rfl,rfl⟩
theorem all_take {l:List UInt8} {k:Nat} {b:UInt8} (h:(l.take k).all okU=true) (hb:l[k]?=some b) (ho:okU b=true):(l.take (k+1)).all okU=true:=by
 rw [List.take_add_one,hb]
 simp [List.all_append,h,ho]
theorem jI (s:ByteArray) (w:World):Calls Tryz.prog 135 #[.string s] w fun e w'=>e=.returned (.bool (seg (bs s)))∧w'=w:=by
 by_cases hlen:s.size<1∨10<s.size
 ·refine (segment_long s w hlen).mono ?_
  rintro e w' ⟨he,hw⟩
  refine ⟨?_,hw⟩
  rw [he]
  have:seg (bs s)=false:=by
   unfold seg
   rw [dg]
   rcases hlen with h|h
   ·rw [decide_eq_false (by omega)];rfl
   ·rw [decide_eq_false (show ¬s.size≤10 by omega)];simp
  rw [this]
 ·have h1:¬(s.size:Int)<1:=by omega
  have h2:¬(10:Int)<(s.size:Int):=by omega
  have HL:Hid (∀_:Unit,1≤s.size∧s.size≤10):=fun _=>by omega
  obtain ⟨n,hn⟩:∃n:Nat,n=s.size:=⟨_,rfl⟩
  have HN:Hid (∀_:Unit,n=s.size):=fun _=>hn
  have hn10:n≤10:=by omega
  clear hlen hn
  go_enter Tryz.func135,Tryz.ntmps135
  go_wp2_with fail
  go_loopw [14] (fun vi wr=>∃k:Nat,k≤n∧vi=.int .i64 (k:Int)∧Hid (((bs s).take k).all okU=true)∧wr=w) (fun vi _=>n - (intOf vi).toNat)
  case atStart=>exact ⟨0,by omega,rfl,rfl,rfl⟩
  case round =>
   obtain ⟨k,hk,rfl,HA,rfl⟩:=hrel
   by_cases hlt:k<n
   ·have hki:(k:Int)<(s.size:Int):=by have:=HN.out ();omega
    obtain ⟨b,hb,hb2⟩:=byte_at s k (by have:=HN.out ();omega)
    obtain ⟨r,hr⟩:∃r,r=okU b:=⟨_,rfl⟩
    have HB:Hid (∀_:Unit,∃c,s.data[k]?=some c∧(c.toNat:Int)=(b.toNat:Int)):=fun _=>⟨b,hb,rfl⟩
    have HB2:Hid (∀_:Unit,(bs s)[k]?=some b∧r=okU b):=fun _=>⟨hb2,hr⟩
    obtain ⟨x,hx⟩:∃x:Int,x=(b.toNat:Int):=⟨_,rfl⟩
    rw [←hx] at HB
    have HX:Hid (∀_:Unit,okc x=r):=fun _=>by rw [hr,hx];rfl
    clear hb hb2 hr hx
    cases r with
    | true =>
     go_wp2_with (first
      | ((with_reducible refine ae (some 19) (.index 9 (.tmp 17) (.tmp 18)) ?_);refine wpl_ixs gu s k x rfl rfl rfl (HB.out ()) ?_)
      | (go_at_call 170;refine (sod_any x _).mono ?_;rintro e w' ⟨he,hw⟩;rw [HX.out ()] at he;subst he;subst hw))
     go_roundw
     case rel=>exact ⟨k+1,by omega,by go_num,all_take HA.out (HB2.out ()).1 (HB2.out ()).2.symm,by first|rfl|trivial⟩
     case measure=>simp [intOf];omega
    | false =>
     go_wp2_with (first
      | ((with_reducible refine ae (some 19) (.index 9 (.tmp 17) (.tmp 18)) ?_);refine wpl_ixs gu s k x rfl rfl rfl (HB.out ()) ?_)
      | (go_at_call 170;refine (sod_any x _).mono ?_;rintro e w' ⟨he,hw⟩;rw [HX.out ()] at he;subst he;subst hw))
     go_ret
     refine ⟨?_,rfl⟩
     have:seg (bs s)=false:=by
      have hall:(bs s).all okU=false:=by
       rw [List.all_eq_false]
       exact ⟨b,List.mem_of_getElem? (HB2.out ()).1,by rw [←(HB2.out ()).2];simp⟩
      unfold seg
      rw [hall];simp
     rw [this]
     rfl
   ·have hki:¬(k:Int)<(s.size:Int):=by have:=HN.out ();omega
    go_wp2_with fail
    go_ret
    refine ⟨?_,rfl⟩
    have hlen:=HL.out ()
    have hall:(bs s).all okU=true:=by
     have:=HA.out
     rw [List.take_of_length_le (by rw [dg];have:=HN.out ();omega)] at this
     exact this
    have:seg (bs s)=true:=by
     unfold seg
     rw [hall,dg,decide_eq_true hlen.1,decide_eq_true hlen.2];rfl
    rw [this]
    rfl
theorem kp (w:World):Calls Tryz.prog 134 #[] w fun e w'=>e=.returned (.agg (plv []).toArray)∧Below w.heap.size w w':=by
 have hm:=Mem.start w
 go_enter Tryz.func134,Tryz.ntmps134
 go_wp2_with (first
  | ((with_reducible refine ae (some 0) (.alloc 161) ?_);refine ag _ ec hm ?_;clear hm;intro w1 g1 hm)
  | ((with_reducible refine ae (some 1) (.build 161 #[]) ?_);refine ay [.string ByteArray.empty,.string ByteArray.empty,.string ByteArray.empty] [] rfl (by kernel_rfl) ?_)
  | ((with_reducible refine ae none (.store 161 (.tmp 0) (.tmp 1)) ?_);refine ah 0 [.string ByteArray.empty,.string ByteArray.empty,.string ByteArray.empty] hm rfl rfl rfl 3 de (by rfl) (by rfl) (by decide) ?_;clear hm;intro w2 hm))
 refine aH 0 hm rfl Tryz.results134 rfl _ eM rfl 3 de rfl rfl ?_
 exact ⟨rfl,hm.below⟩
end Go.Proofs.YtlpnafdkhoimhaaGreatDoor
