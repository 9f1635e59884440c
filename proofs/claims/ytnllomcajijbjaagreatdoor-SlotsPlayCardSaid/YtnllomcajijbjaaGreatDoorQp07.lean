import Derived.Test.YtnllomcajijbjaaGreatDoorQp05
import Derived.Test.YtnllomcajijbjaaGreatDoorQp01
import Derived.Test.YtnllomcajijbjaaGreatDoorQp06
set_option maxRecDepth 100000
set_option maxHeartbeats 4000000
namespace Go.Proofs.YtnllomcajijbjaaGreatDoor
open Go Go.RowKit
section
variable {P:Program} {md:Region.Mode} {ops:Array Oper} {R:Act→World→Prop} {T:World→Prop} {fuel:Nat} {listed:Array Bool} {a:Act} {w:World}
theorem anyH_opW (i:Nat) {o:Oper} (hi:ops[i]?=some o) (hw:Region.wanted o (yielded ops a.tmps)=true)
  (h:∀K:Act→World→Prop,(∀a' w',T w'→wpAnyH P md ops (endsIn R) T fuel (listed.setIfInBounds i true) a' w'→K a' w')→wpList P ops (endsIn K) [o] a w) :
  wpOp P ops (endsIn R) i (fun a' w'=>T w'∧wpAnyH P md ops (endsIn R) T fuel (listed.setIfInBounds i true) a' w') a w:=by
 have hh:=h (fun a' w'=>T w'∧wpAnyH P md ops (endsIn R) T fuel (listed.setIfInBounds i true) a' w') (fun _ _ h1 h2=>⟨h1,h2⟩)
 unfold wpOp
 simp only [hi]
 unfold wpList at hh
 rw [if_pos hw] at hh
 rw [if_pos hw]
 exact hh
theorem aO (i:Nat) {o:Oper} (hr:Region.ready md ops listed=[i]) (hi:ops[i]?=some o) (hw:Region.wanted o (yielded ops a.tmps)=true)
  (h:∀K:Act→World→Prop,(∀a' w',T w'→wpAnyH P md ops (endsIn R) T fuel (listed.setIfInBounds i true) a' w'→K a' w')→wpList P ops (endsIn K) [o] a w):wpAnyH P md ops (endsIn R) T (fuel+1) listed a w :=
 wpAnyH_all hr (by simp) (fun j hj=>by
  simp only [List.mem_cons,List.not_mem_nil,or_false] at hj
  subst hj
  exact anyH_opW j hi hw h)
theorem ai (i:Nat) {o:Oper} (hi:ops[i]?=some o) (hs:Region.noSelect ops=true) (hf:Region.free md ops listed i=true) (hr:(Region.ready md ops listed).contains i=true) (hw:Region.wanted o (yielded ops a.tmps)=false)
  (hT:T w) (h:wpAnyH P md ops (endsIn R) T fuel (listed.setIfInBounds i true) (a.put o.dst undef) w):wpAnyH P md ops (endsIn R) T (fuel+1) listed a w :=
 wpAnyH_take hi hs hf hr (fun _ _ _ h=>h) (Or.inr ⟨hw,rfl⟩) hT h
end
theorem wrapm (x:Int):IntKind.u32.wrap x=x % 4294967296:=by simp [IntKind.wrap,IntKind.bits,IntKind.signed]
theorem wrapw (x:Int) (h0:0≤x) (h1:x<4294967296):IntKind.u32.wrap x=x:=by rw [wrapm];omega
def cutHi (p:Option Addr) (cap:Nat):Option Addr:=if cap=0 then p else p.map (·.add 0)
def cutLo (p:Option Addr) (cap l:Nat):Option Addr:=if cap=l then p else p.map (·.add l)
theorem old_hi {w:World} {p:Option Addr} {n cap:Nat} {cs:List Int} (h:SlOld w (.slice p n cap) cs) (m:Nat) (hm:m≤n):SlOld w (.slice (cutHi p cap) m cap) (cs.take m):=by
 obtain ⟨hn,hc,hs⟩:=h.src0
 have hl:(cs.take m).length=m:=by rw [List.length_take];omega
 refine ⟨_,cap,by rw [hl],by rw [hl];omega,fun h0=>?_⟩
 rw [hl] at h0
 obtain ⟨b,off,rfl,hseg⟩:=hs (by omega)
 refine ⟨b,off,?_,hseg.take m⟩
 rw [cutHi,if_neg (by omega)]
 simp [bM]
theorem old_lo {w:World} {p:Option Addr} {n cap:Nat} {cs:List Int} (h:SlOld w (.slice p n cap) cs) (l:Nat) (hl:l≤n):SlOld w (.slice (cutLo p cap l) (n - l) (cap - l)) (cs.drop l):=by
 obtain ⟨hn,hc,hs⟩:=h.src0
 have hd:(cs.drop l).length=n - l:=by rw [List.length_drop];omega
 refine ⟨_,cap - l,by rw [hd],by rw [hd];omega,fun h0=>?_⟩
 rw [hd] at h0
 obtain ⟨b,off,rfl,hseg⟩:=hs (by omega)
 refine ⟨b,off+l,?_,hseg.drop l⟩
 rw [cutLo,if_neg (by omega)]
 simp [bM]
section
variable {P:Program} {a:Act} {w:World} {dst:Option Tmp} {typ:TypeId} {pos:String} {aft:Array Edge} {gd:Option (Nat×Bool)}
theorem exec_sHi {ty:TypeId} {x hi:Operand} {elem:TypeId} (hu:P.underlying ty=some (.slice elem)) (hs:(P.info? elem).map (·.size)=some 1) {p:Option Addr} {len cap:Nat} (m:Nat) {ih:Int} (hm:m≤cap) (hx:a.eval x=.slice p len cap) (hhi:a.eval hi=.int .i64 ih) (hih:ih=(m:Int)) :
  (execOp a.eval {dst:=dst,op:=.slice ty x none (some hi) none,type:=typ,pos:=pos,after:=aft,guard:=gd}).run P w=.ok (.value (.slice (cutHi p cap) m cap)) w:=by
 subst hih
 cases hq:P.info? elem with
 | none=>simp [hq] at hs
 | some q =>
  have hs1:q.size=1:=by simpa [hq] using hs
  have hsz:(sizeOf elem).run P w=.ok 1 w:=by simp [sizeOf,typeInfo,hq,hs1]
  have bnd:∀code,(Instr.sliceBound (.int .i64 (m:Int)) cap code).run P w=.ok m w:=by
   intro code
   rw [run_sliceBound (P:=P) w .i64 (m:Int) cap code (by omega) (by omega)]
   simp
  have hb:(Instr.sliceBounds true len cap none (some (.int .i64 (m:Int))) none).run P w=.ok (0,m,cap) w:=by
   simp [Instr.sliceBounds,bnd]
  have hr:(Instr.sliceAt ty (.slice p len cap) none (some (.int .i64 (m:Int))) none).run P w=.ok (.slice (cutHi p cap) m cap) w:=by
   simp [Instr.sliceAt,Instr.slice,run_underlying hu,hb,hsz,cutHi]
  unfold execOp
  simp only [hx,hhi,Option.map_some,Option.map_none,hr,Sem.run_bind,Sem.run_pure,Result.andThen_ok]
theorem exec_sLo {ty:TypeId} {x lo:Operand} {elem:TypeId} (hu:P.underlying ty=some (.slice elem)) (hs:(P.info? elem).map (·.size)=some 1) {p:Option Addr} {len cap:Nat} (l:Nat) {il:Int} (hl:l≤len) (hx:a.eval x=.slice p len cap) (hlo:a.eval lo=.int .i64 il) (hil:il=(l:Int)) :
  (execOp a.eval {dst:=dst,op:=.slice ty x (some lo) none none,type:=typ,pos:=pos,after:=aft,guard:=gd}).run P w=.ok (.value (.slice (cutLo p cap l) (len - l) (cap - l))) w:=by
 subst hil
 cases hq:P.info? elem with
 | none=>simp [hq] at hs
 | some q =>
  have hs1:q.size=1:=by simpa [hq] using hs
  have hsz:(sizeOf elem).run P w=.ok 1 w:=by simp [sizeOf,typeInfo,hq,hs1]
  have hb:(Instr.sliceBounds true len cap (some (.int .i64 (l:Int))) none none).run P w=.ok (l,len,cap) w:=by
   have:=run_sliceBound (P:=P) w .i64 (l:Int) len .sliceB (by omega) (by omega)
   simp [Instr.sliceBounds,this]
  have hr:(Instr.sliceAt ty (.slice p len cap) (some (.int .i64 (l:Int))) none none).run P w=.ok (.slice (cutLo p cap l) (len - l) (cap - l)) w:=by
   simp [Instr.sliceAt,Instr.slice,run_underlying hu,hb,hsz,cutLo]
  unfold execOp
  simp only [hx,hlo,Option.map_some,Option.map_none,hr,Sem.run_bind,Sem.run_pure,Result.andThen_ok]
end
open Go Go.RowKit
theorem info_tag:(Tryz.prog.info? 109).map (fun i=>(i.zero,i.size))=some (some (.agg (u8s (List.replicate 16 0)).toArray),16):=by kernel_rfl
theorem e7:∀w,(zeroValue 109).run Tryz.prog w=.ok (.agg (u8s (List.replicate 16 0)).toArray) w:=(zero_of_info info_tag).1
theorem cA:(Tryz.prog.info? 109).map (·.size)=some 16:=(zero_of_info info_tag).2
theorem cI:Tryz.prog.underlying 109=some (.array 16 5):=Tryz.underlying109
theorem info_b48:(Tryz.prog.info? 65).map (fun i=>(i.zero,i.size))=some (some (.agg (u8s (List.replicate 48 0)).toArray),48):=by kernel_rfl
theorem zero_b48:∀w,(zeroValue 65).run Tryz.prog w=.ok (.agg (u8s (List.replicate 48 0)).toArray) w:=(zero_of_info info_b48).1
theorem d3:(Tryz.prog.info? 65).map (·.size)=some 48:=(zero_of_info info_b48).2
theorem dD:Tryz.prog.underlying 65=some (.array 48 5):=Tryz.underlying65
theorem eg_tag:Tryz.prog.eqGuardType Tryz.prog.depth 109=false:=by kernel_rfl
section
variable {P:Program} {ops:Array Oper} {rest:List Oper} {a:Act} {w w0:World} {Q:Exit→Act→World→Prop} {dst:Option Tmp} {typ:TypeId} {pos:String} {aft:Array Edge} {gd:Option (Nat×Bool)} {S:List Nat} {rows:List (Nat×List Value×TypeId)}
theorem dV {ty:TypeId} {x:Operand} (n:Nat) {elem:TypeId} (hu:P.underlying ty=some (.array n elem)) {p:Option Addr} {len cap:Nat} (hn:n≤len) (hx:a.eval x=.slice p len cap) :
  (execOp a.eval {dst:=dst,op:=.sliceToArrayPointer ty x,type:=typ,pos:=pos,after:=aft,guard:=gd}).run P w=.ok (.value (.pointer p)) w:=by
 have hr:(Instr.arrayAt ty (.slice p len cap)).run P w=.ok (.pointer p) w:=by
  simp [Instr.arrayAt,run_underlying hu,show ¬len<n by omega]
 unfold execOp
 simp only [hx,hr,Sem.run_bind,Sem.run_pure,Result.andThen_ok]
theorem cN {ty:TypeId} {x:Operand} (n:Nat) {elem:TypeId} (hu:P.underlying ty=some (.array n elem)) {p:Option Addr} {len cap:Nat} (hn:n≤len) (hx:a.eval x=.slice p len cap)
  (h:wpList P ops Q rest (a.put dst (.pointer p)) w):wpList P ops Q ({dst:=dst,op:=.sliceToArrayPointer ty x,type:=typ,pos:=pos,after:=aft,guard:=none}::rest) a w :=
 ae (.pointer p) rfl (dV n hu hn hx) h
/-- Bytes of a slice, loaded as an array. -/
theorem exec_ldS {ty:TypeId} {x:Operand} {g off:Nat} (cs:List Int) (hx:a.eval x=.pointer (some ⟨g,off,none⟩)) (hc:Seg w g off cs) (d:TypeDesc) (hu:P.underlying ty=some d) (hd:(match d with | .struct _ | .array _ _=>true|_=>false)=true) (n:Nat) (hs:(P.info? ty).map (·.size)=some n) (hn:cs.length=n) :
  (execOp a.eval {dst:=dst,op:=.load ty x,type:=typ,pos:=pos,after:=aft,guard:=gd}).run P w=.ok (.value (.agg (u8s cs).toArray)) w:=by
 have hl:=d5 w g off n ty (u8s cs) d (fun j v hj=>by have:=hc.src j v hj;rw [bM] at this;exact this) hu hd hs (by rw [ab];exact hn)
 unfold execOp
 simp only [hx,Instr.loadAt,Instr.sureAddr,Sem.run_bind,Sem.run_pure,Result.andThen_ok,hl]
theorem own_row {e:TypeId} {base g:Nat} {zs:List Int} (hr:Row w g (u8s zs) e) (hb:base≤g) (hl:zs.length≤1000000):OwnB e w base (.slice (some ⟨g,0,none⟩) zs.length zs.length) zs:=by
 refine ⟨by rw [ab,Nat.mul_one],Or.inr ⟨g,zs.length,(u8s zs).toArray,rfl,hb,hr,Nat.le_refl _,by unfold maxLen;omega,by simp [ab],?_⟩⟩
 rw [Nat.mul_one]
 exact List.take_of_length_le (by rw [ab];exact Nat.le_refl _)
theorem own_empty {e:TypeId} {base g n:Nat} (hr:Row w g (List.replicate n (.int .u8 0)) e) (hb:base≤g) (hl:n≤1000000):OwnB e w base (.slice (some ⟨g,0,none⟩) 0 n) [] :=
 ⟨by simp [u8s],Or.inr ⟨g,n,(List.replicate n (Value.int .u8 0)).toArray,rfl,hb,hr,Nat.zero_le _,by unfold maxLen;omega,by simp,by simp [u8s]⟩⟩
theorem wpl_makeE {ty:TypeId} {x y:Operand} (elem:TypeId) (hu:P.underlying ty=some (.slice elem)) (z:Value) (hi:(P.info? elem).map (fun i=>(i.zero,i.size,i.bytes))=some (some z,1,1)) (hz:z.cells=#[z]) (n:Nat) {j:Int} (hx:a.eval x=.int .i64 0) (hy:a.eval y=.int .i64 j) (hyj:j=(n:Int)) (hn:n≤65536) (hm:Mem w0 S w rows)
  (h:∀w' g,Mem w0 S w' ((g,List.replicate n z,elem)::rows)→wpList P ops Q rest (a.put dst (.slice (some ⟨g,0,none⟩) 0 n)) w') :
  wpList P ops Q ({dst:=dst,op:=.makeSlice ty x y,type:=typ,pos:=pos,after:=aft,guard:=none}::rest) a w:=by
 subst hyj
 refine wpList_plain rfl fun K hK=>?_
 have hh:=hK _ _ (h _ _ (hm.alloc (List.replicate n z) elem))
 have hr:(Instr.makeSlice ty (.int .i64 0) (.int .i64 (n:Int))).run P w=.ok (.slice (some ⟨w.heap.size,0,none⟩) 0 n) (w.alloc (.cells (List.replicate n z).toArray elem)):=by
  cases hq:P.info? elem with
  | none=>simp [hq] at hi
  | some q =>
   simp only [hq,Option.map_some,Option.some.injEq,Prod.mk.injEq] at hi
   obtain ⟨h0,h1,h2⟩:=hi
   have:=run_makeSlice (P:=P) w ty elem q z hu hq h0 .i64 .i64 0 (n:Int) (by omega) (by omega) (by rw [h1];simp;omega) (by rw [h2];simp;omega) (by omega)
   rw [this,h1,hz]
   have e:madeCells #[z] ((n:Int).toNat * 1)=(List.replicate n z).toArray:=by
    unfold madeCells
    apply Array.ext
    ·simp
    ·intro k h1 h2
     simp [Nat.mod_one]
   rw [e]
   simp
 unfold Oper.wp execOp
 simp only [hx,hy,hr,Sem.run_bind,Sem.run_pure,Result.andThen_ok]
 exact hh
end
theorem set_eight (zs:List Int) (a b c d e f g h:Int):(((((((((u8s (zs++[0,0,0,0,0,0,0,0])).set (zs.length+7) (.int .u8 h)).set (zs.length+6) (.int .u8 g)).set (zs.length+5) (.int .u8 f)).set (zs.length+4) (.int .u8 e)).set (zs.length+3) (.int .u8 d)).set (zs.length+2) (.int .u8 c)).set (zs.length+1) (.int .u8 b)).set (zs.length+0) (.int .u8 a))=u8s (zs++[a,b,c,d,e,f,g,h]):=by
 rw [bT,bT,bT,bT,bT,bT,bT,bT]
 simp [u8s,List.set_append_right]
theorem longer_at8 (zs:List Int) (v:Value) (hzl:zs.length≤60000) (w:World) (hv:SlOld w v zs) :
  Calls Tryz.prog 67 #[v,.int .i64 8] w fun e w'=>∃g,e=.returned (.slice (some ⟨g,0,none⟩) (zs.length+8) (zs.length+8))∧w.heap.size≤g∧Row w' g (u8s (zs++[0,0,0,0,0,0,0,0])) 5∧Below w.heap.size w w':=by
 obtain ⟨p,cap,rfl,hcap⟩:=hv.len
 have hm:=Mem.start w
 have HV:Hid (SlOld w (.slice p zs.length cap) zs):=hv
 have HNE:Hid (splice (List.replicate (zs.length+8) (.int .u8 0)) 0 (u8s (zs.take zs.length))=u8s (zs++[0,0,0,0,0,0,0,0])):=by
  show _=_
  have e:List.replicate (zs.length+8) (Value.int .u8 0)=u8s (List.replicate (zs.length+8) 0):=by simp [u8s]
  rw [List.take_of_length_le (Nat.le_refl _),e,cn zs (zs.length+8),show zs.length+8 - zs.length=8 by omega]
  rfl
 have HMI:Hid (zs.length=Nat.min zs.length (zs.length+8)):=(Nat.min_eq_left (by omega)).symm
 clear hv
 go_enter Tryz.func67,Tryz.ntmps67
 go_wp2_with (first
  | ((with_reducible refine aa (some 10) (.makeSlice 33 (.tmp 9) (.tmp 9)) ?_);go_must (refine eE _ aU _ bZ rfl (zs.length+8) rfl (by first|rfl|omega|go_num) rfl (by first|rfl|omega|go_num) (by omega) hm ?_);clear hm;intro w1 g hm)
  | ((with_reducible refine aa (some 13) (.call {callee:=.builtin .copy,args:=#[.tmp 11,.tmp 12],argTypes:=#[33,33]}) ?_);go_must (refine cZ 0 zs zs.length (u8s (zs++[0,0,0,0,0,0,0,0])) hm rfl rfl rfl _ aU be (SlOld.mem HV.out hm) HMI.out (by simp) HNE.out ?_);clear hm;intro w2 hm))
 go_ret
 have hf:=hm.fresh _ (List.mem_cons_self ..)
 exact ⟨g,rfl,by simpa using hf,hm.get 0 rfl,hm.below⟩
theorem jC (g:Nat) (zs:List Int) (n:Int) (w:World) (hr:Row w g (u8s (zs++[0,0,0,0,0,0,0,0])) 5) :
  Calls Tryz.prog 68 #[.slice (some ⟨g,zs.length,none⟩) 8 8,.int .u64 n] w fun e w'=>e=.returned (.tuple #[])∧Row w' g (u8s (zs++be8 n)) 5∧Upd g w w':=by
 have hm:=Mem.enter hr
 have HLN:Hid (((u8s (zs++[0,0,0,0,0,0,0,0])).length=zs.length+8)):=by show _=_;simp [ab]
 clear hr
 go_enter Tryz.func68,Tryz.ntmps68
 go_wp2_with fail
 refine wp_loop_rounds 9 ?_
 iterate 9 (rw [rounds_succ];go_wp2_with (first
  | (((with_reducible refine aa none (.store 5 (.tmp 16) (.tmp 15)) ?_);refine bm 0 _ _ hm rfl (rfl) rfl be (by first|(rw [HLN.out];omega)|(simp only [List.length_set];rw [HLN.out];omega)) rfl rfl ?_;clear hm;intro w9 hm))))
 go_end0
 have hrow:=hm.get 0 rfl
 exact ⟨rfl,by have e:=set_eight zs (n / 256 / 256 / 256 / 256 / 256 / 256 / 256 % 256) (n / 256 / 256 / 256 / 256 / 256 / 256 % 256) (n / 256 / 256 / 256 / 256 / 256 % 256) (n / 256 / 256 / 256 / 256 % 256) (n / 256 / 256 / 256 % 256) (n / 256 / 256 % 256) (n / 256 % 256) (n % 256);rw [show be8 n=[n / 256 / 256 / 256 / 256 / 256 / 256 / 256 % 256,n / 256 / 256 / 256 / 256 / 256 / 256 % 256,n / 256 / 256 / 256 / 256 / 256 % 256,n / 256 / 256 / 256 / 256 % 256,n / 256 / 256 / 256 % 256,n / 256 / 256 % 256,n / 256 % 256,n % 256] from rfl,←e];exact hrow,hm.toUpd⟩
theorem put_at8 (zs:List Int) (v:Value) (n:Int) (hzl:zs.length≤60000) (w:World) (hv:SlOld w v zs) :
  Calls Tryz.prog 55 #[v,.int .u64 n,.int .i64 8] w fun e w'=>∃g,e=.returned (.slice (some ⟨g,0,none⟩) (zs.length+8) (zs.length+8))∧w.heap.size≤g∧Row w' g (u8s (zs++be8 n)) 5∧Below w.heap.size w w':=by
 obtain ⟨p,cap,rfl,hcap⟩:=hv.len
 have hm:=Mem.start w
 have HV:Hid (SlOld w (.slice p zs.length cap) zs):=hv
 clear hv
 go_enter Tryz.func55,Tryz.ntmps55
 go_wp2_with (first
  | (go_at_call 66;refine (fW _).mono ?_;rintro e w1 ⟨rfl,rfl⟩)
  | (go_at_call 67;refine (longer_at8 zs _ hzl _ HV.out).mono ?_;rintro e w2 ⟨g,rfl,hge,hr,hb⟩;have HGE:Hid _:=hge;have HR:Hid (Row w2 g (u8s (zs++[0,0,0,0,0,0,0,0])) 5):=hr;have HBL:Hid _:=hb;clear hge hr hb)
  | ((with_reducible refine aa (some 17) (.slice 33 (.tmp 14) (some (.tmp 16)) none none) ?_);go_must (refine wpl_slo aU be zs.length zs.length 8 8 (by omega) (by omega) (by omega) (by omega) (by omega) rfl rfl rfl ?_))
  | (go_at_call 68;refine (jC g zs n _ HR.out).mono ?_;rintro e w3 ⟨rfl,hr2,hu⟩;have HR2:Hid (Row w3 g (u8s (zs++be8 n)) 5):=hr2;have HU2:Hid (Upd g w2 w3):=hu;clear hr2 hu))
 go_ret
 exact ⟨g,rfl,HGE.out,HR2.out,fv HBL.out HU2.out HGE.out HBL.out.size⟩
theorem cF (p n:Int) (hp:0≤p∧p<4294967296) (w:World) :
  Calls Tryz.prog 41 #[.int .u32 p,.int .u64 n] w fun e w'=>e=.returned (.agg (u8s (nonceOf p n)).toArray)∧Below w.heap.size w w':=by
 obtain ⟨hp0,hp1⟩:=hp
 have hm:=Mem.start w
 have HWR:Hid (IntKind.u64.wrap p=p):=hO p hp0 hp1
 have HL4:Hid ((be4 p).length=4):=du p
 have HLN:Hid ((u8s (nonceOf p n)).length=12):=by show _=_;rw [ab,da]
 go_enter Tryz.func41,Tryz.ntmps41
 go_wp2_with (first
  | ((with_reducible refine aa (some 4) (.alloc 96) ?_);refine aj _ zero_nce hm ?_;clear hm;intro w1 g4 hm))
 refine (put_four [] _ p (by simp) _ ⟨none,0,rfl,Nat.le_refl _,fun h=>absurd h (by simp)⟩).mono ?_
 rintro e w2 ⟨g7,rfl,hge,hr,hb⟩
 replace hm:=hm.callNew hb hr hge
 clear hb hr hge
 rw [show ([]:List Int).length+4=4 from rfl]
 replace hm:Mem w [] w2 [(g7,u8s (be4 p),5),(g4,u8s (List.replicate 12 0),96)]:=hm
 go_wp2_with fail
 refine (put_at8 (be4 p) _ n (by rw [du];omega) _ (bB (hm.get 0 rfl) (du p) (Nat.le_refl _))).mono ?_
 rintro e w3 ⟨g9,he,hge,hr,hb⟩
 rw [du] at he
 subst he
 replace hm:=hm.callNew hb hr hge
 clear hb hr hge
 replace hm:Mem w [] w3 [(g9,u8s (nonceOf p n),5),(g7,u8s (be4 p),5),(g4,u8s (List.replicate 12 0),96)]:=hm
 go_wp2_with (first
  | ((with_reducible refine aa (some 10) (.sliceToArrayPointer 96 (.tmp 9)) ?_);go_must (refine cN 12 dn (by omega) rfl ?_))
  | ((with_reducible refine aa (some 11) (.load 96 (.tmp 10)) ?_);refine ay 0 hm rfl rfl _ dn rfl 12 dm (HLN.out) ?_)
  | ((with_reducible refine aa none (.store 96 (.tmp 4) (.tmp 11)) ?_);refine ap 2 (u8s (nonceOf p n)) hm rfl rfl rfl 12 dm (by simp [ab]) (HLN.out) (aq _) ?_;clear hm;intro w4 hm))
 exact aJ 2 hm rfl Tryz.results41 rfl _ dn rfl 12 dm HLN.out rfl ⟨rfl,hm.below⟩
open Go Go.RowKit
theorem run_bsl4s {P:Program} (w:World) {t elem:TypeId} (z v0 v1 v2 v3:Value) (hu:P.underlying t=some (.slice elem)) (hi:(P.info? elem).map (fun i=>(i.zero,i.size))=some (some z,1)) (hz:z.cells=#[z]) (h0:v0.cells=#[v0]) (h1:v1.cells=#[v1]) (h2:v2.cells=#[v2]) (h3:v3.cells=#[v3]) :
  (Instr.buildSlice t 4 #[(0,v0),(1,v1),(2,v2),(3,v3)]).run P w=.ok (.slice (some ⟨w.heap.size,0,none⟩) 4 4) (w.alloc (.cells [v0,v1,v2,v3].toArray elem)):=by
 obtain ⟨hz1,hs1⟩:=zero_of_info hi
 cases hq:P.info? elem with
 | none=>simp [hq] at hi
 | some q =>
  have hs:q.size=1:=by simpa [hq] using hs1
  have e:Array.map (fun x=>([z][x % 1]?).getD default) (Array.range 4)=#[z,z,z,z]:=by
   apply Array.ext
   ·simp
   ·intro i h1 h2
    have h3:i=0∨i=1∨i=2∨i=3:=by
     have:i<4:=by simpa using h2
     omega
    rcases h3 with rfl|rfl|rfl|rfl<;>simp
  simp [Instr.buildSlice,run_underlying hu,sizeOf,typeInfo,hq,hs,hz1,hz,Instr.fill,h0,h1,h2,h3,newRow,newObj]
  rw [e]
  rfl
section
variable {P:Program} {ops:Array Oper} {rest:List Oper} {a:Act} {w w0 w':World} {Q:Exit→Act→World→Prop} {dst:Option Tmp} {typ:TypeId} {pos:String} {aft:Array Edge} {gd:Option (Nat×Bool)} {S:List Nat} {rows:List (Nat×List Value×TypeId)}
theorem dA {fn:Func} {R:Ending→World→Prop} {p u:Tmp} {ty:TypeId} (i:Nat) {g:Nat} {l:List Value} {t:TypeId} (v:Value) (hm:Mem w0 S w rows) (hi:rows[i]?=some (g,l,t))
  (hres:fn.results=#[.cell p ty,.tmp u]) (hp:a.tmps.getD p undef=.pointer (some ⟨g,0,none⟩)) (hv:a.tmps.getD u undef=v) (d:TypeDesc) (hu:P.underlying ty=some d) (hd:(match d with | .struct _ | .array _ _=>true|_=>false)=true)
  (n:Nat) (hs:(P.info? ty).map (·.size)=some n) (hn:l.length=n) (hd0:a.defers=[]) (hR:R (.returned (.tuple #[.agg l.toArray,v])) w):bodyPost P fn R .ret a w:=by
 refine bodyPost_ret ?_ hd0 hR
 rw [results_cell_tmp hres,hp,hv]
 have hl:=run_loadVar_row (P:=P) w g t ty l.toArray (0,0) d (hm.get i hi) hu hd (by rw [hs];simp [hn])
 simp [asAddr,hl]
theorem ret_tc {fn:Func} {R:Ending→World→Prop} {p u:Tmp} {ty:TypeId} (i:Nat) {g:Nat} {l:List Value} {t:TypeId} (v:Value) (hm:Mem w0 S w rows) (hi:rows[i]?=some (g,l,t))
  (hres:fn.results=#[.tmp u,.cell p ty]) (hp:a.tmps.getD p undef=.pointer (some ⟨g,0,none⟩)) (hv:a.tmps.getD u undef=v) (d:TypeDesc) (hu:P.underlying ty=some d) (hd:(match d with | .struct _ | .array _ _=>true|_=>false)=true)
  (n:Nat) (hs:(P.info? ty).map (·.size)=some n) (hn:l.length=n) (hd0:a.defers=[]) (hR:R (.returned (.tuple #[v,.agg l.toArray])) w):bodyPost P fn R .ret a w:=by
 refine bodyPost_ret ?_ hd0 hR
 have hl:=run_loadVar_row (P:=P) w g t ty l.toArray (0,0) d (hm.get i hi) hu hd (by rw [hs];simp [hn])
 have hp':a.tmps[p]?.getD undef=.pointer (some ⟨g,0,none⟩):=by simpa using hp
 have hv':a.tmps[u]?.getD undef=v:=by simpa using hv
 simp [results,hres,hp',hv',asAddr,hl]
theorem ge {ty:TypeId} (z:List Value) (hz:∀w,(zeroValue ty).run P w=.ok (.agg z.toArray) w) (hm:Mem w0 S w rows)
  (h:∀w' g,Below w.heap.size w w'→Mem w0 S w' ((g,z,ty)::rows)→wpList P ops Q rest (a.put dst (.pointer (some ⟨g,0,none⟩))) w') :
  wpList P ops Q ({dst:=dst,op:=.alloc ty,type:=typ,pos:=pos,after:=aft,guard:=none}::rest) a w:=by
 refine wpList_plain rfl fun K hK=>?_
 have hh:=hK _ _ (h _ _ ((Below.refl _ _).alloc (Nat.le_refl _) _) (hm.alloc z ty))
 unfold Oper.wp execOp
 simp [go_sem,hz,newVar,newObj,Value.cells]
 exact hh
/-- A row of the call's own is turned, and no longer spoken of. -/
theorem Mem.lose {g:Nat} {l:List Value} {t:TypeId} (hm:Mem w0 S w ((g,l,t)::rows)) (hu:Upd g w w'):Mem w0 S w' rows:=by
 refine ⟨hu.os.trans hm.os,hu.tape.trans hm.tape,hu.output.trans hm.output,Nat.le_trans hm.size hu.size,fun k hk hn=>?_,fun r hr=>?_,(hm.tail).nodup,(hm.tail).fresh⟩
 ·have hf:=hm.fresh _ (List.mem_cons_self ..)
  refine (hu.block k (Nat.lt_of_lt_of_le hk hm.size) (fun e=>?_)).trans (hm.block k hk hn)
  subst e
  rcases hf with hf|hf
  ·exact hn hf
  ·exact absurd hk (Nat.not_lt.2 hf)
 ·refine hu.row ((hm.tail).row r hr) (fun e=>?_)
  have hd:=hm.nodup
  simp only [List.map_cons,List.nodup_cons] at hd
  exact hd.1 (e▸List.mem_map_of_mem hr)
theorem upd_freeze (g k:Nat) (w:World):Upd g w (w.freeze ⟨g,k,none⟩ 1):=by
 unfold World.freeze
 rw [if_neg (by decide)]
 refine ⟨rfl,rfl,rfl,?_,fun i hi hn=>?_⟩
 ·simp
 ·simp only [Array.getElem?_modify]
  rw [if_neg (fun h=>hn h.symm)]
theorem seg_freeze {g k:Nat} {cs:List Int} {t:TypeId} (hr:Row w g (u8s cs) t):Seg (w.freeze ⟨g,k,none⟩ 1) g 0 cs:=by
 have hh:(w.freeze ⟨g,k,none⟩ 1).heap[g]?=some (.cells (u8s cs).toArray t (k,k+1)):=by
  unfold World.freeze
  rw [if_neg (by decide)]
  simp only [Array.getElem?_modify]
  rw [if_pos trivial,hr]
  rfl
 intro j hj
 rw [cell_of_row _ _ _ _ _ _ hh,Nat.zero_add]
 simpa using cP cs j hj
/-- A constant string's bytes: the row that holds them gets its mark. -/
theorem dH {t e:TypeId} {x:Operand} (cs:List Int) (hw:Region.wanted {dst:=dst,op:=.convert t t x,type:=typ,pos:=pos,after:=aft,guard:=gd} (yielded ops a.tmps)=true) (ht:P.underlying t=some (.slice e)) (he:P.underlying e=some (.int .u8)) {g n:Nat} (hx:a.eval x=.slice (some ⟨g,0,none⟩) n n) (hn:n=cs.length) (hm:Mem w0 S w ((g,u8s cs,e)::rows))
  (h:∀w',Mem w0 S w' rows→SlOld w' (.slice (some ⟨g,0,none⟩) n n) cs→wpList P ops Q rest (a.put dst (.slice (some ⟨g,0,none⟩) n n)) w') :
  wpList P ops Q ({dst:=dst,op:=.convert t t x,type:=typ,pos:=pos,after:=aft,guard:=gd}::rest) a w:=by
 subst hn
 have hr:=hm.get 0 rfl
 have hsh:w.shape? g=some (e,cs.length):=by
  unfold World.shape?
  rw [hr]
  simp [ab]
 have hrun:(convert t t (.slice (some ⟨g,0,none⟩) cs.length cs.length)).run P w=.ok (.slice (some ⟨g,0,none⟩) cs.length cs.length) (w.freeze ⟨g,cs.length,none⟩ 1):=by
  simp [convert,run_underlying ht,run_underlying he,markStringish,hsh]
 refine wpList_step fun K hK=>?_
 rw [if_pos hw]
 have hh:=hK _ _ (h _ (hm.lose (upd_freeze g cs.length w)) ⟨_,_,rfl,Nat.le_refl _,fun _=>⟨g,0,rfl,seg_freeze hr⟩⟩)
 unfold Oper.wp execOp
 simp only [hx,hrun,Sem.run_bind,Sem.run_pure,Result.andThen_ok]
 exact hh
theorem ey {t e:TypeId} (hu:P.underlying t=some (.slice e)) (hi:(P.info? e).map (fun i=>(i.zero,i.size))=some (some (.int .u8 0),1)) (hm:Mem w0 S w rows)
  (h:∀w' g,Mem w0 S w' ((g,u8s labWrap,e)::rows)→Below w.heap.size w w'→wpList P ops Q rest (a.put dst (.slice (some ⟨g,0,none⟩) 4 4)) w') :
  wpList P ops Q ({dst:=dst,op:=.buildSlice t 4 #[(0,.const (.int .u8 119)),(1,.const (.int .u8 114)),(2,.const (.int .u8 97)),(3,.const (.int .u8 112))],type:=typ,pos:=pos,after:=aft,guard:=none}::rest) a w:=by
 refine wpList_plain rfl fun K hK=>?_
 have hh:=hK _ _ (h _ _ (hm.alloc (u8s labWrap) e) ((Below.refl _ _).alloc (Nat.le_refl _) _))
 have hc:∀z:Int,a.eval (.const (.int .u8 z))=.int .u8 z:=fun _=>rfl
 unfold Oper.wp execOp
 simp only [List.map_toArray,List.map_cons,List.map_nil,hc,run_bsl4s (P:=P) w (.int .u8 0) (.int .u8 119) (.int .u8 114) (.int .u8 97) (.int .u8 112) hu hi rfl rfl rfl rfl rfl,Sem.run_bind,Sem.run_pure,Result.andThen_ok]
 exact hh
theorem i8 (w:World) (t e:TypeId) (n:Nat) (k:IntKind) (ht:P.underlying t=some (.array n e)) (he:P.underlying e=some (.int k)) (hs:(P.info? e).map (·.size)=some 1) (xs ys:List Int) (hx:xs.length=n) (hy:ys.length=n) :
  (binOp .neq t (.agg (xs.map (Value.int k)).toArray) (.agg (ys.map (Value.int k)).toArray)).run P w=.ok (.bool (!decide (xs=ys))) w:=by
 have h:=iH (P:=P) w 9998 t e n k ht he hs xs ys hx hy
 have h2:(Op.equal t (.agg (xs.map (Value.int k)).toArray) (.agg (ys.map (Value.int k)).toArray)).run P w=.ok (decide (xs=ys)) w:=h
 simp only [binOp,Sem.run_bind,h2,Result.andThen_ok,Sem.run_pure]
theorem exec_nea {t:TypeId} {x y:Operand} {rt:TypeId} (e:TypeId) (n:Nat) (k:IntKind) (xs ys:List Int) (v:Bool) (hv:(!decide (xs=ys))=v) (hx:a.eval x=.agg (xs.map (Value.int k)).toArray) (hy:a.eval y=.agg (ys.map (Value.int k)).toArray) (ht:P.underlying t=some (.array n e)) (he:P.underlying e=some (.int k)) (hs:(P.info? e).map (·.size)=some 1) (hm:P.eqGuardType P.depth t=false) (h1:xs.length=n) (h2:ys.length=n) :
  (execOp a.eval {dst:=dst,op:=.binOp .neq t x y rt,type:=typ,pos:=pos,after:=aft,guard:=gd}).run P w=.ok (.value (.bool v)) w:=by
 subst hv
 unfold execOp
 simp only [hx,hy,Sem.run_bind,run_eqGuard_agg w .neq t x y _ _ hm,Sem.run_pure,Result.andThen_ok,i8 w t e n k ht he hs xs ys h1 h2]
theorem Mem.two' {a b c:Nat×List Value×TypeId} (hm:Mem w0 S w (a::b::c::rows)):Mem w0 S w (a::c::rows):=hm.sub (List.Sublist.cons_cons _ (List.sublist_cons_self _ _))
end
open Go Go.RowKit
theorem i7 (ks ns ms:List Int) (v:Value) (hkl:ks.length=32) (hnl:ns.length=12) (hkb:Bytes ks) (hnb:Bytes ns) (hml:ms.length≤60000) (w:World) (ht:Tab w) (hq:QTab w) (hv:SlOld w v ms) :
  Calls Tryz.prog 53 #[.agg (u8s ks).toArray,.agg (u8s ns).toArray,v] w fun e w'=>∃g,e=.returned (.slice (some ⟨g,0,none⟩) ms.length ms.length)∧w.heap.size≤g∧Row w' g (u8s (encOf ks ns ms)) 5∧Below w.heap.size w w':=by
 obtain ⟨p,cap,rfl,hcap⟩:=hv.len
 have hm:=Mem.start w
 have HT:Hid _:=ht
 have HKL:Hid _:=hkl
 have HNL:Hid _:=hnl
 have HKB:Hid _:=hkb
 have HNB:Hid _:=hnb
 have HKU:Hid ((u8s ks).length=32):=by show _=_;rw [ab];exact hkl
 have HNU:Hid ((u8s ns).length=12):=by show _=_;rw [ab];exact hnl
 have HQ:Hid _:=hq
 have HV:Hid (SlOld w (.slice p ms.length cap) ms):=hv
 obtain ⟨E,hE⟩:∃E,E=encKey ks:=⟨_,rfl⟩
 have HEE:Hid (∀_:Unit,deriveOf ks (strB {data:=#[101,110,99]}) 0=E):=fun _=>hE.symm
 have HEL:Hid (E.length=32):=by show _=_;rw [hE,encKey,bW]
 have HEB:Hid (Bytes E):=by rw [hE];exact fe _ _ _
 have HXE:Hid (∀_:Unit,xorOf E ns 1 ms=encOf ks ns ms):=fun _=>by rw [hE];rfl
 clear ht hq hkl hnl hkb hnb hv hE
 go_enter Tryz.func53,Tryz.ntmps53
 go_wp2_with (first
  | ((with_reducible refine aa (some 3) (.box 39 (.tmp 0)) ?_);refine aB (u8s ks) rfl hm ?_;clear hm;intro w1 g3 hm)
  | ((with_reducible refine aa (some 4) (.box 96 (.tmp 1)) ?_);refine aB (u8s ns) rfl hm ?_;clear hm;intro w2 g4 hm))
 refine au ?_
 refine a6 (T:=fun W=>Mem w [] W [(g4,u8s ns,96),(g3,u8s ks,39)]) (by kernel_rfl) hm ?_
 clear hm
 intro w3 hm
 refine aG 0 (v:=.agg (u8s ks).toArray) rfl (by kernel_rfl) rfl (fun W hW=>ao 0 _ (Mem.get hW 1 rfl) rfl _ aS rfl 32 az (by rw [HKU.out];omega) (by rw [List.drop_zero,List.take_of_length_le (Nat.le_of_eq HKU.out)])) hm ?_
 go_simp
 refine aG 2 (v:=.agg (u8s ns).toArray) rfl (by kernel_rfl) rfl (fun W hW=>ao 0 _ (Mem.get hW 0 rfl) rfl _ dn rfl 12 dm (by rw [HNU.out];omega) (by rw [List.drop_zero,List.take_of_length_le (Nat.le_of_eq HNU.out)])) hm ?_
 go_simp
 refine aG 3 (v:=.slice p ms.length cap) rfl (by kernel_rfl) rfl (fun W _=>by go_simp) hm ?_
 go_simp
 refine aP 1 (by kernel_rfl) rfl rfl ?_
 intro K hK
 go_wp2_with (go_at_call 64;refine (jn ks _ 0 HKL.out HKB.out (by decide) (by omega) _ (Tab.mem HT.out hm (by simp))).mono ?_;rintro e w4 ⟨he,hb⟩;rw [HEE.out ()] at he;subst he;replace hm:=hm.call hb;clear hb)
 refine hK _ _ hm ?_
 clear hK K
 refine aP 4 (by kernel_rfl) rfl rfl ?_
 intro K hK
 go_wp2_with (go_at_call 63;refine (xor_any E ns ms 1 _ HEL.out HNL.out HEB.out HNB.out ⟨by omega,by omega⟩ hml _ (QTab.mem HQ.out hm (by simp)) (SlOld.mem HV.out hm)).mono ?_;rintro e w5 ⟨g,he,hge,hr,hb⟩;subst he;rw [HXE.out ()] at hr;replace hm:=hm.callNew hb hr hge;clear hb hr hge)
 refine hK _ _ hm.tail ?_
 clear hK K
 refine aG 5 (v:=.slice (some ⟨g,0,none⟩) ms.length ms.length) rfl (by kernel_rfl) rfl (fun W _=>by go_simp) hm.tail ?_
 go_simp
 refine wpAnyH_done (by kernel_rfl) ?_ _
 simp only [endsIn]
 go_wp2_with fail
 go_ret
 have hf:=hm.fresh _ (List.mem_cons_self ..)
 exact ⟨g,rfl,by simpa using hf,hm.get 0 rfl,hm.below⟩
theorem ir (ns ds cs:List Int) (va vc:Value) (hnl:ns.length=12) (hal:ds.length≤20000) (hcl:cs.length≤20000) (w:World) (hva:SlOld w va ds) (hvc:SlOld w vc cs) :
  Calls Tryz.prog 65 #[.agg (u8s ns).toArray,va,vc] w fun e w'=>∃v',e=.returned v'∧SlOld w' v' (msgOf ns ds cs)∧Below w.heap.size w w':=by
 obtain ⟨pa,ca,rfl,_⟩:=hva.len
 obtain ⟨pc,cc,rfl,_⟩:=hvc.len
 have hm:=Mem.start w
 have HNL:Hid _:=hnl
 have HA:Hid (SlOld w (.slice pa ds.length ca) ds):=hva
 have HC:Hid (SlOld w (.slice pc cs.length cc) cs):=hvc
 have HWR:Hid (IntKind.u64.wrap (ds.length:Int)=(ds.length:Int)):=hO _ (by omega) (by omega)
 have hty:∀(g:Nat),∀r∈[(g,u8s ns,(96:TypeId))],r.2.2≠5:=by
  intro g r hr
  simp only [List.mem_cons,List.not_mem_nil,or_false] at hr
  subst hr
  simp
 have HTY:Hid _:=hty
 clear hva hvc hnl hty
 go_enter Tryz.func65,Tryz.ntmps65
 go_wp2_with (first
  | ((with_reducible refine aa (some 3) (.box 96 (.tmp 0)) ?_);refine aB (u8s ns) rfl hm ?_;clear hm;intro w1 g3 hm)
  | ((with_reducible refine aa (some 15) (.makeSlice 33 (.const (.int .i64 0)) (.tmp 14)) ?_);go_must (refine wpl_makeE _ aU _ bZ rfl (8+ds.length+12+cs.length) rfl rfl (by first|rfl|omega|go_num) (by omega) hm ?_);clear hm;intro w2 g15 hm;have HO0:Hid (OwnB 5 w2 w.heap.size (.slice (some ⟨g15,0,none⟩) 0 (8+ds.length+12+cs.length)) []):=own_empty (hm.get 0 rfl) (by have hf:=hm.fresh _ (List.mem_cons_self ..);simpa using hf) (by omega);replace hm:=hm.tail)
  | (go_at_call 55;refine (fG _ _).mono ?_;rintro e w3 ⟨g20,rfl,hge,hr,hb⟩;have HO1:Hid (OwnB 5 w3 w.heap.size (.slice (some ⟨g15,0,none⟩) 0 (8+ds.length+12+cs.length)) []):=OwnB.below HO0.out hb;have HR:Hid _:=hr;replace hm:=hm.call hb;clear hge hr hb HO0)
  | ((with_reducible refine aa (some 21) (.call {callee:=.builtin .append,args:=#[.tmp 16,.tmp 20],argTypes:=#[33,33]}) ?_);go_must (refine eI rfl aU bZ (be8 (ds.length:Int)) hm HO1.out (HTY.out _) rfl rfl rfl (fun _=>⟨g20,0,rfl,Seg.row HR.out⟩) (by simp [bx]) ?_);clear hm;intro v21 w4 ho hm;have HO2:Hid (OwnB 5 w4 w.heap.size v21 ([]++be8 (ds.length:Int))):=ho;clear ho HO1 HR)
  | ((with_reducible refine aa (some 24) (.call {callee:=.builtin .append,args:=#[.tmp 22,.tmp 23],argTypes:=#[33,33]}) ?_);go_must (refine eI rfl aU bZ ds hm HO2.out (HTY.out _) rfl rfl rfl (SlOld.mem HA.out hm).src0.2.2 (by simp [bx];omega) ?_);clear hm;intro v24 w5 ho hm;have HO3:Hid (OwnB 5 w5 w.heap.size v24 ([]++be8 (ds.length:Int)++ds)):=ho;clear ho HO2)
  | ((with_reducible refine aa (some 27) (.call {callee:=.builtin .append,args:=#[.tmp 25,.tmp 26],argTypes:=#[33,33]}) ?_);go_must (refine eI rfl aU bZ ns hm HO3.out (HTY.out _) rfl rfl HNL.out.symm (fun _=>⟨g3,0,rfl,Seg.row (hm.get 0 rfl)⟩) (by simp [bx,HNL.out];omega) ?_);clear hm;intro v27 w6 ho hm;have HO4:Hid (OwnB 5 w6 w.heap.size v27 ([]++be8 (ds.length:Int)++ds++ns)):=ho;clear ho HO3)
  | ((with_reducible refine aa (some 30) (.call {callee:=.builtin .append,args:=#[.tmp 28,.tmp 29],argTypes:=#[33,33]}) ?_);go_must (refine eI rfl aU bZ cs hm HO4.out (HTY.out _) rfl rfl rfl (SlOld.mem HC.out hm).src0.2.2 (by simp [bx,HNL.out];omega) ?_);clear hm;intro v30 w7 ho hm;have HO5:Hid (OwnB 5 w7 w.heap.size v30 ([]++be8 (ds.length:Int)++ds++ns++cs)):=ho;clear ho HO4))
 go_ret
 exact ⟨v30,rfl,OwnB.old HO5.out,hm.below⟩
theorem tag_any (ks ns ds cs:List Int) (va vc:Value) (hkl:ks.length=32) (hnl:ns.length=12) (hkb:Bytes ks) (hnb:Bytes ns) (hdb:Bytes ds) (hcb:Bytes cs) (hal:ds.length≤20000) (hcl:cs.length≤20000) (w:World) (ht:Tab w) (hva:SlOld w va ds) (hvc:SlOld w vc cs) :
  Calls Tryz.prog 54 #[.agg (u8s ks).toArray,.agg (u8s ns).toArray,va,vc] w fun e w'=>e=.returned (.agg (u8s (tagOf ks ns ds cs)).toArray)∧Below w.heap.size w w':=by
 obtain ⟨pa,ca,rfl,_⟩:=hva.len
 obtain ⟨pc,cc,rfl,_⟩:=hvc.len
 have hm:=Mem.start w
 have HT:Hid _:=ht
 have HKL:Hid _:=hkl
 have HNL:Hid _:=hnl
 have HKB:Hid _:=hkb
 have HNB:Hid _:=hnb
 have HKU:Hid ((u8s ks).length=32):=by show _=_;rw [ab];exact hkl
 have HNU:Hid ((u8s ns).length=12):=by show _=_;rw [ab];exact hnl
 have HA:Hid (SlOld w (.slice pa ds.length ca) ds):=hva
 have HC:Hid (SlOld w (.slice pc cs.length cc) cs):=hvc
 obtain ⟨E,hE⟩:∃E,E=macKey ks:=⟨_,rfl⟩
 have HEE:Hid (∀_:Unit,deriveOf ks (strB {data:=#[109,97,99]}) 0=E):=fun _=>hE.symm
 have HEL:Hid (E.length=32):=by show _=_;rw [hE,macKey,bW]
 have HEU:Hid ((u8s E).length=32):=by show _=_;rw [ab];exact HEL.out
 have HEB:Hid (Bytes E):=by rw [hE];exact fe _ _ _
 obtain ⟨M,hM⟩:∃M,M=msgOf ns ds cs:=⟨_,rfl⟩
 have HMM:Hid (∀_:Unit,msgOf ns ds cs=M):=fun _=>hM.symm
 have HMB:Hid (Bytes M):=by rw [hM];exact msgOf_bytes hnb hdb hcb
 have HML:Hid (M.length≤500000):=by show _≤_;rw [hM,msgOf_length];omega
 obtain ⟨X,hX⟩:∃X,X=macOf E M:=⟨_,rfl⟩
 have HXX:Hid (∀_:Unit,macOf E M=X):=fun _=>hX.symm
 have HXL:Hid ((u8s X).length=32):=by show _=_;rw [ab,hX,bw]
 obtain ⟨G,hG⟩:∃G,G=tagOf ks ns ds cs:=⟨_,rfl⟩
 have HGG:Hid (∀_:Unit,tagOf ks ns ds cs=G):=fun _=>hG.symm
 have HGL:Hid ((u8s G).length=16):=by show _=_;rw [ab,hG,df]
 have HXG:Hid (((u8s X).drop 0).take 16=u8s G):=by show _=_;rw [hG,hX,hE,hM,List.drop_zero];simp [tagOf,u8s,List.map_take]
 clear ht hkl hnl hkb hnb hva hvc hE hM hX hG
 go_enter Tryz.func54,Tryz.ntmps54
 go_wp2_with (first
  | ((with_reducible refine aa (some 4) (.box 39 (.tmp 0)) ?_);refine aB (u8s ks) rfl hm ?_;clear hm;intro w1 g4 hm)
  | ((with_reducible refine aa (some 5) (.box 96 (.tmp 1)) ?_);refine aB (u8s ns) rfl hm ?_;clear hm;intro w2 g5 hm)
  | ((with_reducible refine aa (some 8) (.alloc 109) ?_);refine aj _ e7 hm ?_;clear hm;intro w3 g8 hm)
  | ((with_reducible refine aa (some 11) (.load 39 (.tmp 4)) ?_);refine ay 2 hm rfl rfl _ aS rfl 32 az (HKU.out) ?_)
  | (go_at_call 64;refine (jn ks _ 0 HKL.out HKB.out (by decide) (by omega) _ (Tab.mem HT.out hm (by simp))).mono ?_;rintro e w4 ⟨he,hb⟩;rw [HEE.out ()] at he;subst he;replace hm:=hm.call hb;clear hb)
  | ((with_reducible refine aa (some 9) (.alloc 39) ?_);refine aj _ bd hm ?_;clear hm;intro w5 g9 hm)
  | ((with_reducible refine aa none (.store 39 (.tmp 9) (.tmp 12)) ?_);refine ap 0 (u8s E) hm rfl rfl rfl 32 az (by simp [ab]) (HEU.out) (aq _) ?_;clear hm;intro w6 hm))
 refine au ?_
 refine a6 (T:=fun W=>Mem w [] W [(g9,u8s E,39),(g8,u8s (List.replicate 16 0),109),(g5,u8s ns,96),(g4,u8s ks,39)]) (by kernel_rfl) hm ?_
 clear hm
 intro w7 hm
 refine aG 0 (v:=.slice (some ⟨g9,0,none⟩) 32 32) rfl (by kernel_rfl) rfl (fun W _=>by go_simp) hm ?_
 go_simp
 refine aG 1 (v:=.agg (u8s ns).toArray) rfl (by kernel_rfl) rfl (fun W hW=>ao 0 _ (Mem.get hW 2 rfl) rfl _ dn rfl 12 dm (by rw [HNU.out];omega) (by rw [List.drop_zero,List.take_of_length_le (Nat.le_of_eq HNU.out)])) hm ?_
 go_simp
 refine aG 2 (v:=.slice pa ds.length ca) rfl (by kernel_rfl) rfl (fun W _=>by go_simp) hm ?_
 go_simp
 refine aG 3 (v:=.slice pc cs.length cc) rfl (by kernel_rfl) rfl (fun W _=>by go_simp) hm ?_
 go_simp
 refine wpAnyH_all (rs:=[4,6]) (by kernel_rfl) (by simp) ?_
 intro i hi
 simp only [List.mem_cons,List.not_mem_nil,or_false] at hi
 rcases hi with rfl|rfl
 ·refine aF 4 rfl rfl ?_
  intro K hK
  go_wp2_with (go_at_call 65;refine (ir ns ds cs _ _ HNL.out hal hcl _ (SlOld.mem HA.out hm) (SlOld.mem HC.out hm)).mono ?_;rintro e wm ⟨vm,he,hs,hb⟩;subst he;rw [HMM.out ()] at hs;have HS:Hid (SlOld wm vm M):=hs;replace hm:=hm.call hb;clear hb hs)
  refine hK _ _ hm ?_
  clear hK K
  refine wpAnyH_all (rs:=[5,6]) (by kernel_rfl) (by simp) ?_
  intro i hi
  simp only [List.mem_cons,List.not_mem_nil,or_false] at hi
  rcases hi with rfl|rfl
  ·refine aF 5 rfl rfl ?_
   intro K hK
   obtain ⟨pm,cm,hvm,_⟩:=HS.out.len
   subst hvm
   go_wp2_with (go_at_call 56;refine (iF E M _ _ HEB.out HMB.out (by rw [HEL.out];omega) HML.out _ (Tab.mem HT.out hm (by simp)) (bB (hm.get 0 rfl) HEL.out (Nat.le_refl _)) HS.out).mono ?_;rintro e wx ⟨he,hb⟩;rw [HXX.out ()] at he;subst he;replace hm:=hm.call hb;clear hb)
   refine hK _ _ hm ?_
   clear hK K
   refine aP 6 (by kernel_rfl) rfl rfl ?_
   intro K hK
   refine ge _ cd hm ?_
   clear hm
   intro wa g10 hb hm
   clear hb
   refine wpList_nil ?_
   refine hK _ _ hm.tail ?_
   clear hK K
   refine aP 7 (by kernel_rfl) rfl rfl ?_
   intro K hK
   refine ap 0 (u8s X) hm rfl rfl rfl 32 b8 (by simp [ab]) HXL.out (aq _) ?_
   clear hm
   intro wz hm
   refine wpList_nil ?_
   refine hK _ _ hm.tail ?_
   clear hK K
   refine wpAnyH_done (by kernel_rfl) ?_ _
   simp only [endsIn]
   go_wp2_with (first
    | ((with_reducible refine aa (some 20) (.sliceToArrayPointer 109 (.tmp 19)) ?_);go_must (refine cN 16 cI (by omega) rfl ?_))
    | ((with_reducible refine aa (some 21) (.load 109 (.tmp 20)) ?_);refine eO 0 0 (u8s G) hm rfl rfl _ cI rfl 16 cA (by rw [HXL.out];omega) (HXG.out) ?_)
    | ((with_reducible refine aa none (.store 109 (.tmp 8) (.tmp 21)) ?_);refine ap 2 (u8s G) hm rfl rfl rfl 16 cA (by simp [ab]) (HGL.out) (aq _) ?_;clear hm;intro wy hm))
   exact aJ 2 hm rfl Tryz.results54 rfl _ cI rfl 16 cA HGL.out rfl ⟨by rw [HGG.out ()],hm.below⟩
  ·refine aF 6 rfl rfl ?_
   intro K hK
   refine ge _ cd hm ?_
   clear hm
   intro wa g10 hb hm
   have HS':Hid (SlOld wa vm M):=SlOld.below HS.out hb
   clear HS hb
   have HS:=HS'
   refine wpList_nil ?_
   refine hK _ _ hm.tail ?_
   clear hK K
   refine aP 5 (by kernel_rfl) rfl rfl ?_
   intro K hK
   obtain ⟨pm,cm,hvm,_⟩:=HS.out.len
   subst hvm
   go_wp2_with (go_at_call 56;refine (iF E M _ _ HEB.out HMB.out (by rw [HEL.out];omega) HML.out _ (Tab.mem HT.out hm (by simp)) (bB (hm.get 1 rfl) HEL.out (Nat.le_refl _)) HS.out).mono ?_;rintro e wx ⟨he,hb⟩;rw [HXX.out ()] at he;subst he;replace hm:=hm.call hb;clear hb)
   refine hK _ _ hm.tail ?_
   clear hK K
   refine aP 7 (by kernel_rfl) rfl rfl ?_
   intro K hK
   refine ap 0 (u8s X) hm rfl rfl rfl 32 b8 (by simp [ab]) HXL.out (aq _) ?_
   clear hm
   intro wz hm
   refine wpList_nil ?_
   refine hK _ _ hm.tail ?_
   clear hK K
   refine wpAnyH_done (by kernel_rfl) ?_ _
   simp only [endsIn]
   go_wp2_with (first
    | ((with_reducible refine aa (some 20) (.sliceToArrayPointer 109 (.tmp 19)) ?_);go_must (refine cN 16 cI (by omega) rfl ?_))
    | ((with_reducible refine aa (some 21) (.load 109 (.tmp 20)) ?_);refine eO 0 0 (u8s G) hm rfl rfl _ cI rfl 16 cA (by rw [HXL.out];omega) (HXG.out) ?_)
    | ((with_reducible refine aa none (.store 109 (.tmp 8) (.tmp 21)) ?_);refine ap 2 (u8s G) hm rfl rfl rfl 16 cA (by simp [ab]) (HGL.out) (aq _) ?_;clear hm;intro wy hm))
   exact aJ 2 hm rfl Tryz.results54 rfl _ cI rfl 16 cA HGL.out rfl ⟨by rw [HGG.out ()],hm.below⟩
 ·refine aF 6 rfl rfl ?_
  intro K hK
  refine ge _ cd hm ?_
  clear hm
  intro wa g10 hb hm
  clear hb
  refine wpList_nil ?_
  refine hK _ _ hm.tail ?_
  clear hK K
  refine aP 4 (by kernel_rfl) rfl rfl ?_
  intro K hK
  go_wp2_with (go_at_call 65;refine (ir ns ds cs _ _ HNL.out hal hcl _ (SlOld.mem HA.out hm) (SlOld.mem HC.out hm)).mono ?_;rintro e wm ⟨vm,he,hs,hb⟩;subst he;rw [HMM.out ()] at hs;have HS:Hid (SlOld wm vm M):=hs;replace hm:=hm.call hb;clear hb hs)
  refine hK _ _ hm.tail ?_
  clear hK K
  refine aP 5 (by kernel_rfl) rfl rfl ?_
  intro K hK
  obtain ⟨pm,cm,hvm,_⟩:=HS.out.len
  subst hvm
  go_wp2_with (go_at_call 56;refine (iF E M _ _ HEB.out HMB.out (by rw [HEL.out];omega) HML.out _ (Tab.mem HT.out hm (by simp)) (bB (hm.get 1 rfl) HEL.out (Nat.le_refl _)) HS.out).mono ?_;rintro e wx ⟨he,hb⟩;rw [HXX.out ()] at he;subst he;replace hm:=hm.call hb;clear hb)
  refine hK _ _ hm.tail ?_
  clear hK K
  refine aP 7 (by kernel_rfl) rfl rfl ?_
  intro K hK
  refine ap 0 (u8s X) hm rfl rfl rfl 32 b8 (by simp [ab]) HXL.out (aq _) ?_
  clear hm
  intro wz hm
  refine wpList_nil ?_
  refine hK _ _ hm.tail ?_
  clear hK K
  refine wpAnyH_done (by kernel_rfl) ?_ _
  simp only [endsIn]
  go_wp2_with (first
   | ((with_reducible refine aa (some 20) (.sliceToArrayPointer 109 (.tmp 19)) ?_);go_must (refine cN 16 cI (by omega) rfl ?_))
   | ((with_reducible refine aa (some 21) (.load 109 (.tmp 20)) ?_);refine eO 0 0 (u8s G) hm rfl rfl _ cI rfl 16 cA (by rw [HXL.out];omega) (HXG.out) ?_)
   | ((with_reducible refine aa none (.store 109 (.tmp 8) (.tmp 21)) ?_);refine ap 2 (u8s G) hm rfl rfl rfl 16 cA (by simp [ab]) (HGL.out) (aq _) ?_;clear hm;intro wy hm))
  exact aJ 2 hm rfl Tryz.results54 rfl _ cI rfl 16 cA HGL.out rfl ⟨by rw [HGG.out ()],hm.below⟩
theorem ju (ks ns ds ms:List Int) (va vp:Value) (hkl:ks.length=32) (hnl:ns.length=12) (hkb:Bytes ks) (hnb:Bytes ns) (hdb:Bytes ds) (hmb:Bytes ms) (hal:ds.length≤20000) (hml:ms.length≤20000) (w:World) (ht:Tab w) (hq:QTab w) (hva:SlOld w va ds) (hvp:SlOld w vp ms) :
  Calls Tryz.prog 40 #[.agg (u8s ks).toArray,.agg (u8s ns).toArray,va,vp] w fun e w'=>∃g cap l,e=.returned (.slice (some ⟨g,0,none⟩) (ms.length+16) cap)∧ms.length+16≤cap∧w.heap.size≤g∧Row w' g (u8s (sealOf ks ns ds ms)++l) 5∧Below w.heap.size w w':=by
 obtain ⟨pa,ca,rfl,_⟩:=hva.len
 obtain ⟨pp,cp,rfl,_⟩:=hvp.len
 have hm:=Mem.start w
 have HT:Hid _:=ht
 have HKL:Hid _:=hkl
 have HNL:Hid _:=hnl
 have HKB:Hid _:=hkb
 have HNB:Hid _:=hnb
 have HKU:Hid ((u8s ks).length=32):=by show _=_;rw [ab];exact hkl
 have HNU:Hid ((u8s ns).length=12):=by show _=_;rw [ab];exact hnl
 have HQ:Hid _:=hq
 have HDB:Hid _:=hdb
 have HA:Hid (SlOld w (.slice pa ds.length ca) ds):=hva
 have HP:Hid (SlOld w (.slice pp ms.length cp) ms):=hvp
 obtain ⟨C,hC⟩:∃C,C=encOf ks ns ms:=⟨_,rfl⟩
 have HCC:Hid (∀_:Unit,encOf ks ns ms=C):=fun _=>hC.symm
 have HCB:Hid (Bytes C):=by rw [hC];exact iz _ _ hmb
 have HCL:Hid (C.length=ms.length):=by show _=_;rw [hC,cH]
 obtain ⟨G,hG⟩:∃G,G=tagOf ks ns ds C:=⟨_,rfl⟩
 have HGG:Hid (∀_:Unit,tagOf ks ns ds C=G):=fun _=>hG.symm
 have HGL:Hid (G.length=16):=by show _=_;rw [hG,df]
 have HGU:Hid ((u8s G).length=16):=by show _=_;rw [ab];exact HGL.out
 have HSL:Hid (∀_:Unit,sealOf ks ns ds ms=C++G):=fun _=>by rw [hG,hC];rfl
 have hty:∀(a b c:Nat),∀r∈[(a,u8s G,(109:TypeId)),(b,u8s ns,(96:TypeId)),(c,u8s ks,(39:TypeId))],r.2.2≠5:=by
  intro a b c r hr
  simp only [List.mem_cons,List.not_mem_nil,or_false] at hr
  rcases hr with rfl|rfl|rfl<;>simp
 have HTY:Hid _:=hty
 clear ht hq hkl hnl hkb hnb hdb hmb hva hvp hC hG hty
 go_enter Tryz.func40,Tryz.ntmps40
 go_wp2_with (first
  | ((with_reducible refine aa (some 4) (.box 39 (.tmp 0)) ?_);refine aB (u8s ks) rfl hm ?_;clear hm;intro w1 g4 hm)
  | ((with_reducible refine aa (some 5) (.box 96 (.tmp 1)) ?_);refine aB (u8s ns) rfl hm ?_;clear hm;intro w2 g5 hm)
  | ((with_reducible refine aa (some 11) (.load 39 (.tmp 4)) ?_);refine ay 1 hm rfl rfl _ aS rfl 32 az (HKU.out) ?_)
  | ((with_reducible refine aa (some 12) (.load 96 (.tmp 5)) ?_);refine ay 0 hm rfl rfl _ dn rfl 12 dm (HNU.out) ?_)
  | (go_at_call 53;refine (i7 ks ns ms _ HKL.out HNL.out HKB.out HNB.out (by omega) _ (Tab.mem HT.out hm (by simp)) (QTab.mem HQ.out hm (by simp)) (SlOld.mem HP.out hm)).mono ?_;rintro e w3 ⟨gc,he,hge,hr,hb⟩;subst he;rw [HCC.out ()] at hr;replace hm:=hm.callNew hb hr hge;clear hb hr hge)
  | ((with_reducible refine aa (some 15) (.load 39 (.tmp 4)) ?_);refine ay 2 hm rfl rfl _ aS rfl 32 az (HKU.out) ?_)
  | ((with_reducible refine aa (some 16) (.load 96 (.tmp 5)) ?_);refine ay 1 hm rfl rfl _ dn rfl 12 dm (HNU.out) ?_)
  | (go_at_call 54;refine (tag_any ks ns ds C _ _ HKL.out HNL.out HKB.out HNB.out HDB.out HCB.out hal (by rw [HCL.out];exact hml) _ (Tab.mem HT.out hm (by simp)) (SlOld.mem HA.out hm) (bB (hm.get 0 rfl) HCL.out (Nat.le_refl _))).mono ?_;rintro e w4 ⟨he,hb⟩;rw [HGG.out ()] at he;subst he;replace hm:=hm.call hb;clear hb)
  | ((with_reducible refine aa (some 10) (.alloc 109) ?_);refine aj _ e7 hm ?_;clear hm;intro w5 g10 hm)
  | ((with_reducible refine aa none (.store 109 (.tmp 10) (.tmp 19)) ?_);refine ap 0 (u8s G) hm rfl rfl rfl 16 cA (by simp [ab]) (HGU.out) (aq _) ?_;clear hm;intro w6 hm;have HOW:Hid (OwnB 5 w6 w.heap.size (.slice (some ⟨gc,0,none⟩) ms.length ms.length) C):=(by rw [←HCL.out];exact own_row (hm.get 1 rfl) (by have hf:=hm.fresh _ (List.mem_cons_of_mem _ (List.mem_cons_self ..));simpa using hf) (by rw [HCL.out];omega));replace hm:=hm.two')
  | ((with_reducible refine aa (some 22) (.call {callee:=.builtin .append,args:=#[.tmp 20,.tmp 21],argTypes:=#[33,33]}) ?_);go_must (refine eI rfl aU bZ G hm HOW.out (HTY.out _ _ _) rfl rfl HGL.out.symm (fun _=>⟨g10,0,rfl,Seg.row (hm.get 0 rfl)⟩) (by rw [HCL.out,HGL.out];omega) ?_);clear hm;intro v22 w7 ho hm;have HO:Hid (OwnB 5 w7 w.heap.size v22 (C++G)):=ho;clear ho HOW))
 go_ret
 obtain ⟨g,cap,l,hv,hge,hr,hc⟩:=OwnB.row HO.out (by rw [List.length_append,HGL.out];omega)
 rw [List.length_append,HGL.out,HCL.out] at hv hc
 exact ⟨g,cap,l,by rw [hv];rfl,hc,hge,by rw [HSL.out ()];exact hr,hm.below⟩
end Go.Proofs.YtnllomcajijbjaaGreatDoor
