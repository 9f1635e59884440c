import Derived.Test.YtmlbjfklaehjnaaGreatDoorQc04
import Derived.Test.YtmlbjfklaehjnaaGreatDoorQc05
import Derived.Test.YtmlbjfklaehjnaaGreatDoorQc03
import Derived.Test.YtmlbjfklaehjnaaGreatDoorQc06
import Derived.Test.YtmlbjfklaehjnaaGreatDoorQc01
set_option maxRecDepth 100000
set_option maxHeartbeats 4000000
namespace Go.Proofs.YtmlbjfklaehjnaaGreatDoor
open Go Go.RowKit
section
variable {P:Program} {md:Region.Mode} {ops:Array Oper} {R:Act→World→Prop} {T:World→Prop} {fuel:Nat} {listed:Array Bool} {a:Act} {w:World}
theorem aL (i:Nat) {o:Oper} (hi:ops[i]?=some o) (hw:Region.wanted o (yielded ops a.tmps)=true)
  (h:∀K:Act→World→Prop,(∀a' w',T w'→wpAnyH P md ops (endsIn R) T fuel (listed.setIfInBounds i true) a' w'→K a' w')→wpList P ops (endsIn K) [o] a w) :
  wpOp P ops (endsIn R) i (fun a' w'=>T w'∧wpAnyH P md ops (endsIn R) T fuel (listed.setIfInBounds i true) a' w') a w:=by
 have hh:=h (fun a' w'=>T w'∧wpAnyH P md ops (endsIn R) T fuel (listed.setIfInBounds i true) a' w') (fun _ _ h1 h2=>⟨h1,h2⟩)
 unfold wpOp
 simp only [hi]
 unfold wpList at hh
 rw [if_pos hw] at hh
 rw [if_pos hw]
 exact hh
theorem aO (i:Nat) {o:Oper} (hr:Region.ready md ops listed=[i]) (hi:ops[i]?=some o) (hw:Region.wanted o (yielded ops a.tmps)=true)
  (h:∀K:Act→World→Prop,(∀a' w',T w'→wpAnyH P md ops (endsIn R) T fuel (listed.setIfInBounds i true) a' w'→K a' w')→wpList P ops (endsIn K) [o] a w):wpAnyH P md ops (endsIn R) T (fuel+1) listed a w :=
 wpAnyH_all hr (by simp) (fun j hj=>by
  simp only [List.mem_cons,List.not_mem_nil,or_false] at hj
  subst hj
  exact aL j hi hw h)
theorem aC (i:Nat) {o:Oper} (hi:ops[i]?=some o) (hs:Region.noSelect ops=true) (hf:Region.free md ops listed i=true) (hr:(Region.ready md ops listed).contains i=true) (hw:Region.wanted o (yielded ops a.tmps)=false)
  (hT:T w) (h:wpAnyH P md ops (endsIn R) T fuel (listed.setIfInBounds i true) (a.put o.dst undef) w):wpAnyH P md ops (endsIn R) T (fuel+1) listed a w :=
 wpAnyH_take hi hs hf hr (fun _ _ _ h=>h) (Or.inr ⟨hw,rfl⟩) hT h
end
def cutHi (p:Option Addr) (cap:Nat):Option Addr:=if cap=0 then p else p.map (·.add 0)
def cutLo (p:Option Addr) (cap l:Nat):Option Addr:=if cap=l then p else p.map (·.add l)
theorem kz {w:World} {p:Option Addr} {n cap:Nat} {cs:List Int} (h:SlOld w (.slice p n cap) cs) (m:Nat) (hm:m≤n):SlOld w (.slice (cutHi p cap) m cap) (cs.take m):=by
 obtain ⟨hn,hc,hs⟩:=h.src0
 have hl:(cs.take m).length=m:=by rw [List.length_take];omega
 refine ⟨_,cap,by rw [hl],by rw [hl];omega,fun h0=>?_⟩
 rw [hl] at h0
 obtain ⟨b,off,rfl,hseg⟩:=hs (by omega)
 refine ⟨b,off,?_,hseg.take m⟩
 rw [cutHi,if_neg (by omega)]
 simp [aZ]
theorem kB {w:World} {p:Option Addr} {n cap:Nat} {cs:List Int} (h:SlOld w (.slice p n cap) cs) (l:Nat) (hl:l≤n):SlOld w (.slice (cutLo p cap l) (n - l) (cap - l)) (cs.drop l):=by
 obtain ⟨hn,hc,hs⟩:=h.src0
 have hd:(cs.drop l).length=n - l:=by rw [List.length_drop];omega
 refine ⟨_,cap - l,by rw [hd],by rw [hd];omega,fun h0=>?_⟩
 rw [hd] at h0
 obtain ⟨b,off,rfl,hseg⟩:=hs (by omega)
 refine ⟨b,off+l,?_,hseg.drop l⟩
 rw [cutLo,if_neg (by omega)]
 simp [aZ]
section
variable {P:Program} {a:Act} {w:World} {dst:Option Tmp} {typ:TypeId} {pos:String} {aft:Array Edge} {gd:Option (Nat×Bool)}
theorem dL {ty:TypeId} {x hi:Operand} {elem:TypeId} (hu:P.underlying ty=some (.slice elem)) (hs:(P.info? elem).map (·.size)=some 1) {p:Option Addr} {len cap:Nat} (m:Nat) {ih:Int} (hm:m≤cap) (hx:a.eval x=.slice p len cap) (hhi:a.eval hi=.int .i64 ih) (hih:ih=(m:Int)) :
  (execOp a.eval {dst:=dst,op:=.slice ty x none (some hi) none,type:=typ,pos:=pos,after:=aft,guard:=gd}).run P w=.ok (.value (.slice (cutHi p cap) m cap)) w:=by
 subst hih
 cases hq:P.info? elem with
 | none=>simp [hq] at hs
 | some q =>
  have hs1:q.size=1:=by simpa [hq] using hs
  have hsz:(sizeOf elem).run P w=.ok 1 w:=by simp [sizeOf,typeInfo,hq,hs1]
  have bnd:∀code,(Instr.sliceBound (.int .i64 (m:Int)) cap code).run P w=.ok m w:=by
   intro code
   rw [run_sliceBound (P:=P) w .i64 (m:Int) cap code (by omega) (by omega)]
   simp
  have hb:(Instr.sliceBounds true len cap none (some (.int .i64 (m:Int))) none).run P w=.ok (0,m,cap) w:=by
   simp [Instr.sliceBounds,bnd]
  have hr:(Instr.sliceAt ty (.slice p len cap) none (some (.int .i64 (m:Int))) none).run P w=.ok (.slice (cutHi p cap) m cap) w:=by
   simp [Instr.sliceAt,Instr.slice,run_underlying hu,hb,hsz,cutHi]
  unfold execOp
  simp only [hx,hhi,Option.map_some,Option.map_none,hr,Sem.run_bind,Sem.run_pure,Result.andThen_ok]
theorem cw {ty:TypeId} {x lo:Operand} {elem:TypeId} (hu:P.underlying ty=some (.slice elem)) (hs:(P.info? elem).map (·.size)=some 1) {p:Option Addr} {len cap:Nat} (l:Nat) {il:Int} (hl:l≤len) (hx:a.eval x=.slice p len cap) (hlo:a.eval lo=.int .i64 il) (hil:il=(l:Int)) :
  (execOp a.eval {dst:=dst,op:=.slice ty x (some lo) none none,type:=typ,pos:=pos,after:=aft,guard:=gd}).run P w=.ok (.value (.slice (cutLo p cap l) (len - l) (cap - l))) w:=by
 subst hil
 cases hq:P.info? elem with
 | none=>simp [hq] at hs
 | some q =>
  have hs1:q.size=1:=by simpa [hq] using hs
  have hsz:(sizeOf elem).run P w=.ok 1 w:=by simp [sizeOf,typeInfo,hq,hs1]
  have hb:(Instr.sliceBounds true len cap (some (.int .i64 (l:Int))) none none).run P w=.ok (l,len,cap) w:=by
   have:=run_sliceBound (P:=P) w .i64 (l:Int) len .sliceB (by omega) (by omega)
   simp [Instr.sliceBounds,this]
  have hr:(Instr.sliceAt ty (.slice p len cap) (some (.int .i64 (l:Int))) none none).run P w=.ok (.slice (cutLo p cap l) (len - l) (cap - l)) w:=by
   simp [Instr.sliceAt,Instr.slice,run_underlying hu,hb,hsz,cutLo]
  unfold execOp
  simp only [hx,hlo,Option.map_some,Option.map_none,hr,Sem.run_bind,Sem.run_pure,Result.andThen_ok]
end
open Go Go.RowKit
theorem info_tag:(Tryz.prog.info? 261).map (fun i=>(i.zero,i.size))=some (some (.agg (u8s (List.replicate 16 0)).toArray),16):=by kernel_rfl
theorem gO:∀w,(zeroValue 261).run Tryz.prog w=.ok (.agg (u8s (List.replicate 16 0)).toArray) w:=(zero_of_info info_tag).1
theorem cQ:(Tryz.prog.info? 261).map (·.size)=some 16:=(zero_of_info info_tag).2
theorem df:Tryz.prog.underlying 261=some (.array 16 5):=Tryz.underlying261
theorem eg_tag:Tryz.prog.eqGuardType Tryz.prog.depth 261=false:=by kernel_rfl
section
variable {P:Program} {ops:Array Oper} {rest:List Oper} {a:Act} {w w0:World} {Q:Exit→Act→World→Prop} {dst:Option Tmp} {typ:TypeId} {pos:String} {aft:Array Edge} {gd:Option (Nat×Bool)} {S:List Nat} {rows:List (Nat×List Value×TypeId)}
theorem exec_s2a {ty:TypeId} {x:Operand} (n:Nat) {elem:TypeId} (hu:P.underlying ty=some (.array n elem)) {p:Option Addr} {len cap:Nat} (hn:n≤len) (hx:a.eval x=.slice p len cap) :
  (execOp a.eval {dst:=dst,op:=.sliceToArrayPointer ty x,type:=typ,pos:=pos,after:=aft,guard:=gd}).run P w=.ok (.value (.pointer p)) w:=by
 have hr:(Instr.arrayAt ty (.slice p len cap)).run P w=.ok (.pointer p) w:=by
  simp [Instr.arrayAt,run_underlying hu,show ¬len<n by omega]
 unfold execOp
 simp only [hx,hr,Sem.run_bind,Sem.run_pure,Result.andThen_ok]
theorem fV {ty:TypeId} {x:Operand} (n:Nat) {elem:TypeId} (hu:P.underlying ty=some (.array n elem)) {p:Option Addr} {len cap:Nat} (hn:n≤len) (hx:a.eval x=.slice p len cap)
  (h:wpList P ops Q rest (a.put dst (.pointer p)) w):wpList P ops Q ({dst:=dst,op:=.sliceToArrayPointer ty x,type:=typ,pos:=pos,after:=aft,guard:=none}::rest) a w :=
 ae (.pointer p) rfl (exec_s2a n hu hn hx) h
/-- Bytes of a slice, loaded as an array. -/
theorem jK {ty:TypeId} {x:Operand} {g off:Nat} (cs:List Int) (hx:a.eval x=.pointer (some ⟨g,off,none⟩)) (hc:Seg w g off cs) (d:TypeDesc) (hu:P.underlying ty=some d) (hd:(match d with | .struct _ | .array _ _=>true|_=>false)=true) (n:Nat) (hs:(P.info? ty).map (·.size)=some n) (hn:cs.length=n) :
  (execOp a.eval {dst:=dst,op:=.load ty x,type:=typ,pos:=pos,after:=aft,guard:=gd}).run P w=.ok (.value (.agg (u8s cs).toArray)) w:=by
 have hl:=gM w g off n ty (u8s cs) d (fun j v hj=>by have:=hc.src j v hj;rw [aZ] at this;exact this) hu hd hs (by rw [ab];exact hn)
 unfold execOp
 simp only [hx,Instr.loadAt,Instr.sureAddr,Sem.run_bind,Sem.run_pure,Result.andThen_ok,hl]
theorem dG {e:TypeId} {base g:Nat} {zs:List Int} (hr:Row w g (u8s zs) e) (hb:base≤g) (hl:zs.length≤1000000):OwnB e w base (.slice (some ⟨g,0,none⟩) zs.length zs.length) zs:=by
 refine ⟨by rw [ab,Nat.mul_one],Or.inr ⟨g,zs.length,(u8s zs).toArray,rfl,hb,hr,Nat.le_refl _,by unfold maxLen;omega,by simp [ab],?_⟩⟩
 rw [Nat.mul_one]
 exact List.take_of_length_le (by rw [ab];exact Nat.le_refl _)
theorem own_empty {e:TypeId} {base g n:Nat} (hr:Row w g (List.replicate n (.int .u8 0)) e) (hb:base≤g) (hl:n≤1000000):OwnB e w base (.slice (some ⟨g,0,none⟩) 0 n) [] :=
 ⟨by simp [u8s],Or.inr ⟨g,n,(List.replicate n (Value.int .u8 0)).toArray,rfl,hb,hr,Nat.zero_le _,by unfold maxLen;omega,by simp,by simp [u8s]⟩⟩
theorem wpl_makeE {ty:TypeId} {x y:Operand} (elem:TypeId) (hu:P.underlying ty=some (.slice elem)) (z:Value) (hi:(P.info? elem).map (fun i=>(i.zero,i.size,i.bytes))=some (some z,1,1)) (hz:z.cells=#[z]) (n:Nat) {j:Int} (hx:a.eval x=.int .i64 0) (hy:a.eval y=.int .i64 j) (hyj:j=(n:Int)) (hn:n≤65536) (hm:Mem w0 S w rows)
  (h:∀w' g,Mem w0 S w' ((g,List.replicate n z,elem)::rows)→wpList P ops Q rest (a.put dst (.slice (some ⟨g,0,none⟩) 0 n)) w') :
  wpList P ops Q ({dst:=dst,op:=.makeSlice ty x y,type:=typ,pos:=pos,after:=aft,guard:=none}::rest) a w:=by
 subst hyj
 refine wpList_plain rfl fun K hK=>?_
 have hh:=hK _ _ (h _ _ (hm.alloc (List.replicate n z) elem))
 have hr:(Instr.makeSlice ty (.int .i64 0) (.int .i64 (n:Int))).run P w=.ok (.slice (some ⟨w.heap.size,0,none⟩) 0 n) (w.alloc (.cells (List.replicate n z).toArray elem)):=by
  cases hq:P.info? elem with
  | none=>simp [hq] at hi
  | some q =>
   simp only [hq,Option.map_some,Option.some.injEq,Prod.mk.injEq] at hi
   obtain ⟨h0,h1,h2⟩:=hi
   have:=run_makeSlice (P:=P) w ty elem q z hu hq h0 .i64 .i64 0 (n:Int) (by omega) (by omega) (by rw [h1];simp;omega) (by rw [h2];simp;omega) (by omega)
   rw [this,h1,hz]
   have e:madeCells #[z] ((n:Int).toNat * 1)=(List.replicate n z).toArray:=by
    unfold madeCells
    apply Array.ext
    ·simp
    ·intro k h1 h2
     simp [Nat.mod_one]
   rw [e]
   simp
 unfold Oper.wp execOp
 simp only [hx,hy,hr,Sem.run_bind,Sem.run_pure,Result.andThen_ok]
 exact hh
end
theorem set_eight (zs:List Int) (a b c d e f g h:Int):(((((((((u8s (zs++[0,0,0,0,0,0,0,0])).set (zs.length+7) (.int .u8 h)).set (zs.length+6) (.int .u8 g)).set (zs.length+5) (.int .u8 f)).set (zs.length+4) (.int .u8 e)).set (zs.length+3) (.int .u8 d)).set (zs.length+2) (.int .u8 c)).set (zs.length+1) (.int .u8 b)).set (zs.length+0) (.int .u8 a))=u8s (zs++[a,b,c,d,e,f,g,h]):=by
 rw [bI,bI,bI,bI,bI,bI,bI,bI]
 simp [u8s,List.set_append_right]
theorem longer_at8 (zs:List Int) (v:Value) (hzl:zs.length≤60000) (w:World) (hv:SlOld w v zs) :
  Calls Tryz.prog 90 #[v,.int .i64 8] w fun e w'=>∃g,e=.returned (.slice (some ⟨g,0,none⟩) (zs.length+8) (zs.length+8))∧w.heap.size≤g∧Row w' g (u8s (zs++[0,0,0,0,0,0,0,0])) 5∧Below w.heap.size w w':=by
 obtain ⟨p,cap,rfl,hcap⟩:=hv.len
 have hm:=Mem.start w
 have HV:Hid (SlOld w (.slice p zs.length cap) zs):=hv
 have HNE:Hid (splice (List.replicate (zs.length+8) (.int .u8 0)) 0 (u8s (zs.take zs.length))=u8s (zs++[0,0,0,0,0,0,0,0])):=by
  show _=_
  have e:List.replicate (zs.length+8) (Value.int .u8 0)=u8s (List.replicate (zs.length+8) 0):=by simp [u8s]
  rw [List.take_of_length_le (Nat.le_refl _),e,da zs (zs.length+8),show zs.length+8 - zs.length=8 by omega]
  rfl
 have HMI:Hid (zs.length=Nat.min zs.length (zs.length+8)):=(Nat.min_eq_left (by omega)).symm
 clear hv
 go_enter Tryz.func90,Tryz.ntmps90
 go_wp2_with (first
  | ((with_reducible refine aa (some 10) (.makeSlice 54 (.tmp 9) (.tmp 9)) ?_);go_must (refine dg _ aq _ aU rfl (zs.length+8) rfl (by first|rfl|omega|go_num) rfl (by first|rfl|omega|go_num) (by omega) hm ?_);clear hm;intro w1 g hm)
  | ((with_reducible refine aa (some 13) (.call {callee:=.builtin .copy,args:=#[.tmp 11,.tmp 12],argTypes:=#[54,54]}) ?_);go_must (refine ek 0 zs zs.length (u8s (zs++[0,0,0,0,0,0,0,0])) hm rfl rfl rfl _ aq av (SlOld.mem HV.out hm) HMI.out (by simp) HNE.out ?_);clear hm;intro w2 hm))
 go_ret
 have hf:=hm.fresh _ (List.mem_cons_self ..)
 exact ⟨g,rfl,by simpa using hf,hm.get 0 rfl,hm.below⟩
theorem m6 (g:Nat) (zs:List Int) (n:Int) (w:World) (hr:Row w g (u8s (zs++[0,0,0,0,0,0,0,0])) 5) :
  Calls Tryz.prog 91 #[.slice (some ⟨g,zs.length,none⟩) 8 8,.int .u64 n] w fun e w'=>e=.returned (.tuple #[])∧Row w' g (u8s (zs++be8 n)) 5∧Upd g w w':=by
 have hm:=Mem.enter hr
 have HLN:Hid (((u8s (zs++[0,0,0,0,0,0,0,0])).length=zs.length+8)):=by show _=_;simp [ab]
 clear hr
 go_enter Tryz.func91,Tryz.ntmps91
 go_wp2_with fail
 refine wp_loop_rounds 9 ?_
 iterate 9 (rw [rounds_succ];go_wp2_with (first
  | (((with_reducible refine aa none (.store 5 (.tmp 16) (.tmp 15)) ?_);refine aD 0 _ _ hm rfl (rfl) rfl av (by first|(rw [HLN.out];omega)|(simp only [List.length_set];rw [HLN.out];omega)) rfl rfl ?_;clear hm;intro w9 hm))))
 go_end0
 have hrow:=hm.get 0 rfl
 exact ⟨rfl,by have e:=set_eight zs (n / 256 / 256 / 256 / 256 / 256 / 256 / 256 % 256) (n / 256 / 256 / 256 / 256 / 256 / 256 % 256) (n / 256 / 256 / 256 / 256 / 256 % 256) (n / 256 / 256 / 256 / 256 % 256) (n / 256 / 256 / 256 % 256) (n / 256 / 256 % 256) (n / 256 % 256) (n % 256);rw [show be8 n=[n / 256 / 256 / 256 / 256 / 256 / 256 / 256 % 256,n / 256 / 256 / 256 / 256 / 256 / 256 % 256,n / 256 / 256 / 256 / 256 / 256 % 256,n / 256 / 256 / 256 / 256 % 256,n / 256 / 256 / 256 % 256,n / 256 / 256 % 256,n / 256 % 256,n % 256] from rfl,←e];exact hrow,hm.toUpd⟩
theorem d3 (zs:List Int) (v:Value) (n:Int) (hzl:zs.length≤60000) (w:World) (hv:SlOld w v zs) :
  Calls Tryz.prog 89 #[v,.int .u64 n,.int .i64 8] w fun e w'=>∃g,e=.returned (.slice (some ⟨g,0,none⟩) (zs.length+8) (zs.length+8))∧w.heap.size≤g∧Row w' g (u8s (zs++be8 n)) 5∧Below w.heap.size w w':=by
 obtain ⟨p,cap,rfl,hcap⟩:=hv.len
 have hm:=Mem.start w
 have HV:Hid (SlOld w (.slice p zs.length cap) zs):=hv
 clear hv
 go_enter Tryz.func89,Tryz.ntmps89
 go_wp2_with (first
  | (go_at_call 131;refine (jb _).mono ?_;rintro e w1 ⟨rfl,rfl⟩)
  | (go_at_call 90;refine (longer_at8 zs _ hzl _ HV.out).mono ?_;rintro e w2 ⟨g,rfl,hge,hr,hb⟩;have HGE:Hid _:=hge;have HR:Hid (Row w2 g (u8s (zs++[0,0,0,0,0,0,0,0])) 5):=hr;have HBL:Hid _:=hb;clear hge hr hb)
  | ((with_reducible refine aa (some 17) (.slice 54 (.tmp 14) (some (.tmp 16)) none none) ?_);go_must (refine gg aq av zs.length zs.length 8 8 (by omega) (by omega) (by omega) (by omega) (by omega) rfl rfl rfl ?_))
  | (go_at_call 91;refine (m6 g zs n _ HR.out).mono ?_;rintro e w3 ⟨rfl,hr2,hu⟩;have HR2:Hid (Row w3 g (u8s (zs++be8 n)) 5):=hr2;have HU2:Hid (Upd g w2 w3):=hu;clear hr2 hu))
 go_ret
 exact ⟨g,rfl,HGE.out,HR2.out,iJ HBL.out HU2.out HGE.out HBL.out.size⟩
theorem cY (p n:Int) (hp:0≤p∧p<4294967296) (w:World) :
  Calls Tryz.prog 178 #[.int .u32 p,.int .u64 n] w fun e w'=>e=.returned (.agg (u8s (nonceOf p n)).toArray)∧Below w.heap.size w w':=by
 obtain ⟨hp0,hp1⟩:=hp
 have hm:=Mem.start w
 have HWR:Hid (IntKind.u64.wrap p=p):=iL p hp0 hp1
 have HL4:Hid ((be4 p).length=4):=bC p
 have HLN:Hid ((u8s (nonceOf p n)).length=12):=by show _=_;rw [ab,dD]
 go_enter Tryz.func178,Tryz.ntmps178
 go_wp2_with (first
  | ((with_reducible refine aa (some 4) (.alloc 210) ?_);refine af _ gP hm ?_;clear hm;intro w1 g4 hm))
 refine (lT [] _ p (by simp) _ ⟨none,0,rfl,Nat.le_refl _,fun h=>absurd h (by simp)⟩).mono ?_
 rintro e w2 ⟨g7,rfl,hge,hr,hb⟩
 replace hm:=hm.callNew hb hr hge
 clear hb hr hge
 rw [show ([]:List Int).length+4=4 from rfl]
 replace hm:Mem w [] w2 [(g7,u8s (be4 p),5),(g4,u8s (List.replicate 12 0),210)]:=hm
 go_wp2_with fail
 refine (d3 (be4 p) _ n (by rw [bC];omega) _ (aE (hm.get 0 rfl) (bC p) (Nat.le_refl _))).mono ?_
 rintro e w3 ⟨g9,he,hge,hr,hb⟩
 rw [bC] at he
 subst he
 replace hm:=hm.callNew hb hr hge
 clear hb hr hge
 replace hm:Mem w [] w3 [(g9,u8s (nonceOf p n),5),(g7,u8s (be4 p),5),(g4,u8s (List.replicate 12 0),210)]:=hm
 go_wp2_with (first
  | ((with_reducible refine aa (some 10) (.sliceToArrayPointer 210 (.tmp 9)) ?_);go_must (refine fV 12 bx (by omega) rfl ?_))
  | ((with_reducible refine aa (some 11) (.load 210 (.tmp 10)) ?_);refine am 0 hm rfl rfl _ bx rfl 12 bD (HLN.out) ?_)
  | ((with_reducible refine aa none (.store 210 (.tmp 4) (.tmp 11)) ?_);refine ag 2 (u8s (nonceOf p n)) hm rfl rfl rfl 12 bD (by simp [ab]) (HLN.out) (ar _) ?_;clear hm;intro w4 hm))
 exact ay 2 hm rfl Tryz.results178 rfl _ bx rfl 12 bD HLN.out rfl ⟨rfl,hm.below⟩
open Go Go.ChangeShapes Go.WideShapes Go.ChangeAt Go.RowKit
theorem cells_int:Tryz.prog.cellsOf 3=1:=by kernel_rfl
theorem cells_i4:Tryz.prog.cellsOf 318=4:=by kernel_rfl
theorem un_int:Tryz.prog.underlying 3=some (.int .i64):=Tryz.underlying3
theorem places_type:(Tryz.prog.globals[1]?).map (·.type)=some 319:=by kernel_rfl
/-- An array of arrays of integers that reads as the table holds the table's numbers, cell for cell. -/
theorem nf {H:Type} {enc:TypeId×Value→H} {P:Program} {w:World} {base:Nat} {sp:Nat→Bool} {held:Bool} {fuel:Nat} {t e f:TypeId} {n m:Nat} {k:IntKind} {cs:List Value} {zs:List (List Int)} {p:List MemPlace}
  (ht:P.underlying t=some (.array n e)) (he:P.underlying e=some (.array m f)) (hf:P.underlying f=some (.int k)) (hcf:P.cellsOf f=1) (hce:P.cellsOf e=m) (hzn:zs.length=n)
  (h:DataW.trod enc P w base sp held fuel t cs=some (.agg (zs.map fun z=>Lib.tabData k z),p)):∀i,i<n→(cs.drop (i * m)).take m=(zs.getD i []).map fun z=>Value.int k z:=by
 cases fuel with
 | zero=>simp [DataW.trod] at h
 | succ fuel =>
  simp only [DataW.trod,ht] at h
  split at h
  ·rename_i hl
   obtain ⟨xs,hm,hx⟩:=Option.map_eq_some_iff.1 h
   have hxs:xs.map (·.1)=zs.map fun z=>(Lib.tabData k z:DataW H):=by
    have:=congrArg Prod.fst hx
    simpa using this
   intro i hi
   obtain ⟨b,hb,hfb⟩:=Lib.mapM_at hm i i (by simp [hi])
   have h2:(xs.map (·.1))[i]?=some b.1:=by simp [hb]
   rw [hxs] at h2
   have hz:zs[i]?=some (zs.getD i []):=by simp [show i<zs.length by omega]
   simp only [List.getElem?_map,hz,Option.map_some,Option.some.injEq] at h2
   obtain ⟨b1,b2⟩:=b
   simp only at h2
   subst h2
   rw [hce] at hfb
   exact Lib.cells_of_tab he hf hcf hce hfb
  ·cases h
def placesI:List (List Int):=[[0,4,8,12],[1,5,9,13],[2,6,10,14],[3,7,11,15],[0,5,10,15],[1,6,11,12],[2,7,8,13],[3,4,9,14]]
theorem places_flat:∀j:Fin 32,(placesI.getD (j.val / 4) []).getD (j.val % 4) 0=qFlat.getD j.val 0:=by decide +kernel
theorem places_len:∀i:Fin 8,(placesI.getD i.val []).length=4:=by decide +kernel
theorem qtab_of {W:World} (nm:String) {rest:List (String×DataW Unit)} (hn:Tryz.prog.globalNamed nm=some 1) (h:laidMet Tryz.prog ((nm,.agg (placesI.map fun z=>Lib.tabData .i64 z))::rest) W):QTab W:=by
 obtain ⟨ps,⟨g',t',cs,fuel,p,q,hg',ht',hvar,hd,_,_⟩,_⟩:=h
 obtain rfl:=Option.some.inj (hn.symm.trans hg')
 obtain rfl:=Option.some.inj (places_type.symm.trans ht')
 have hall:=nf un_i84 un_i4 un_int cells_int cells_i4 rfl hd
 intro j hj
 have hc:=World.var?_cell hn hvar j
 have h4:j / 4<8:=by omega
 have hr:=hall (j / 4) h4
 have h5:cs.toList[j]?=some (.int .i64 (qFlat.getD j 0)):=by
  have h6:((cs.toList.drop (j / 4 * 4)).take 4)[j % 4]?=cs.toList[j]?:=by
   rw [List.getElem?_take,if_pos (by omega),List.getElem?_drop,show j / 4 * 4+j % 4=j by omega]
  rw [←h6,hr,←places_flat ⟨j,hj⟩]
  have hl:=places_len ⟨j / 4,h4⟩
  exact i64s_get _ _ (by rw [hl];omega)
 rw [hc,←Array.getElem?_toList]
 exact h5
theorem laid_tail {P:Program} {W:World} {x:String×DataW Unit} {rest:List (String×DataW Unit)} (h:laidMet P (x::rest) W):laidMet P rest W:=by
 obtain ⟨n,d⟩:=x
 obtain ⟨ps,⟨g,t,cs,fuel,p,q,_,_,_,_,hr,rfl⟩,hnd,hc⟩:=h
 exact ⟨q,hr,(List.nodup_append.1 hnd).2.1,fun b off hm=>hc b off (List.mem_append_right _ hm)⟩
theorem fD {W:World} (h:laidMetH Tryz.prog Rows.treeOrderRow.laid W):Tab W :=
 tab_of (Rows.treeOrderRow.named.headD default) (by kernel_rfl) (Lib.tabIs_of_head (by kernel_rfl) table_type un_w64 Tryz.underlying25 cells_u32 cells_w64 h)
theorem eB {W:World} (h:laidMetH Tryz.prog Rows.treeOrderRow.laid W):QTab W :=
 qtab_of (Rows.treeOrderRow.named.getLastD default) (by kernel_rfl) (laid_tail (show laidMet Tryz.prog Rows.treeOrderRow.laid W from h))
open Go Go.RowKit
theorem eight {s:Nat} (h:s<8):s=0∨s=1∨s=2∨s=3∨s=4∨s=5∨s=6∨s=7:=by omega
def bitL (l:List Int) (i:Nat):Int:=l.getD (i / 8) 0 / 2 ^ (i % 8) % 2
def setB (c:Int) (s:Nat) (x:Int):Int:=c - c / 2 ^ s % 2 * 2 ^ s+x * 2 ^ s
def setBitL (l:List Int) (i:Nat) (x:Int):List Int:=l.set (i / 8) (setB (l.getD (i / 8) 0) (i % 8) x)
theorem bitL_two (l:List Int) (i:Nat):0≤bitL l i∧bitL l i≤1:=by unfold bitL;omega
theorem setB_byte {c x:Int} {s:Nat} (hs:s<8) (hc:0≤c∧c<256) (hx:0≤x∧x≤1):0≤setB c s x∧setB c s x<256:=by
 unfold setB
 rcases eight hs with rfl|rfl|rfl|rfl|rfl|rfl|rfl|rfl<;>simp<;>omega
theorem setB_same {c x:Int} {s:Nat} (hs:s<8) (hx:0≤x∧x≤1):setB c s x / 2 ^ s % 2=x:=by
 unfold setB
 rcases eight hs with rfl|rfl|rfl|rfl|rfl|rfl|rfl|rfl<;>simp<;>omega
theorem setB_other {c x:Int} {s t:Nat} (hs:s<8) (ht:t<8) (hne:t≠s) (hx:0≤x∧x≤1):setB c s x / 2 ^ t % 2=c / 2 ^ t % 2:=by
 unfold setB
 rcases eight hs with rfl|rfl|rfl|rfl|rfl|rfl|rfl|rfl <;>
  rcases eight ht with rfl|rfl|rfl|rfl|rfl|rfl|rfl|rfl <;>
  first|exact absurd rfl hne|(simp;done)|(simp;omega)
theorem setB_all:∀c:Fin 256,∀s:Fin 8,∀x:Fin 2,Go.bits .or .u8 (Go.bits .andNot .u8 (c.val:Int) (2 ^ s.val)) ((x.val:Int) * 2 ^ s.val)=setB (c.val:Int) s.val (x.val:Int):=by decide +kernel
/-- As the program sets a bit. -/
theorem setB_go {c x:Int} {s:Nat} (hs:s<8) (hc:0≤c∧c<256) (hx:0≤x∧x≤1):Go.bits .or .u8 (Go.bits .andNot .u8 c (2 ^ s)) (x * 2 ^ s)=setB c s x:=by
 obtain ⟨C,rfl⟩:=Int.eq_ofNat_of_zero_le hc.1
 obtain ⟨X,rfl⟩:=Int.eq_ofNat_of_zero_le hx.1
 exact setB_all ⟨C,by omega⟩ ⟨s,hs⟩ ⟨X,by omega⟩
theorem eQ (l:List Int) (i:Nat) (x:Int):(setBitL l i x).length=l.length:=by simp [setBitL]
theorem fi {l:List Int} (h:Bytes l) (i:Nat) {x:Int} (hx:0≤x∧x≤1):Bytes (setBitL l i x):=h.set _ _ (setB_byte (Nat.mod_lt _ (by decide)) (h.get _) hx)
theorem mp {l:List Int} {i:Nat} (hi:i<8 * l.length) {x:Int} (hx:0≤x∧x≤1) (j:Nat):bitL (setBitL l i x) j=if j=i then x else bitL l j:=by
 have hq:i / 8<l.length:=by omega
 unfold bitL setBitL
 by_cases hb:j / 8=i / 8
 ·have e:(l.set (i / 8) (setB (l.getD (i / 8) 0) (i % 8) x)).getD (j / 8) 0=setB (l.getD (i / 8) 0) (i % 8) x:=by
   rw [hb];simp [hq]
  rw [e]
  by_cases hj:j=i
  ·subst hj
   rw [if_pos rfl]
   exact setB_same (Nat.mod_lt _ (by decide)) hx
  ·rw [if_neg hj,hb]
   exact setB_other (Nat.mod_lt _ (by decide)) (Nat.mod_lt _ (by decide)) (by omega) hx
 ·have e:(l.set (i / 8) (setB (l.getD (i / 8) 0) (i % 8) x)).getD (j / 8) 0=l.getD (j / 8) 0:=by
   simp only [List.getD_eq_getElem?_getD]
   rw [List.getElem?_set_ne (fun h9=>hb h9.symm)]
  rw [e,if_neg (fun h9=>hb (by rw [h9]))]
/-- Two rows of bytes with the same bits are the same. -/
theorem byte_bits {c d:Int} (hc:0≤c∧c<256) (hd:0≤d∧d<256) (h:∀s,s<8→c / 2 ^ s % 2=d / 2 ^ s % 2):c=d:=by
 have h0:=h 0 (by decide)
 have h1:=h 1 (by decide)
 have h2:=h 2 (by decide)
 have h3:=h 3 (by decide)
 have h4:=h 4 (by decide)
 have h5:=h 5 (by decide)
 have h6:=h 6 (by decide)
 have h7:=h 7 (by decide)
 simp at h0 h1 h2 h3 h4 h5 h6 h7
 omega
theorem lQ {l m:List Int} (hl:Bytes l) (hm:Bytes m) (hlen:l.length=m.length) (h:∀i,i<8 * l.length→bitL l i=bitL m i):l=m:=by
 refine List.ext_getElem hlen fun j h1 h2=>?_
 have e1:l.getD j 0=l[j]:=by simp [h1]
 have e2:m.getD j 0=m[j]:=by simp [h2]
 rw [←e1,←e2]
 refine byte_bits (hl.get j) (hm.get j) fun s hs=>?_
 have h9:=h (8 * j+s) (by omega)
 unfold bitL at h9
 rw [show (8 * j+s) / 8=j by omega,show (8 * j+s) % 8=s by omega] at h9
 exact h9
def putT (l:List Int) (at_:Nat) (n:Nat):Nat→List Int
 | 0=>l
 | i+1=>setBitL (putT l at_ n i) (at_+i) ((n / 2 ^ i % 2:Nat):Int)
theorem bit_two (n i:Nat):0≤((n / 2 ^ i % 2:Nat):Int)∧((n / 2 ^ i % 2:Nat):Int)≤1:=by
 have:=Nat.mod_lt (n / 2 ^ i) (show 0<2 by decide)
 omega
theorem eW (l:List Int) (at_ n:Nat):∀k,(putT l at_ n k).length=l.length
 | 0=>rfl
 | k+1=>by rw [putT,eQ,eW l at_ n k]
theorem jo {l:List Int} (h:Bytes l) (at_ n:Nat):∀k,Bytes (putT l at_ n k)
 | 0=>h
 | k+1=>fi (jo h at_ n k) _ (bit_two n k)
theorem bitL_put {l:List Int} (h:Bytes l) (at_ n:Nat) (j:Nat):∀k,at_+k≤8 * l.length→bitL (putT l at_ n k) j=if at_≤j∧j<at_+k then ((n / 2 ^ (j - at_) % 2:Nat):Int) else bitL l j
 | 0,_=>by rw [putT,if_neg (by omega)]
 | k+1,hk=>by
  rw [putT,mp (by rw [eW];omega) (bit_two n k) j,bitL_put h at_ n j k (by omega)]
  by_cases hj:j=at_+k
  ·subst hj
   rw [if_pos rfl,if_pos (by omega),show at_+k - at_=k by omega]
  ·rw [if_neg hj]
   by_cases hc:at_≤j∧j<at_+k
   ·rw [if_pos hc,if_pos (by omega)]
   ·rw [if_neg hc,if_neg (by omega)]
def getT (l:List Int) (at_:Nat):Nat→Int
 | 0=>0
 | i+1=>getT l at_ i+bitL l (at_+i) * 2 ^ i
theorem getT_of (l:List Int) (at_ n:Nat):∀k,(∀i,i<k→bitL l (at_+i)=((n / 2 ^ i % 2:Nat):Int))→getT l at_ k=((n % 2 ^ k:Nat):Int)
 | 0,_=>by simp [getT,Nat.mod_one]
 | k+1,h=>by
  rw [getT,getT_of l at_ n k (fun i hi=>h i (by omega)),h k (by omega),Nat.mod_pow_succ]
  push_cast
  rw [Int.mul_comm]
theorem k9 (l:List Int) (at_:Nat):∀k,0≤getT l at_ k∧getT l at_ k<2 ^ k
 | 0=>by simp [getT]
 | k+1=>by
  have h1:=k9 l at_ k
  have h2:=bitL_two l (at_+k)
  have h3:(0:Int)<2 ^ k:=Int.pow_pos (by decide)
  rw [getT,Int.pow_succ]
  have h4:bitL l (at_+k)=0∨bitL l (at_+k)=1:=by omega
  rcases h4 with h4|h4<;>rw [h4]<;>omega
/-- As the program joins a bit to what it has. -/
theorem join_go {x y:Int} {k:Nat} (hk:k<64) (hx:0≤x∧x<2 ^ k) (hy:0≤y∧y≤1):Go.bits .or .u64 x (y * 2 ^ k)=x+y * 2 ^ k:=by
 obtain ⟨X,rfl⟩:=Int.eq_ofNat_of_zero_le hx.1
 obtain ⟨Y,rfl⟩:=Int.eq_ofNat_of_zero_le hy.1
 have hX:X<2 ^ k:=by have h:=hx.2;exact_mod_cast h
 have h64:2 ^ k≤2 ^ 63:=Nat.pow_le_pow_right (by decide) (by omega)
 have hY:Y * 2 ^ k≤2 ^ 63:=by
  have hy1:Y≤1:=by omega
  calc Y * 2 ^ k≤1 * 2 ^ k:=Nat.mul_le_mul_right _ hy1
   _≤2 ^ 63:=by omega
 have hj:X ||| Y * 2 ^ k=X+Y * 2 ^ k:=by
  rw [Nat.mul_comm,Nat.add_comm,Nat.or_comm]
  exact (Nat.two_pow_add_eq_or_of_lt hX Y).symm
 have e:((Y:Int) * 2 ^ k)=((Y * 2 ^ k:Nat):Int):=by push_cast;rfl
 have ho:∀a:Nat,a<18446744073709551616→(BitVec.ofInt 64 (a:Int)).toNat=a:=by
  intro a ha
  rw [BitVec.toNat_ofInt]
  omega
 rw [e]
 show IntKind.u64.wrap ((BitVec.ofInt 64 (X:Int) ||| BitVec.ofInt 64 ((Y * 2 ^ k:Nat):Int)).toNat:Int)=_
 rw [BitVec.toNat_or,ho X (by omega),ho (Y * 2 ^ k) (by omega),hj]
 have h5:((X+Y * 2 ^ k:Nat):Int)<18446744073709551616:=by
  have h7:X+Y * 2 ^ k<18446744073709551616:=by omega
  generalize X+Y * 2 ^ k=z at h7
  omega
 have h6:(0:Int)≤((X+Y * 2 ^ k:Nat):Int):=Int.natCast_nonneg _
 rw [show IntKind.u64.wrap ((X+Y * 2 ^ k:Nat):Int)=((X+Y * 2 ^ k:Nat):Int) by
  generalize ((X+Y * 2 ^ k:Nat):Int)=z at h5 h6
  simp [IntKind.wrap,IntKind.bits,IntKind.signed]
  omega]
 push_cast
 rfl
abbrev Gens:=Nat→Option Nat
def tabBit (l:List Int) (f:Gens) (j:Nat):Int:=match f (j / 29) with
 | some g=>((g / 2 ^ (j % 29) % 2:Nat):Int)
 | none=>bitL l j
structure GTab (l:List Int) (f:Gens) (out:List Int):Prop where
 len:out.length=l.length
 bytes:Bytes out
 bit:∀j,j<8 * l.length→bitL out j=tabBit l f j
theorem GTab.start {l:List Int} (h:Bytes l):GTab l (fun _=>none) l:=⟨rfl,h,fun _ _=>rfl⟩
theorem GTab.one {l:List Int} {f out:_} (h:GTab l f out) (i g:Nat) (hi:29 * i+29≤8 * l.length):GTab l (fun k=>if k=i then some g else f k) (putT out (29 * i) g 29):=by
 refine ⟨by rw [eW,h.len],jo h.bytes _ _ _,fun j hj=>?_⟩
 rw [bitL_put h.bytes _ _ _ 29 (by rw [h.len];exact hi),h.bit j hj]
 unfold tabBit
 by_cases hc:29 * i≤j∧j<29 * i+29
 ·rw [if_pos hc]
  have e:j / 29=i:=by omega
  simp only [e,if_true]
  rw [show j - 29 * i=j % 29 by omega]
 ·rw [if_neg hc]
  have e:¬j / 29=i:=by omega
  simp only [e,if_false]
theorem GTab.same {l:List Int} {f:Gens} {a b:List Int} (ha:GTab l f a) (hb:GTab l f b):a=b :=
 lQ ha.bytes hb.bytes (by rw [ha.len,hb.len]) fun i hi=>by rw [ha.bit i (by rw [←ha.len];exact hi),hb.bit i (by rw [←ha.len];exact hi)]
def tabL (l:List Int) (f:Gens):Nat→List Int
 | 0=>l
 | i+1=>match f i with
  | none=>tabL l f i
  | some g=>putT (tabL l f i) (29 * i) g 29
theorem tabL_tab {l:List Int} (h:Bytes l) (f:Gens):∀n,29 * n≤8 * l.length→GTab l (fun k=>if k<n then f k else none) (tabL l f n)
 | 0,_=>by
  have e:(fun k=>if k<0 then f k else none)=fun _:Nat=>(none:Option Nat):=by funext k;rw [if_neg (by omega)]
  rw [e]
  exact GTab.start h
 | n+1,hn=>by
  have ih:=tabL_tab h f n (by omega)
  rw [tabL]
  cases hf:f n with
  | none =>
   have e:(fun k=>if k<n+1 then f k else none)=fun k=>if k<n then f k else none:=by
    funext k
    by_cases hk:k=n
    ·subst hk;rw [if_pos (by omega),if_neg (by omega),hf]
    ·by_cases hk2:k<n
     ·rw [if_pos (by omega),if_pos hk2]
     ·rw [if_neg (by omega),if_neg hk2]
   rw [e]
   exact ih
  | some g =>
   have h9:=ih.one n g (by omega)
   have e:(fun k=>if k<n+1 then f k else none)=fun k=>if k=n then some g else if k<n then f k else none:=by
    funext k
    by_cases hk:k=n
    ·subst hk;rw [if_pos (by omega),if_pos rfl,hf]
    ·rw [if_neg hk]
     by_cases hk2:k<n
     ·rw [if_pos (by omega),if_pos hk2]
     ·rw [if_neg (by omega),if_neg hk2]
   rw [e]
   exact h9
/-- What is read of the table at a page's place. -/
theorem GTab.get {l:List Int} {f:Gens} {out:List Int} (h:GTab l f out) (i g:Nat) (hi:29 * i+29≤8 * l.length) (hf:f i=some g):getT out (29 * i) 29=((g % 2 ^ 29:Nat):Int) :=
 getT_of _ _ _ _ fun j hj=>by
  rw [h.bit _ (by omega)]
  unfold tabBit
  rw [show (29 * i+j) / 29=i by omega,hf,show (29 * i+j) % 29=j by omega]
theorem mL {l m:List Int} {at_:Nat}:∀k,(∀i,i<k→bitL l (at_+i)=bitL m (at_+i))→getT l at_ k=getT m at_ k
 | 0,_=>rfl
 | k+1,h=>by rw [getT,getT,mL k (fun i hi=>h i (by omega)),h k (by omega)]
def genBelowN (limit low:Nat):Nat:=limit - 1 - (limit - 1 - low) % 2 ^ 29
open Go Go.RowKit
theorem run_bsl4s {P:Program} (w:World) {t elem:TypeId} (z v0 v1 v2 v3:Value) (hu:P.underlying t=some (.slice elem)) (hi:(P.info? elem).map (fun i=>(i.zero,i.size))=some (some z,1)) (hz:z.cells=#[z]) (h0:v0.cells=#[v0]) (h1:v1.cells=#[v1]) (h2:v2.cells=#[v2]) (h3:v3.cells=#[v3]) :
  (Instr.buildSlice t 4 #[(0,v0),(1,v1),(2,v2),(3,v3)]).run P w=.ok (.slice (some ⟨w.heap.size,0,none⟩) 4 4) (w.alloc (.cells [v0,v1,v2,v3].toArray elem)):=by
 obtain ⟨hz1,hs1⟩:=zero_of_info hi
 cases hq:P.info? elem with
 | none=>simp [hq] at hi
 | some q =>
  have hs:q.size=1:=by simpa [hq] using hs1
  have e:Array.map (fun x=>([z][x % 1]?).getD default) (Array.range 4)=#[z,z,z,z]:=by
   apply Array.ext
   ·simp
   ·intro i h1 h2
    have h3:i=0∨i=1∨i=2∨i=3:=by
     have:i<4:=by simpa using h2
     omega
    rcases h3 with rfl|rfl|rfl|rfl<;>simp
  simp [Instr.buildSlice,run_underlying hu,sizeOf,typeInfo,hq,hs,hz1,hz,Instr.fill,h0,h1,h2,h3,newRow,newObj]
  rw [e]
  rfl
section
variable {P:Program} {ops:Array Oper} {rest:List Oper} {a:Act} {w w0 w':World} {Q:Exit→Act→World→Prop} {dst:Option Tmp} {typ:TypeId} {pos:String} {aft:Array Edge} {gd:Option (Nat×Bool)} {S:List Nat} {rows:List (Nat×List Value×TypeId)}
theorem ret_ct {fn:Func} {R:Ending→World→Prop} {p u:Tmp} {ty:TypeId} (i:Nat) {g:Nat} {l:List Value} {t:TypeId} (v:Value) (hm:Mem w0 S w rows) (hi:rows[i]?=some (g,l,t))
  (hres:fn.results=#[.cell p ty,.tmp u]) (hp:a.tmps.getD p undef=.pointer (some ⟨g,0,none⟩)) (hv:a.tmps.getD u undef=v) (d:TypeDesc) (hu:P.underlying ty=some d) (hd:(match d with | .struct _ | .array _ _=>true|_=>false)=true)
  (n:Nat) (hs:(P.info? ty).map (·.size)=some n) (hn:l.length=n) (hd0:a.defers=[]) (hR:R (.returned (.tuple #[.agg l.toArray,v])) w):bodyPost P fn R .ret a w:=by
 refine bodyPost_ret ?_ hd0 hR
 rw [results_cell_tmp hres,hp,hv]
 have hl:=run_loadVar_row (P:=P) w g t ty l.toArray (0,0) d (hm.get i hi) hu hd (by rw [hs];simp [hn])
 simp [asAddr,hl]
theorem ret_tc {fn:Func} {R:Ending→World→Prop} {p u:Tmp} {ty:TypeId} (i:Nat) {g:Nat} {l:List Value} {t:TypeId} (v:Value) (hm:Mem w0 S w rows) (hi:rows[i]?=some (g,l,t))
  (hres:fn.results=#[.tmp u,.cell p ty]) (hp:a.tmps.getD p undef=.pointer (some ⟨g,0,none⟩)) (hv:a.tmps.getD u undef=v) (d:TypeDesc) (hu:P.underlying ty=some d) (hd:(match d with | .struct _ | .array _ _=>true|_=>false)=true)
  (n:Nat) (hs:(P.info? ty).map (·.size)=some n) (hn:l.length=n) (hd0:a.defers=[]) (hR:R (.returned (.tuple #[v,.agg l.toArray])) w):bodyPost P fn R .ret a w:=by
 refine bodyPost_ret ?_ hd0 hR
 have hl:=run_loadVar_row (P:=P) w g t ty l.toArray (0,0) d (hm.get i hi) hu hd (by rw [hs];simp [hn])
 have hp':a.tmps[p]?.getD undef=.pointer (some ⟨g,0,none⟩):=by simpa using hp
 have hv':a.tmps[u]?.getD undef=v:=by simpa using hv
 simp [results,hres,hp',hv',asAddr,hl]
theorem az {ty:TypeId} (z:List Value) (hz:∀w,(zeroValue ty).run P w=.ok (.agg z.toArray) w) (hm:Mem w0 S w rows)
  (h:∀w' g,Below w.heap.size w w'→Mem w0 S w' ((g,z,ty)::rows)→wpList P ops Q rest (a.put dst (.pointer (some ⟨g,0,none⟩))) w') :
  wpList P ops Q ({dst:=dst,op:=.alloc ty,type:=typ,pos:=pos,after:=aft,guard:=none}::rest) a w:=by
 refine wpList_plain rfl fun K hK=>?_
 have hh:=hK _ _ (h _ _ ((Below.refl _ _).alloc (Nat.le_refl _) _) (hm.alloc z ty))
 unfold Oper.wp execOp
 simp [go_sem,hz,newVar,newObj,Value.cells]
 exact hh
/-- A row of the call's own is turned, and no longer spoken of. -/
theorem Mem.lose {g:Nat} {l:List Value} {t:TypeId} (hm:Mem w0 S w ((g,l,t)::rows)) (hu:Upd g w w'):Mem w0 S w' rows:=by
 refine ⟨hu.os.trans hm.os,hu.tape.trans hm.tape,hu.output.trans hm.output,Nat.le_trans hm.size hu.size,fun k hk hn=>?_,fun r hr=>?_,(hm.tail).nodup,(hm.tail).fresh⟩
 ·have hf:=hm.fresh _ (List.mem_cons_self ..)
  refine (hu.block k (Nat.lt_of_lt_of_le hk hm.size) (fun e=>?_)).trans (hm.block k hk hn)
  subst e
  rcases hf with hf|hf
  ·exact hn hf
  ·exact absurd hk (Nat.not_lt.2 hf)
 ·refine hu.row ((hm.tail).row r hr) (fun e=>?_)
  have hd:=hm.nodup
  simp only [List.map_cons,List.nodup_cons] at hd
  exact hd.1 (e▸List.mem_map_of_mem hr)
theorem upd_freeze (g k:Nat) (w:World):Upd g w (w.freeze ⟨g,k,none⟩ 1):=by
 unfold World.freeze
 rw [if_neg (by decide)]
 refine ⟨rfl,rfl,rfl,?_,fun i hi hn=>?_⟩
 ·simp
 ·simp only [Array.getElem?_modify]
  rw [if_neg (fun h=>hn h.symm)]
theorem seg_freeze {g k:Nat} {cs:List Int} {t:TypeId} (hr:Row w g (u8s cs) t):Seg (w.freeze ⟨g,k,none⟩ 1) g 0 cs:=by
 have hh:(w.freeze ⟨g,k,none⟩ 1).heap[g]?=some (.cells (u8s cs).toArray t (k,k+1)):=by
  unfold World.freeze
  rw [if_neg (by decide)]
  simp only [Array.getElem?_modify]
  rw [if_pos trivial,hr]
  rfl
 intro j hj
 rw [cell_of_row _ _ _ _ _ _ hh,Nat.zero_add]
 simpa using cG cs j hj
/-- A constant string's bytes: the row that holds them gets its mark. -/
theorem dn {t e:TypeId} {x:Operand} (cs:List Int) (hw:Region.wanted {dst:=dst,op:=.convert t t x,type:=typ,pos:=pos,after:=aft,guard:=gd} (yielded ops a.tmps)=true) (ht:P.underlying t=some (.slice e)) (he:P.underlying e=some (.int .u8)) {g n:Nat} (hx:a.eval x=.slice (some ⟨g,0,none⟩) n n) (hn:n=cs.length) (hm:Mem w0 S w ((g,u8s cs,e)::rows))
  (h:∀w',Mem w0 S w' rows→SlOld w' (.slice (some ⟨g,0,none⟩) n n) cs→wpList P ops Q rest (a.put dst (.slice (some ⟨g,0,none⟩) n n)) w') :
  wpList P ops Q ({dst:=dst,op:=.convert t t x,type:=typ,pos:=pos,after:=aft,guard:=gd}::rest) a w:=by
 subst hn
 have hr:=hm.get 0 rfl
 have hsh:w.shape? g=some (e,cs.length):=by
  unfold World.shape?
  rw [hr]
  simp [ab]
 have hrun:(convert t t (.slice (some ⟨g,0,none⟩) cs.length cs.length)).run P w=.ok (.slice (some ⟨g,0,none⟩) cs.length cs.length) (w.freeze ⟨g,cs.length,none⟩ 1):=by
  simp [convert,run_underlying ht,run_underlying he,markStringish,hsh]
 refine wpList_step fun K hK=>?_
 rw [if_pos hw]
 have hh:=hK _ _ (h _ (hm.lose (upd_freeze g cs.length w)) ⟨_,_,rfl,Nat.le_refl _,fun _=>⟨g,0,rfl,seg_freeze hr⟩⟩)
 unfold Oper.wp execOp
 simp only [hx,hrun,Sem.run_bind,Sem.run_pure,Result.andThen_ok]
 exact hh
theorem run_neqa (w:World) (t e:TypeId) (n:Nat) (k:IntKind) (ht:P.underlying t=some (.array n e)) (he:P.underlying e=some (.int k)) (hs:(P.info? e).map (·.size)=some 1) (xs ys:List Int) (hx:xs.length=n) (hy:ys.length=n) :
  (binOp .neq t (.agg (xs.map (Value.int k)).toArray) (.agg (ys.map (Value.int k)).toArray)).run P w=.ok (.bool (!decide (xs=ys))) w:=by
 have h:=run_eqa (P:=P) w 9998 t e n k ht he hs xs ys hx hy
 have h2:(Op.equal t (.agg (xs.map (Value.int k)).toArray) (.agg (ys.map (Value.int k)).toArray)).run P w=.ok (decide (xs=ys)) w:=h
 simp only [binOp,Sem.run_bind,h2,Result.andThen_ok,Sem.run_pure]
theorem exec_nea {t:TypeId} {x y:Operand} {rt:TypeId} (e:TypeId) (n:Nat) (k:IntKind) (xs ys:List Int) (v:Bool) (hv:(!decide (xs=ys))=v) (hx:a.eval x=.agg (xs.map (Value.int k)).toArray) (hy:a.eval y=.agg (ys.map (Value.int k)).toArray) (ht:P.underlying t=some (.array n e)) (he:P.underlying e=some (.int k)) (hs:(P.info? e).map (·.size)=some 1) (hm:P.eqGuardType P.depth t=false) (h1:xs.length=n) (h2:ys.length=n) :
  (execOp a.eval {dst:=dst,op:=.binOp .neq t x y rt,type:=typ,pos:=pos,after:=aft,guard:=gd}).run P w=.ok (.value (.bool v)) w:=by
 subst hv
 unfold execOp
 simp only [hx,hy,Sem.run_bind,run_eqGuard_agg w .neq t x y _ _ hm,Sem.run_pure,Result.andThen_ok,run_neqa w t e n k ht he hs xs ys h1 h2]
theorem exec_eqK {t:TypeId} {x y:Operand} {rt:TypeId} (e:TypeId) (n:Nat) (k:IntKind) (xs ys:List Int) (v:Bool) (hv:decide (xs=ys)=v) (hx:a.eval x=.agg (xs.map (Value.int k)).toArray) (hy:a.eval y=.agg (ys.map (Value.int k)).toArray) (ht:P.underlying t=some (.array n e)) (he:P.underlying e=some (.int k)) (hs:(P.info? e).map (·.size)=some 1) (hm:P.eqGuardType P.depth t=false) (h1:xs.length=n) (h2:ys.length=n) :
  (execOp a.eval {dst:=dst,op:=.binOp .eql t x y rt,type:=typ,pos:=pos,after:=aft,guard:=gd}).run P w=.ok (.value (.bool v)) w:=by
 subst hv
 exact exec_eqa e n k xs ys hx hy ht he hs hm h1 h2
theorem Mem.two' {a b c:Nat×List Value×TypeId} (hm:Mem w0 S w (a::b::c::rows)):Mem w0 S w (a::c::rows):=hm.sub (List.Sublist.cons_cons _ (List.sublist_cons_self _ _))
end
end Go.Proofs.YtmlbjfklaehjnaaGreatDoor
