import Derived.Test.YtnllomcajijbjaaGreatDoorQp03
import Derived.Test.YtnllomcajijbjaaGreatDoorQp01
import Derived.Maps.OwnSet
import Derived.Maps.OwnOps
import Derived.DeepKeys4
set_option maxRecDepth 100000
set_option maxHeartbeats 4000000
namespace Go.Proofs.YtnllomcajijbjaaGreatDoor
open Go Go.RowKit
theorem info_key:(Tryz.prog.info? 39).map (fun i=>(i.zero,i.size))=some (some (.agg (u8s (List.replicate 32 0)).toArray),32):=by kernel_rfl
theorem bd:∀w,(zeroValue 39).run Tryz.prog w=.ok (.agg (u8s (List.replicate 32 0)).toArray) w:=(zero_of_info info_key).1
theorem az:(Tryz.prog.info? 39).map (·.size)=some 32:=(zero_of_info info_key).2
theorem aS:Tryz.prog.underlying 39=some (.array 32 5):=Tryz.underlying39
theorem info_beg:(Tryz.prog.info? 130).map (fun i=>(i.zero,i.size))=some (some (.agg ([.pointer none,.pointer none]:List Value).toArray),2):=by kernel_rfl
theorem dz:∀w,(zeroValue 130).run Tryz.prog w=.ok (.agg ([.pointer none,.pointer none]:List Value).toArray) w:=(zero_of_info info_beg).1
theorem dC:(Tryz.prog.info? 130).map (·.size)=some 2:=(zero_of_info info_beg).2
theorem gM:Tryz.prog.underlying 130=some (Tryz.prog.underlying 130).get!:=by kernel_rfl
theorem ag_hp:∀w,(isAgg 128).run Tryz.prog w=.ok false w:=by intro w;simp [go_sem]
theorem un_bss:Tryz.prog.underlying 134=some (.slice 33):=Tryz.underlying134
theorem info_bs:(Tryz.prog.info? 33).map (fun i=>(i.zero,i.size))=some (some (.slice none 0 0),1):=by kernel_rfl
theorem eV:(Tryz.prog.info? 5).map (fun i=>(i.zero,i.size))=some (some (.int .u8 0),1):=by kernel_rfl
theorem sl_all {w:World} {g r n cap:Nat} {l:List Int} {t:TypeId} (hr:Row w r (u8s l) t) (hne:r≠g) (hn:l.length=n) (h2:n≤cap):Sl w g (.slice (some ⟨r,0,none⟩) n cap) l :=
 ⟨_,cap,by rw [hn],by rw [hn];exact h2,fun _=>⟨r,0,rfl,hne,Seg.row hr⟩⟩
theorem bB {w:World} {r n cap:Nat} {l:List Int} {t:TypeId} (hr:Row w r (u8s l) t) (hn:l.length=n) (h2:n≤cap):SlOld w (.slice (some ⟨r,0,none⟩) n cap) l :=
 ⟨_,cap,by rw [hn],by rw [hn];exact h2,fun _=>⟨r,0,rfl,Seg.row hr⟩⟩
theorem SlOld.len {w:World} {v:Value} {cs:List Int} (h:SlOld w v cs):∃p cap,v=.slice p cs.length cap∧cs.length≤cap:=by
 obtain ⟨p,cap,h1,h2,_⟩:=h
 exact ⟨p,cap,h1,h2⟩
theorem SlOld.below {w w':World} {v:Value} {cs:List Int} (h:SlOld w v cs) (hb:Below w.heap.size w w'):SlOld w' v cs:=by
 obtain ⟨p,cap,hv,hc,hs⟩:=h
 refine ⟨p,cap,hv,hc,fun h0=>?_⟩
 obtain ⟨b,off,hp,hseg⟩:=hs h0
 exact ⟨b,off,hp,hseg.below hb⟩
theorem SlOld.src0 {w:World} {p:Option Addr} {n c:Nat} {cs:List Int} (h:SlOld w (.slice p n c) cs):n=cs.length∧n≤c∧(0<cs.length→∃b off,p=some ⟨b,off,none⟩∧Seg w b off cs):=by
 obtain ⟨q,d,hv,hd,hs⟩:=h
 simp only [Value.slice.injEq] at hv
 obtain ⟨rfl,rfl,rfl⟩:=hv
 exact ⟨rfl,hd,hs⟩
section
variable {P:Program} {ops:Array Oper} {rest:List Oper} {a:Act} {w w0:World} {Q:Exit→Act→World→Prop} {dst:Option Tmp} {typ:TypeId} {pos:String} {aft:Array Edge} {gd:Option (Nat×Bool)} {S:List Nat} {rows:List (Nat×List Value×TypeId)}
theorem cZ {d s:Operand} {dT sT:TypeId} (i:Nat) {g:Nat} {l:List Value} {t:TypeId} {off dLen dCap:Nat} {p:Option Addr} {sLen sCap:Nat} (cs:List Int) (n:Nat) (new:List Value) (hm:Mem w0 S w rows) (hi:rows[i]?=some (g,l,t))
  (hd:a.eval d=.slice (some ⟨g,off,none⟩) dLen dCap) (hs:a.eval s=.slice p sLen sCap) (elem:TypeId) (hu:P.underlying dT=some (.slice elem)) (hsz:(P.info? elem).map (·.size)=some 1)
  (hold:SlOld w (.slice p sLen sCap) cs) (hn:n=Nat.min sLen dLen) (hfit:off+n≤l.length) (hnew:splice l off (u8s (cs.take n))=new)
  (h:∀w',Mem w0 S w' (rows.set i (g,new,t))→wpList P ops Q rest (a.put dst (.int .i64 n)) w') :
  wpList P ops Q ({dst:=dst,op:=.call {callee:=.builtin .copy,args:=#[d,s],argTypes:=#[dT,sT]},type:=typ,pos:=pos,after:=aft,guard:=none}::rest) a w:=by
 obtain ⟨hl,hc,hsrc⟩:=hold.src0
 have hle:n≤cs.length:=by rw [hn,←hl];exact Nat.min_le_left _ _
 have htl:(cs.take n).length=n:=by simp;omega
 by_cases h0:0<n
 ·obtain ⟨b,o,rfl,hseg⟩:=hsrc (by omega)
  exact cU i off dLen dCap ⟨b,o,none⟩ sLen sCap (u8s (cs.take n)) n new hm hi hd hs elem hu hsz (by rw [ab,htl]) hn (hseg.take n).src hfit (aq _) hnew h
 ·have hn0:n=0:=by omega
  subst hn0
  have hnew':l=new:=by rw [←hnew];simp [splice,u8s]
  subst hnew'
  have hset:rows.set i (g,l,t)=rows:=by
   have hlt:i<rows.length:=(List.getElem?_eq_some_iff.1 hi).1
   have hge:rows[i]=(g,l,t):=(List.getElem?_eq_some_iff.1 hi).2
   rw [←hge,List.set_getElem_self]
  rw [hset] at h
  refine wpList_plain rfl fun K hK=>?_
  have hh:=hK _ _ (h _ hm)
  have hrun:(Builtin.copy_ #[dT,sT] typ #[.slice (some ⟨g,off,none⟩) dLen dCap,.slice p sLen sCap]).run P w=.ok (goInt 0) w:=by
   have hz:Nat.min sLen dLen=0:=hn.symm
   have hld:∀a:Addr,(loadCells a 0).run P w=.ok #[] w:=fun a=>rfl
   cases hq:P.info? elem with
   | none=>simp [hq] at hsz
   | some q =>
    cases p<;>simp [Builtin.copy_,run_underlying hu,Builtin.lenOf,Builtin.firstCells,sizeOf,typeInfo,hq,storeCells,hz,hld]
  unfold Oper.wp execOp
  simp only [resolve,invoke,builtin,Sem.run_bind,Sem.run_pure,Result.andThen_ok,List.map_toArray,List.map_cons,List.map_nil,hd,hs,hrun]
  exact hh
theorem run_bsl1 (w:World) {t elem:TypeId} (z v:Value) (hu:P.underlying t=some (.slice elem)) (hi:(P.info? elem).map (fun i=>(i.zero,i.size))=some (some z,1)) (hz:z.cells=#[z]) (hv:v.cells=#[v]) :
  (Instr.buildSlice t 1 #[(0,v)]).run P w=.ok (.slice (some ⟨w.heap.size,0,none⟩) 1 1) (w.alloc (.cells [v].toArray elem)):=by
 obtain ⟨hz1,hs1⟩:=zero_of_info hi
 cases hq:P.info? elem with
 | none=>simp [hq] at hi
 | some q =>
  have hs:q.size=1:=by simpa [hq] using hs1
  have e:Array.map (fun x=>([z][x % 1]?).getD default) (Array.range 1)=#[z]:=by
   apply Array.ext
   ·simp
   ·intro i h1 h2
    have h3:i=0:=by simpa using h2
    subst h3
    simp
  simp [Instr.buildSlice,run_underlying hu,sizeOf,typeInfo,hq,hs,hz1,hz,Instr.fill,hv,newRow,newObj]
  rw [e]
  rfl
theorem run_bsl3 (w:World) {t elem:TypeId} (z v0 v1 v2:Value) (hu:P.underlying t=some (.slice elem)) (hi:(P.info? elem).map (fun i=>(i.zero,i.size))=some (some z,1)) (hz:z.cells=#[z]) (h0:v0.cells=#[v0]) (h1:v1.cells=#[v1]) (h2:v2.cells=#[v2]) :
  (Instr.buildSlice t 3 #[(0,v0),(1,v1),(2,v2)]).run P w=.ok (.slice (some ⟨w.heap.size,0,none⟩) 3 3) (w.alloc (.cells [v0,v1,v2].toArray elem)):=by
 obtain ⟨hz1,hs1⟩:=zero_of_info hi
 cases hq:P.info? elem with
 | none=>simp [hq] at hi
 | some q =>
  have hs:q.size=1:=by simpa [hq] using hs1
  have e:Array.map (fun x=>([z][x % 1]?).getD default) (Array.range 3)=#[z,z,z]:=by
   apply Array.ext
   ·simp
   ·intro i h1 h2
    have h3:i=0∨i=1∨i=2:=by
     have:i<3:=by simpa using h2
     omega
    rcases h3 with rfl|rfl|rfl<;>simp
  simp [Instr.buildSlice,run_underlying hu,sizeOf,typeInfo,hq,hs,hz1,hz,Instr.fill,h0,h1,h2,newRow,newObj]
  rw [e]
  rfl
theorem gm {t elem:TypeId} {x:Operand} (hw:Region.wanted {dst:=dst,op:=.buildSlice t 1 #[(0,x)],type:=typ,pos:=pos,after:=aft,guard:=gd} (yielded ops a.tmps)=true) (z v:Value) (hu:P.underlying t=some (.slice elem)) (hi:(P.info? elem).map (fun i=>(i.zero,i.size))=some (some z,1)) (hz:z.cells=#[z]) (hx:a.eval x=v) (hv:v.cells=#[v]) (hm:Mem w0 S w rows)
  (h:∀w' g,Below w.heap.size w w'→Mem w0 S w' ((g,[v],elem)::rows)→wpList P ops Q rest (a.put dst (.slice (some ⟨g,0,none⟩) 1 1)) w') :
  wpList P ops Q ({dst:=dst,op:=.buildSlice t 1 #[(0,x)],type:=typ,pos:=pos,after:=aft,guard:=gd}::rest) a w:=by
 refine wpList_step fun K hK=>?_
 rw [if_pos hw]
 have hh:=hK _ _ (h _ _ ((Below.refl _ _).alloc (Nat.le_refl _) _) (hm.alloc [v] elem))
 unfold Oper.wp execOp
 simp only [List.map_toArray,List.map_cons,List.map_nil,hx,run_bsl1 (P:=P) w z v hu hi hz hv,Sem.run_bind,Sem.run_pure,Result.andThen_ok]
 exact hh
theorem wpl_bsl3 {t elem:TypeId} {x y u:Operand} (z v0 v1 v2:Value) (hu:P.underlying t=some (.slice elem)) (hi:(P.info? elem).map (fun i=>(i.zero,i.size))=some (some z,1)) (hz:z.cells=#[z]) (hx:a.eval x=v0) (hy:a.eval y=v1) (hv:a.eval u=v2) (h0:v0.cells=#[v0]) (h1:v1.cells=#[v1]) (h2:v2.cells=#[v2]) (hm:Mem w0 S w rows)
  (h:∀w' g,Below w.heap.size w w'→Mem w0 S w' ((g,[v0,v1,v2],elem)::rows)→wpList P ops Q rest (a.put dst (.slice (some ⟨g,0,none⟩) 3 3)) w') :
  wpList P ops Q ({dst:=dst,op:=.buildSlice t 3 #[(0,x),(1,y),(2,u)],type:=typ,pos:=pos,after:=aft,guard:=none}::rest) a w:=by
 refine wpList_plain rfl fun K hK=>?_
 have hh:=hK _ _ (h _ _ ((Below.refl _ _).alloc (Nat.le_refl _) _) (hm.alloc [v0,v1,v2] elem))
 unfold Oper.wp execOp
 simp only [List.map_toArray,List.map_cons,List.map_nil,hx,hy,hv,run_bsl3 (P:=P) w z v0 v1 v2 hu hi hz h0 h1 h2,Sem.run_bind,Sem.run_pure,Result.andThen_ok]
 exact hh
end
theorem wpl_stwV {P:Program} {ops:Array Oper} {rest:List Oper} {a:Act} {w:World} {typ:TypeId} {pos:String} {aft:Array Edge} {Q:Exit→Act→World→Prop} {w0:World} {S:List Nat} {rows:List (Nat×List Value×TypeId)} {ty:TypeId} {x y:Operand} (i:Nat) {g:Nat} {l:List Value} {t:TypeId} (l':List Value) (hm:Mem w0 S w rows) (hi:rows[i]?=some (g,l,t)) (hx:a.eval x=.pointer (some ⟨g,0,none⟩))
  (hy:a.eval y=.agg l'.toArray) (n:Nat) (hs:(P.info? ty).map (·.size)=some n) (hn:l.length=n) (hn':l'.length=n) (h1:∀v∈l',v.oneCell'=true)
  (h:∀w',Upd g w w'→Mem w0 S w' (rows.set i (g,l',t))→wpList P ops Q rest a w') :
  wpList P ops Q ({dst:=none,op:=.store ty x y,type:=typ,pos:=pos,after:=aft,guard:=none}::rest) a w:=by
 refine wpList_plain rfl fun K hK=>?_
 have hr:=hm.get i hi
 have hh:=hK _ _ (h _ (Upd.setRow g w l'.toArray) (hm.upd i hi (Upd.setRow g w l'.toArray) (hr.setRow l')))
 unfold Oper.wp execOp
 simp only [hx,hy,Instr.storeAt,Instr.sureAddr,Sem.run_bind,Sem.run_pure,Result.andThen_ok,
  run_storeVar_row w g t ty l.toArray l'.toArray hr (by rw [hs];simp [hn']) (by simp [hn,hn']) (by simpa using h1)]
 exact hh
theorem Mem.callNew2 {w0 w w':World} {S:List Nat} {rows:List (Nat×List Value×TypeId)} (hm:Mem w0 S w rows) (hb:Below w.heap.size w w') {g h:Nat} {l k:List Value} {t u:TypeId} (hr:Row w' g l t) (hq:Row w' h k u) (hg:w.heap.size≤g) (hh:w.heap.size≤h) (hne:g≠h):Mem w0 S w' ((g,l,t)::(h,k,u)::rows):=by
 have h1:=hm.callNew hb hq hh
 refine ⟨h1.os,h1.tape,h1.output,h1.size,h1.block,?_,?_,?_⟩
 ·intro r hr'
  rcases List.mem_cons.1 hr' with rfl|hr'
  ·exact hr
  ·exact h1.row r hr'
 ·simp only [List.map_cons,List.nodup_cons]
  refine ⟨fun hc=>?_,by simpa using h1.nodup⟩
  rcases List.mem_cons.1 hc with hc|hc
  ·exact hne hc
  ·obtain ⟨r,hr',he⟩:=List.mem_map.1 hc
   have:=(hm.row r hr').lt
   omega
 ·intro r hr'
  rcases List.mem_cons.1 hr' with rfl|hr'
  ·exact Or.inr (Nat.le_trans hm.size hg)
  ·exact h1.fresh r hr'
theorem cn (cs:List Int) (n:Nat):splice (u8s (List.replicate n 0)) 0 (u8s cs)=u8s (cs++List.replicate (n - cs.length) 0):=by
 simp [splice,u8s,List.drop_replicate]
theorem iu (cs:List Int):splice (u8s (List.replicate 64 0)) 0 (u8s (cs.take cs.length))=u8s (cs++List.replicate (64 - cs.length) 0):=by
 rw [List.take_of_length_le (Nat.le_refl _)]
 exact cn cs 64
theorem iU (cs:List Int) (v:Value) (hbc:Bytes cs) (hlen:cs.length≤1099511627776) (w:World) (ht:Tab w) (hv:SlOld w v cs) :
  Calls Tryz.prog 70 #[v] w fun e w'=>e=.returned (.agg (u8s (fillOf cs)).toArray)∧Below w.heap.size w w':=by
 obtain ⟨p,cap,rfl,hcap⟩:=hv.len
 have hm:=Mem.start w
 have HT:Hid _:=ht
 have HB:Hid _:=hbc
 have HV:Hid (SlOld w (.slice p cs.length cap) cs):=hv
 have hfl:(u8s (fillOf cs)).length=64:=by rw [ab,cK]
 have HFL:Hid _:=hfl
 clear ht hbc hv hfl
 by_cases h64:cs.length≤64
 ·have h64i:(cs.length:Int)≤64:=by omega
  have hne:splice (u8s (List.replicate 64 0)) 0 (u8s (cs.take cs.length))=u8s (fillOf cs):=by rw [iu cs,fillOf,keyCut,if_pos h64]
  have HNE:Hid _:=hne
  clear hne
  go_enter Tryz.func70,Tryz.ntmps70
  go_wp2_with (first
   | ((with_reducible refine aa (some 2) (.alloc 63) ?_);refine aj _ cq hm ?_;clear hm;intro w1 g2 hm)
   | ((with_reducible refine aa (some 3) (.alloc 63) ?_);refine aj _ cq hm ?_;clear hm;intro w2 g3 hm)
   | ((with_reducible refine aa (some 10) (.call {callee:=.builtin .copy,args:=#[.tmp 8,.tmp 9],argTypes:=#[33,33]}) ?_);refine cZ 0 cs cs.length (u8s (fillOf cs)) hm rfl rfl rfl _ aU be (SlOld.mem HV.out hm) (Nat.min_eq_left h64).symm (by simp [ab];omega) HNE.out ?_;clear hm;intro w3 hm)
   | ((with_reducible refine aa (some 11) (.load 63 (.tmp 3)) ?_);refine ay 0 hm rfl rfl _ cf rfl 64 bq (HFL.out) ?_)
   | ((with_reducible refine aa none (.store 63 (.tmp 2) (.tmp 11)) ?_);refine ap 1 (u8s (fillOf cs)) hm rfl rfl rfl 64 bq (by simp [ab]) (HFL.out) (aq _) ?_;clear hm;intro w4 hm))
  exact aJ 1 hm rfl Tryz.results70 rfl _ cf rfl 64 bq HFL.out rfl ⟨rfl,hm.below⟩
 ·have h64i:¬(cs.length:Int)≤64:=by omega
  have hne:splice (u8s (List.replicate 64 0)) 0 (u8s ((shaOf cs).take 32))=u8s (fillOf cs):=by
   have:=iu (shaOf cs)
   rw [bC] at this
   rw [this,fillOf,keyCut,if_neg h64,bC]
  have HNE:Hid _:=hne
  clear hne
  go_enter Tryz.func70,Tryz.ntmps70
  go_wp2_with (first
   | ((with_reducible refine aa (some 2) (.alloc 63) ?_);refine aj _ cq hm ?_;clear hm;intro w1 g2 hm)
   | ((with_reducible refine aa (some 3) (.alloc 63) ?_);refine aj _ cq hm ?_;clear hm;intro w2 g3 hm)
   | (go_at_call 89;refine (sum_any cs _ HB.out hlen _ (Tab.mem HT.out hm (by simp)) (SlOld.mem HV.out hm)).mono ?_;rintro e w3 ⟨rfl,hb⟩;replace hm:=hm.call hb;clear hb)
   | ((with_reducible refine aa (some 4) (.alloc 38) ?_);refine aj _ cd hm ?_;clear hm;intro w4 g4 hm)
   | ((with_reducible refine aa none (.store 38 (.tmp 4) (.tmp 13)) ?_);refine ap 0 (u8s (shaOf cs)) hm rfl rfl rfl 32 b8 (by simp [ab]) (by rw [ab,bC]) (aq _) ?_;clear hm;intro w5 hm))

  refine cG 2 (by kernel_rfl) (by kernel_rfl) hm ?_
  clear hm
  intro w6 hm
  simp only [List.take_succ_cons,List.take_zero,List.drop_succ_cons,List.drop_zero]
  still_step
  still_step
  refine wpStill_nil ?_
  go_wp2_with (first
   | ((with_reducible refine aa (some 16) (.call {callee:=.builtin .copy,args:=#[.tmp 14,.tmp 15],argTypes:=#[33,33]}) ?_);refine cZ 1 (shaOf cs) 32 (u8s (fillOf cs)) hm rfl rfl rfl _ aU be (bB (hm.get 0 rfl) (bC _) (Nat.le_refl _)) rfl (by simp [ab]) HNE.out ?_;clear hm;intro w7 hm)
   | ((with_reducible refine aa (some 17) (.load 63 (.tmp 3)) ?_);refine ay 1 hm rfl rfl _ cf rfl 64 bq (HFL.out) ?_)
   | ((with_reducible refine aa none (.store 63 (.tmp 2) (.tmp 17)) ?_);refine ap 2 (u8s (fillOf cs)) hm rfl rfl rfl 64 bq (by simp [ab]) (HFL.out) (aq _) ?_;clear hm;intro w8 hm))
  exact aJ 2 hm rfl Tryz.results70 rfl _ cf rfl 64 bq HFL.out rfl ⟨rfl,hm.below⟩
theorem jx (b:List Int) (p:Int) (hbl:b.length=64) (hbb:Bytes b) (hp:0≤p∧p<256) (w:World) (ht:Tab w) :
  Calls Tryz.prog 88 #[.agg (u8s b).toArray,.int .u8 p] w fun e w'=>∃g,e=.returned (.pointer (some ⟨g,0,none⟩))∧w.heap.size≤g∧Row w' g (hrow (wsOf (xorB b p)) (restOf (xorB b p)) ((xorB b p).length:Int)) 168∧Below w.heap.size w w':=by
 have hm:=Mem.start w
 have HT:Hid _:=ht
 have HB:Hid _:=hbb
 have HL:Hid _:=hbl
 have HX:Hid _:=ga hbb hp
 clear ht hbb hbl
 go_enter Tryz.func88,Tryz.ntmps88
 go_wp2_with (first
  | ((with_reducible refine aa (some 2) (.box 63 (.tmp 0)) ?_);refine aB (u8s b) rfl hm ?_;clear hm;intro w1 g2 hm))

 go_loopw [7] (fun vi wr=>∃k:Nat,k≤64∧vi=.int .i64 k∧Mem w [] wr [(g2,u8s (xorUpto b p k),63)]) (fun vi _=>64 - (intOf vi).toNat)
 case atStart=>exact ⟨0,by omega,rfl,hm⟩
 case round =>
  clear hm
  obtain ⟨k,hk,rfl,hm⟩:=hrel
  by_cases hlt:k<64
  ·obtain ⟨c,hc⟩:∃c,c=b.getD k 0:=⟨_,rfl⟩
   have hln:(u8s (xorUpto b p k)).length=64:=by rw [ab,fm,HL.out]
   have hvc:(u8s (xorUpto b p k))[k]?=some (.int .u8 c):=by rw [cP _ _ (by rw [fm,HL.out];exact hlt),xorUpto_get _ _ _ (by rw [HL.out];exact hlt),hc]
   have hst:(u8s (xorUpto b p k)).set k (.int .u8 (bits .xor .u8 c p))=u8s (xorUpto b p (k+1)):=by rw [bT,hc,xorUpto_set _ _ _ (by rw [HL.out];exact hlt)]
   have HV:Hid _:=hvc
   have HS:Hid _:=hst
   have HLN:Hid _:=hln
   clear hvc hst hln hc
   go_wp2_with (first
    | ((with_reducible refine aa (some 12) (.load 5 (.tmp 11)) ?_);refine bi 0 k (.int .u8 c) hm rfl rfl fj (HV.out) ?_)
    | ((with_reducible refine aa none (.store 5 (.tmp 15) (.tmp 14)) ?_);refine bm 0 k (.int .u8 (bits .xor .u8 c p)) hm rfl (rfl) rfl be (by rw [HLN.out];omega) rfl rfl ?_;clear hm;intro w3 hm))

   have hn:Mem w [] w3 [(g2,u8s (xorUpto b p (k+1)),63)]:=by
    rw [HS.out] at hm
    exact hm
   clear hm
   go_roundw
   case rel=>exact ⟨k+1,by omega,by go_num,hn⟩
   case measure=>simp [intOf];omega
  ·have hk64:k=64:=by omega
   subst hk64
   rw [xorUpto_full b p 64 (by rw [HL.out];omega)] at hm
   have hxl:(xorB b p).length=64:=by rw [fd,HL.out]
   have HXL:Hid _:=hxl
   clear hxl
   go_wp2_with (first
    | (go_at_call 103;refine (new_any _).mono ?_;rintro e w4 ⟨g,rfl,hge,hr,hb⟩;rw [new_row] at hr;have HGT:Hid _:=Nat.ne_of_lt (Nat.lt_of_lt_of_le (Tab.lt (Tab.mem HT.out hm (by simp))) hge);replace hm:=hm.callNew hb hr hge;clear hb hr hge)
    | (go_at_call 91;refine (fK g [] (xorB b p) _ jc HX.out (by have:=HXL.out;simp;omega) _ (Tab.mem HT.out hm (by simp)) HGT.out (hm.get 0 rfl) (sl_all (hm.get 1 rfl) (fun h=>hm.ne 0 rfl h.symm) HXL.out (Nat.le_refl _))).mono ?_;rintro e w5 ⟨rfl,hr,hu⟩;replace hm:=hm.upd 0 rfl hu hr;clear hr hu))

   go_ret
   have hf:=hm.fresh _ (List.mem_cons_self ..)
   exact ⟨g,rfl,by simpa using hf,hm.get 0 rfl,hm.below⟩
open Go Go.RowKit
def begV (gi go:Nat):List Value:=[.pointer (some ⟨gi,0,none⟩),.pointer (some ⟨go,0,none⟩)]
theorem begin_any (b:List Int) (hbl:b.length=64) (hbb:Bytes b) (w:World) (ht:Tab w) :
  Calls Tryz.prog 69 #[.agg (u8s b).toArray] w fun e w'=>∃gi go,e=.returned (.agg (begV gi go).toArray)∧w.heap.size≤gi∧w.heap.size≤go∧gi≠go∧Row w' gi (hrow (wsOf (xorB b 54)) (restOf (xorB b 54)) ((xorB b 54).length:Int)) 168∧Row w' go (hrow (wsOf (xorB b 92)) (restOf (xorB b 92)) ((xorB b 92).length:Int)) 168∧Below w.heap.size w w':=by
 have hm:=Mem.start w
 have HT:Hid _:=ht
 have HB:Hid _:=hbb
 have HL:Hid _:=hbl
 clear ht hbb hbl
 go_enter Tryz.func69,Tryz.ntmps69
 go_wp2_with (first
  | ((with_reducible refine aa (some 1) (.box 63 (.tmp 0)) ?_);refine aB (u8s b) rfl hm ?_;clear hm;intro w1 g1 hm)
  | ((with_reducible refine aa (some 2) (.alloc 130) ?_);refine aj _ dz hm ?_;clear hm;intro w2 g2 hm))

 refine au ?_
 refine a6 (T:=fun W=>Mem w [] W [(g1,u8s b,63)]) (by kernel_rfl) hm ?_
 clear hm
 intro w3 hm
 refine aT 0 (v:=.agg (u8s b).toArray) rfl (by kernel_rfl) rfl (fun W hW=>bJ 0 _ (Mem.get hW 0 rfl) rfl _ cf rfl 64 bq (by rw [ab,HL.out];omega) (by rw [List.drop_zero,List.take_of_length_le (by rw [ab];exact Nat.le_of_eq HL.out)])) hm.tail ?_
 go_simp
 refine aT 2 (v:=.agg (u8s b).toArray) rfl (by kernel_rfl) rfl (fun W hW=>bJ 0 _ (Mem.get hW 0 rfl) rfl _ cf rfl 64 bq (by rw [ab,HL.out];omega) (by rw [List.drop_zero,List.take_of_length_le (by rw [ab];exact Nat.le_of_eq HL.out)])) hm.tail ?_
 go_simp
 refine aP 1 (by kernel_rfl) rfl rfl ?_
 intro K hK
 go_wp2_with (go_at_call 88;refine (jx b 54 HL.out HB.out (by omega) _ (Tab.mem HT.out hm (by simp))).mono ?_;rintro e w4 ⟨gi,rfl,hgi,hri,hb⟩;replace hm:=hm.callNew hb hri hgi;clear hb hgi hri)
 refine hK _ _ hm.tail.tail ?_
 clear hK K
 refine aP 3 (by kernel_rfl) rfl rfl ?_
 intro K hK
 go_wp2_with (go_at_call 88;refine (jx b 92 HL.out HB.out (by omega) _ (Tab.mem HT.out hm (by simp))).mono ?_;rintro e w5 ⟨go,rfl,hgo,hro,hb⟩;replace hm:=hm.callNew hb hro hgo;clear hb hgo hro)
 refine hK _ _ hm.tail.tail.tail ?_
 clear hK K
 refine aP 4 (by kernel_rfl) rfl rfl ?_
 intro K hK
 refine aM (pl:=[(0,.tmp 4),(1,.tmp 6)]) (begV gi go) [(0,.pointer (some ⟨gi,0,none⟩)),(1,.pointer (some ⟨go,0,none⟩))] rfl (by kernel_rfl) ?_
 refine wpList_nil ?_
 refine hK _ _ hm.tail.tail.tail ?_
 clear hK K
 refine aP 5 (by kernel_rfl) rfl rfl ?_
 intro K hK
 refine ap 2 (begV gi go) hm rfl rfl rfl 2 dC rfl rfl (by intro v hv;simp [begV] at hv;rcases hv with rfl|rfl<;>rfl) ?_
 clear hm
 intro w6 hm
 refine wpList_nil ?_
 refine hK _ _ hm.tail.tail.tail ?_
 clear hK K
 refine wpAnyH_done (by kernel_rfl) ?_ _
 simp only [endsIn]
 go_wp2_with fail
 have h0:=hm.fresh _ (List.mem_cons_self ..)
 have h1:=hm.tail.fresh _ (List.mem_cons_self ..)
 refine aJ 2 hm rfl Tryz.results69 rfl _ gM rfl 2 dC rfl rfl ⟨gi,go,rfl,by simpa using h1,by simpa using h0,fun h=>hm.ne 0 rfl h.symm,hm.get 1 rfl,hm.get 0 rfl,hm.below⟩
def catN (Pc:Nat→List Int):Nat→List Int
 | 0=>[]
 | k+1=>catN Pc k++Pc k
theorem catN_bytes {Pc:Nat→List Int} {N:Nat} (h:∀i,i<N→Bytes (Pc i)):∀k,k≤N→Bytes (catN Pc k):=by
 intro k
 induction k with
 | zero=>intro _;exact jc
 | succ k ih=>intro hk;exact (ih (by omega)).append (h k (by omega))
theorem catN_mono (Pc:Nat→List Int) (k j:Nat):(catN Pc k).length≤(catN Pc (k+j)).length:=by
 induction j with
 | zero=>exact Nat.le_refl _
 | succ j ih=>rw [←Nat.add_assoc,catN,List.length_append];omega
theorem catN_le (Pc:Nat→List Int) {k N:Nat} (h:k≤N):(catN Pc k).length≤(catN Pc N).length:=by
 have:=catN_mono Pc k (N - k)
 rwa [show k+(N - k)=N by omega] at this
theorem code_any (gi go:Nat) (ki ko:List Int) (hki:Bytes ki) (hko:Bytes ko) (hkl:ko.length≤64) (b o N cap:Nat) (Pv:Nat→Value) (Pc:Nat→List Int) (hlen:ki.length+(catN Pc N).length≤1000000) (hN:N≤3) (w:World) (ht:Tab w)
  (hri:Row w gi (hrow (wsOf ki) (restOf ki) (ki.length:Int)) 168) (hro:Row w go (hrow (wsOf ko) (restOf ko) (ko.length:Int)) 168)
  (hp:∀i,i<N→w.cell? ⟨b,o+i,none⟩=some (Pv i)∧SlOld w (Pv i) (Pc i)∧Bytes (Pc i)) :
  Calls Tryz.prog 71 #[.agg (begV gi go).toArray,.slice (some ⟨b,o,none⟩) N cap] w fun e w'=>e=.returned (.agg (u8s (shaOf (ko++shaOf (ki++catN Pc N)))).toArray)∧Below w.heap.size w w':=by
 have hm:=Mem.start w
 have HT:Hid _:=ht
 have HKI:Hid _:=hki
 have HKO:Hid _:=hko
 have HRI:Hid (Row w gi (hrow (wsOf ki) (restOf ki) (ki.length:Int)) 168):=hri
 have HRO:Hid (Row w go (hrow (wsOf ko) (restOf ko) (ko.length:Int)) 168):=hro
 have HP:Hid _:=hp
 have HCB:Hid (∀k,k≤N→Bytes (catN Pc k)):=catN_bytes (fun i hi=>(hp i hi).2.2)
 clear ht hki hko hri hro hp
 go_enter Tryz.func71,Tryz.ntmps71
 go_wp2_with (first
  | ((with_reducible refine aa (some 2) (.box 130 (.tmp 0)) ?_);refine aB (begV gi go) rfl hm ?_;clear hm;intro w1 g2 hm)
  | ((with_reducible refine aa (some 4) (.alloc 38) ?_);refine aj _ cd hm ?_;clear hm;intro w2 g4 hm)
  | ((with_reducible refine aa (some 11) (.load 128 (.tmp 10)) ?_);refine bi 1 0 (.pointer (some ⟨gi,0,none⟩)) hm rfl rfl ag_hp (rfl) ?_)
  | (go_at_call 90;refine (copy_any gi (wsOf ki) (restOf ki) _ (bA _) (bH _) _ (HRI.out.below' hm.below)).mono ?_;rintro e w3 ⟨gc,rfl,hge,hr,hb⟩;have HGC:Hid _:=Nat.ne_of_lt (Nat.lt_of_lt_of_le (Tab.lt (Tab.mem HT.out hm (by simp))) hge);replace hm:=hm.callNew hb hr hge;clear hb hr hge))

 have hgw:w.heap.size≤gc:=by simpa using hm.fresh _ (List.mem_cons_self ..)
 have HGW:Hid _:=hgw
 clear hgw
 go_loopw [15] (fun vi wr=>∃k:Nat,k≤N∧vi=.int .i64 k∧Mem w [] wr [(gc,hrow (wsOf (ki++catN Pc k)) (restOf (ki++catN Pc k)) ((ki++catN Pc k).length:Int),168),(g4,u8s (List.replicate 32 0),38),(g2,begV gi go,130)]) (fun vi _=>N - (intOf vi).toNat)
 case atStart=>exact ⟨0,by omega,rfl,by rw [catN,List.append_nil];exact hm⟩
 case round =>
  clear hm
  obtain ⟨k,hk,rfl,hm⟩:=hrel
  by_cases hlt:k<N
  ·obtain ⟨hck,hsk,hbk⟩:=HP.out k hlt
   obtain ⟨pk,ck,hpk,_⟩:=hsk.len
   rw [hpk] at hck hsk
   have hki2:(k:Int)<(N:Int):=by omega
   have HB0:Hid (b<w.heap.size):=block_lt_of_cell hck
   have HCK:Hid _:=hck
   have HSK:Hid (SlOld w (.slice pk (Pc k).length ck) (Pc k)):=hsk
   have HBK:Hid _:=hbk
   have HBM:Hid (Bytes (ki++catN Pc k)):=Bytes.append HKI.out (HCB.out k (by omega))
   have hll:(ki++catN Pc k).length+(Pc k).length≤1099511627776:=by
    have:=catN_le Pc (show k+1≤N by omega)
    rw [catN,List.length_append] at this
    rw [List.length_append]
    omega
   have HLL:Hid _:=hll
   clear hck hsk hbk hll hpk
   go_wp2_with (first
    | ((with_reducible refine aa (some 18) (.load 33 (.tmp 17)) ?_);refine aQ (.slice pk (Pc k).length ck) ((hm.old (p:=⟨b,o+k,none⟩) HB0.out (by simp)).trans HCK.out) rfl ag_bs ?_)
    | (go_at_call 91;refine (fK gc (ki++catN Pc k) (Pc k) _ HBM.out HBK.out HLL.out _ (Tab.mem HT.out hm (by simp)) HGC.out (hm.get 0 rfl) (SlOld.sl HSK.out hm.below HGW.out)).mono ?_;rintro e w5 ⟨rfl,hr,hu⟩;replace hm:=hm.upd 0 rfl hu hr;clear hr hu))

   rw [List.append_assoc] at hm
   replace hm:Mem w [] w5 [(gc,hrow (wsOf (ki++catN Pc (k+1))) (restOf (ki++catN Pc (k+1))) ((ki++catN Pc (k+1)).length:Int),168),(g4,u8s (List.replicate 32 0),38),(g2,begV gi go,130)]:=hm
   go_roundw
   case rel=>exact ⟨k+1,by omega,by go_num,hm⟩
   case measure=>simp [intOf];omega
  ·have hkN:k=N:=by omega
   subst hkN
   have hni:¬(k:Int)<(k:Int):=by omega
   obtain ⟨s,hs⟩:∃s,s=shaOf (ki++catN Pc k):=⟨_,rfl⟩
   have HS:Hid _:=hs
   have HSL:Hid (s.length=32):=by show _=_;rw [hs,bC]
   have HSB:Hid (Bytes s):=by rw [hs];exact fp _
   have HBM:Hid (Bytes (ki++catN Pc k)):=Bytes.append HKI.out (HCB.out k (by omega))
   have HBO:Hid (Bytes (ko++s)):=Bytes.append HKO.out HSB.out
   clear hs
   have HOL:Hid (ko.length+s.length≤1099511627776):=by show _≤_;have:=HSL.out;omega
   go_wp2_with fail
   refine (fa gc (ki++catN Pc k) HBM.out (by rw [List.length_append];omega) _ (Tab.mem HT.out hm (by simp)) (hm.get 0 rfl)).mono ?_
   rintro e w6 ⟨rfl,hb⟩
   replace hm:=hm.call hb
   clear hb
   rw [show shaOf (ki++catN Pc k)=s from HS.out.symm]
   go_wp2_with (first
    | ((with_reducible refine aa (some 8) (.alloc 38) ?_);refine aj _ cd hm ?_;clear hm;intro w7 g8 hm)
    | ((with_reducible refine aa none (.store 38 (.tmp 8) (.tmp 24)) ?_);refine ap 0 (u8s s) hm rfl rfl rfl 32 b8 (by simp [ab]) (by rw [ab];exact HSL.out) (aq _) ?_;clear hm;intro w8 hm)
    | ((with_reducible refine aa (some 26) (.load 128 (.tmp 25)) ?_);refine bi 3 1 (.pointer (some ⟨go,0,none⟩)) hm rfl rfl ag_hp (rfl) ?_)
    | (go_at_call 90;refine (copy_any go (wsOf ko) (restOf ko) _ (bA _) (bH _) _ (HRO.out.below' hm.below)).mono ?_;rintro e w9 ⟨gd,rfl,hge,hr,hb⟩;have HGD:Hid _:=Nat.ne_of_lt (Nat.lt_of_lt_of_le (Tab.lt (Tab.mem HT.out hm (by simp))) hge);replace hm:=hm.callNew hb hr hge;clear hb hr hge)
    | (go_at_call 91;refine (fK gd ko s _ HKO.out HSB.out HOL.out _ (Tab.mem HT.out hm (by simp)) HGD.out (hm.get 0 rfl) (sl_all (hm.get 1 rfl) (fun h=>hm.ne 0 rfl h.symm) HSL.out (Nat.le_refl _))).mono ?_;rintro e w10 ⟨rfl,hr,hu⟩;replace hm:=hm.upd 0 rfl hu hr;clear hr hu)
    | (go_at_call 92;refine (fa gd (ko++s) HBO.out (by rw [List.length_append];exact HOL.out) _ (Tab.mem HT.out hm (by simp)) (hm.get 0 rfl)).mono ?_;rintro e w11 ⟨rfl,hb⟩;replace hm:=hm.call hb;clear hb)
    | ((with_reducible refine aa none (.store 38 (.tmp 4) (.tmp 32)) ?_);refine ap 3 (u8s (shaOf (ko++s))) hm rfl rfl rfl 32 b8 (by simp [ab]) (by rw [ab,bC]) (aq _) ?_;clear hm;intro w12 hm))
   exact aJ 3 hm rfl Tryz.results71 rfl _ fc rfl 32 b8 (by rw [ab,bC]) rfl ⟨by rw [HS.out],hm.below⟩
theorem iF (ks ms:List Int) (vk vm:Value) (hbk:Bytes ks) (hbm:Bytes ms) (hkl:ks.length≤500000) (hml:ms.length≤500000) (w:World) (ht:Tab w) (hvk:SlOld w vk ks) (hvm:SlOld w vm ms) :
  Calls Tryz.prog 56 #[vk,vm] w fun e w'=>e=.returned (.agg (u8s (macOf ks ms)).toArray)∧Below w.heap.size w w':=by
 obtain ⟨pk,ck,rfl,_⟩:=hvk.len
 obtain ⟨pm,cm,rfl,_⟩:=hvm.len
 have hm:=Mem.start w
 have HT:Hid _:=ht
 have HBK:Hid _:=hbk
 have HBM:Hid _:=hbm
 have HVK:Hid (SlOld w (.slice pk ks.length ck) ks):=hvk
 have HVM:Hid (SlOld w (.slice pm ms.length cm) ms):=hvm
 have HFB:Hid _:=dG hbk
 have HML:Hid (macOf ks ms=shaOf (padOut ks++shaOf (padIn ks++catN (fun _=>ms) 1))):=rfl
 clear ht hbk hbm hvk hvm
 go_enter Tryz.func56,Tryz.ntmps56
 go_wp2_with (first
  | ((with_reducible refine aa (some 4) (.alloc 38) ?_);refine aj _ cd hm ?_;clear hm;intro w1 g4 hm)
  | (go_at_call 70;refine (iU ks _ HBK.out (by omega) _ (Tab.mem HT.out hm (by simp)) (SlOld.mem HVK.out hm)).mono ?_;rintro e w2 ⟨rfl,hb⟩;replace hm:=hm.call hb;clear hb)
  | (go_at_call 69;refine (begin_any (fillOf ks) (cK _) HFB.out _ (Tab.mem HT.out hm (by simp))).mono ?_;rintro e w3 ⟨gi,go,rfl,hgi,hgo,_,hri,hro,hb⟩;have HRI:Hid (Row w3 gi (hrow (wsOf (padIn ks)) (restOf (padIn ks)) ((padIn ks).length:Int)) 168):=hri;have HRO:Hid (Row w3 go (hrow (wsOf (padOut ks)) (restOf (padOut ks)) ((padOut ks).length:Int)) 168):=hro;replace hm:=hm.call hb;clear hb hri hro hgi hgo)
  | ((with_reducible refine aa (some 9) (.buildSlice 134 1 #[(0,.tmp 8)]) ?_);refine gm rfl (.slice none 0 0) (.slice pm ms.length cm) un_bss info_bs rfl rfl rfl hm ?_;clear hm;intro w4 g9 hb4 hm)
  | (go_at_call 71;refine (code_any gi go (padIn ks) (padOut ks) (ip HBK.out) (gk HBK.out) (by rw [fQ];omega) g9 0 1 1 (fun _=>.slice pm ms.length cm) (fun _=>ms) (by rw [gu];simp [catN];omega) (by omega) _ (Tab.mem HT.out hm (by simp)) (HRI.out.below' hb4) (HRO.out.below' hb4) (fun i hi=>⟨by rw [Nat.zero_add,show i=0 by omega];exact hm.cell 0 rfl 0,SlOld.mem HVM.out hm,HBM.out⟩)).mono ?_;rintro e w5 ⟨rfl,hb⟩;rw [←HML.out];replace hm:=hm.call hb;clear hb)
  | ((with_reducible refine aa none (.store 38 (.tmp 4) (.tmp 10)) ?_);refine ap 1 (u8s (macOf ks ms)) hm rfl rfl rfl 32 b8 (by simp [ab]) (by rw [ab,bw]) (aq _) ?_;clear hm;intro w6 hm))
 exact aJ 1 hm rfl Tryz.results56 rfl _ fc rfl 32 b8 (by rw [ab,bw]) rfl ⟨rfl,hm.below⟩
open Go Go.RowKit
open Go.Maps
theorem key_laid:laidOutB Tryz.prog=true:=by kernel_rfl
theorem key_row:(39:TypeId)<Tryz.prog.types.size:=of_decide_eq_true (by kernel_rfl)
theorem key_wide:(match Tryz.prog.underlying 39 with|some (.array _ _)|some (.struct _)=>true|_=>false)=true:=by kernel_rfl
theorem gg:Keyed Tryz.prog 39:=Keyed.of_law (deep_law_laid key_laid (m:=2) (by omega) key_row (by kernel_rfl) key_wide)
theorem key_type:Tryz.prog.keyType 39=true:=by kernel_rfl
theorem key_cells:Tryz.prog.cellsOf 39=32:=by kernel_rfl
theorem byte_cells:Tryz.prog.cellsOf 5=1:=by kernel_rfl
theorem types_some:∃n,Tryz.prog.types.size=n+1:=⟨Tryz.prog.types.size - 1,by have h:(39:Nat)<Tryz.prog.types.size:=key_row;omega⟩
theorem mapM_all {α β:Type} (f:α→Option β) (g:α→β):∀l:List α,(∀x∈l,f x=some (g x))→l.mapM f=some (l.map g)
 | [],_=>rfl
 | x::r,h=>by
  rw [List.mapM_cons,h x (List.mem_cons_self ..),mapM_all f g r (fun y hy=>h y (List.mem_cons_of_mem _ hy))]
  rfl
theorem wf_u8 (x:Int) (h0:0≤x) (h1:x<256):(Lit.int .u8 x).wf=true:=by
 simp [Lit.wf,IntKind.min,IntKind.max,IntKind.signed,IntKind.bits]
 omega
theorem key_of (zs:List Int) (hl:zs.length=32) (hb:Bytes zs):∃kl,keyOf Tryz.prog 39 (.agg (u8s zs).toArray)=some kl:=by
 obtain ⟨n,hn⟩:=types_some
 have hf:(Value.agg (u8s zs).toArray).formed Tryz.prog 39=true:=by
  simp [Value.formed,key_cells,ab,hl]
 have hk:Tryz.prog.keyLits (Tryz.prog.types.size+1) 39 (u8s zs)=some ((List.range 32).map fun i=>[Lit.int .u8 (zs.getD i 0)]).flatten:=by
  unfold Program.keyLits
  simp only [aS]
  rw [if_pos (by rw [ab,hl,key_cells]),mapM_all (g:=fun i=>[Lit.int .u8 (zs.getD i 0)])]
  ·rfl
  ·intro i hi
   have hi':i<zs.length:=by rw [hl];exact List.mem_range.1 hi
   have hc:(List.drop (i * Tryz.prog.cellsOf 5) (u8s zs)).take (Tryz.prog.cellsOf 5)=[.int .u8 (zs.getD i 0)]:=by
    rw [byte_cells,Nat.mul_one,List.take_one,List.head?_drop,cP zs i hi']
    rfl
   have:=hb.get i
   rw [hc,hn]
   unfold Program.keyLits
   have hg:=wf_u8 _ this.1 this.2
   simp only [cy]
   exact if_pos ⟨trivial,hg⟩
 unfold keyOf
 rw [aS]
 simp only
 rw [if_pos (by rw [key_type,hf];rfl)]
 exact ⟨_,by rw [show (Value.agg (u8s zs).toArray).cells.toList=u8s zs from rfl,hk];rfl⟩
theorem fV:Tryz.prog.underlying 164=some (.map 39 130):=Tryz.underlying164
def noBeg:List Value:=[.pointer none,.pointer none]
def MapHas (w:World) (m:Nat) (key s:Value):Prop :=
 ∃(R:Value→Option (DataW Unit×List MemPlace)) (kl:Lit),keyOf Tryz.prog 39 key=some kl∧R s=some (.lit (.bool true),[])∧(∀v ps,R v=some (.lit (.bool true),ps)→v=s)∧R (.agg noBeg.toArray)=some (.lit (.bool false),[])∧w.ownsMap Tryz.prog 39 R m 1 ((DataW.map []).put kl (.lit (.bool true)))
theorem MapHas.isMap {w:World} {m:Nat} {key s:Value} (h:MapHas w m key s):∃es c,w.heap[m]?=some (.map es c):=by
 obtain ⟨_,_,_,_,_,_,es,c,hb,_⟩:=h
 exact ⟨es,c,hb⟩
theorem MapHas.kept {w w':World} {m:Nat} {key s:Value} (h:MapHas w m key s) (hg:w'.heap[m]?=w.heap[m]?):MapHas w' m key s:=by
 obtain ⟨R,kl,h1,h2,h3,h4,es,c,hb,h5⟩:=h
 exact ⟨R,kl,h1,h2,h3,h4,es,c,hg.trans hb,h5⟩
theorem MapHas.hidKept {w w':World} {m g:Nat} {key s:Value} {l:List Value} {t:TypeId} (h:MapHas w m key s) (hu:Upd g w w') (hr:Row w g l t):Hid (MapHas w' m key s):=by
 obtain ⟨es,c,hmap⟩:=h.isMap
 exact h.kept (hu.block m (Array.getElem?_eq_some_iff.1 hmap).1 (fun he=>by
  rw [he,hr] at hmap
  cases hmap))
def Started (w:World) (m:Nat) (zs:List Int):Prop :=
 w.heap[m]?=some (.map #[] 0)∨∃gi go,MapHas w m (.agg (u8s zs).toArray) (.agg (begV gi go).toArray)∧Row w gi (hrow (wsOf (padIn zs)) (restOf (padIn zs)) ((padIn zs).length:Int)) 168∧Row w go (hrow (wsOf (padOut zs)) (restOf (padOut zs)) ((padOut zs).length:Int)) 168
theorem Started.isMap {w:World} {m:Nat} {zs:List Int} (h:Started w m zs):∃es c,w.heap[m]?=some (.map es c):=by
 rcases h with h|⟨_,_,h,_⟩
 ·exact ⟨_,_,h⟩
 ·exact h.isMap
theorem jm {w:World} {g m:Nat} {l:List Value} {t:TypeId} {es:Array MapEntry} {c:Nat} (hr:Row w g l t) (hm:w.heap[m]?=some (.map es c)):g≠m:=by
 rintro rfl
 rw [hr] at hm
 cases hm
theorem Mem.updO {w0 w w':World} {S:List Nat} {rows:List (Nat×List Value×TypeId)} {m:Nat} {es:Array MapEntry} {c:Nat} (hm:Mem w0 S w rows) (hmap:w.heap[m]?=some (.map es c)) (hS:m∈S∨w0.heap.size≤m) (hu:Upd m w w'):Mem w0 S w' rows:=by
 refine ⟨hu.os.trans hm.os,hu.tape.trans hm.tape,hu.output.trans hm.output,Nat.le_trans hm.size hu.size,fun k hk hn=>?_,fun r hr=>hu.row (hm.row r hr) (jm (hm.row r hr) hmap),hm.nodup,hm.fresh⟩
 refine (hu.block k (Nat.lt_of_lt_of_le hk hm.size) ?_).trans (hm.block k hk hn)
 rintro rfl
 rcases hS with h|h
 ·exact hn h
 ·omega
theorem Mem.trans {w0 w w':World} {S:List Nat} {rows rows':List (Nat×List Value×TypeId)} (hm:Mem w0 S w rows) (h2:Mem w (rows.map Prod.fst) w' rows'):Mem w0 S w' rows':=by
 refine ⟨h2.os.trans hm.os,h2.tape.trans hm.tape,h2.output.trans hm.output,Nat.le_trans hm.size h2.size,fun k hk hn=>?_,h2.row,h2.nodup,fun r hr=>?_⟩
 ·refine (h2.block k (Nat.lt_of_lt_of_le hk hm.size) (fun hc=>?_)).trans (hm.block k hk hn)
  obtain ⟨r,hr,rfl⟩:=List.mem_map.1 hc
  rcases hm.fresh r hr with h|h
  ·exact hn h
  ·omega
 ·rcases h2.fresh r hr with h|h
  ·obtain ⟨q,hq,he⟩:=List.mem_map.1 h
   rw [←he]
   exact hm.fresh q hq
  ·exact Or.inr (Nat.le_trans hm.size h)
theorem Seg.notMap {w:World} {b off m:Nat} {cs:List Int} {es:Array MapEntry} {c:Nat} (h:Seg w b off cs) (h0:0<cs.length) (hm:w.heap[m]?=some (.map es c)):b≠m:=by
 rintro rfl
 have:=h 0 h0
 simp [World.cell?,hm] at this
theorem SlOld.updMap {w w':World} {v:Value} {cs:List Int} {m:Nat} {es:Array MapEntry} {c:Nat} (h:SlOld w v cs) (hm:w.heap[m]?=some (.map es c)) (hu:Upd m w w'):SlOld w' v cs:=by
 obtain ⟨p,cap,hv,hc,hs⟩:=h
 refine ⟨p,cap,hv,hc,fun h0=>?_⟩
 obtain ⟨b,off,hp,hseg⟩:=hs h0
 refine ⟨b,off,hp,fun j hj=>?_⟩
 rw [hu.cell (p:=⟨b,off+j,none⟩) (hseg.lt h0) (hseg.notMap h0 hm)]
 exact hseg j hj
theorem upd_of_mem {w w':World} {m:Nat} {rows:List (Nat×List Value×TypeId)} (hm:Mem w [m] w' rows):Upd m w w' :=
 ⟨hm.os,hm.tape,hm.output,hm.size,fun k hk hn=>hm.block k hk (by simpa using hn)⟩
theorem Mem.mapUpd {w0 w w':World} {rows:List (Nat×List Value×TypeId)} {m:Nat} {es:Array MapEntry} {c:Nat} (hm:Mem w0 [] w rows) (hmap:w.heap[m]?=some (.map es c)) (hg:w.grownBy w' (some m)):Mem w0 [m] w' rows:=by
 refine ⟨hg.os.trans hm.os,hg.tape.trans hm.tape,hg.output.trans hm.output,Nat.le_trans hm.size hg.size,fun k hk hn=>?_,fun r hr=>?_,hm.nodup,fun r hr=>Or.inr ?_⟩
 ·exact (hg.block k (Nat.lt_of_lt_of_le hk hm.size) (by simpa using hn)).trans (hm.block k hk (by simp))
 ·have hrow:=hm.row r hr
  unfold Row
  rw [hg.block r.1 hrow.lt (fun he=>jm hrow hmap (by simpa using he))]
  exact hrow
 ·have:=hm.fresh r hr
  simpa using this
theorem begV_ne (gi go:Nat):Value.agg (begV gi go).toArray≠.agg noBeg.toArray:=by
 simp [begV,noBeg]
theorem gG (gi go:Nat):∀v∈begV gi go,v.oneCell'=true:=by
 intro v hv
 simp [begV] at hv
 rcases hv with rfl|rfl<;>rfl
theorem noBeg_one:∀v∈noBeg,v.oneCell'=true:=by
 intro v hv
 simp [noBeg] at hv
 subst hv
 rfl
theorem pin_zero:∃R0:Value→Option (DataW Unit×List MemPlace),R0 (.agg noBeg.toArray)=some (.nil,[])∧∀v p,R0 v=some p→v=.agg noBeg.toArray:=by
 classical
 refine ⟨fun v=>if v=.agg noBeg.toArray then some (.nil,[]) else none,if_pos rfl,fun v p h=>?_⟩
 by_cases hv:v=.agg noBeg.toArray
 ·exact hv
 ·simp [hv] at h
theorem pin_of (s:Value) (hs:s≠.agg noBeg.toArray):∃R:Value→Option (DataW Unit×List MemPlace),R s=some (.lit (.bool true),[])∧(∀v ps,R v=some (.lit (.bool true),ps)→v=s)∧R (.agg noBeg.toArray)=some (.lit (.bool false),[]):=by
 classical
 refine ⟨fun v=>if v=s then some (.lit (.bool true),[]) else some (.lit (.bool false),[]),if_pos rfl,fun v ps h=>?_,if_neg (fun h=>hs h.symm)⟩
 by_cases hv:v=s
 ·exact hv
 ·simp [hv] at h
theorem own_none {W:World} {m:Nat} (h:W.heap[m]?=some (.map #[] 0)) (R:Value→Option (DataW Unit×List MemPlace)):W.ownsMap Tryz.prog 39 R m 0 (.map []) :=
 ⟨#[],0,h,⟨by simp,MapKept.stamped_empty 0,by simp⟩,Nat.le_refl _,rfl⟩
theorem under_first (zs:List Int) (m:Nat) (hl:zs.length=32) (hb:Bytes zs) (w:World) (ht:Tab w) (hm0:w.heap[m]?=some (.map #[] 0)) :
  Calls Tryz.prog 102 #[.map (some m),.agg (u8s zs).toArray] w fun e w'=>∃gi go,e=.returned (.agg (begV gi go).toArray)∧MapHas w' m (.agg (u8s zs).toArray) (.agg (begV gi go).toArray)∧Row w' gi (hrow (wsOf (padIn zs)) (restOf (padIn zs)) ((padIn zs).length:Int)) 168∧Row w' go (hrow (wsOf (padOut zs)) (restOf (padOut zs)) ((padOut zs).length:Int)) 168∧Upd m w w':=by
 obtain ⟨kl,hkl⟩:=key_of zs hl hb
 have hm:=Mem.start w
 obtain ⟨R0,hR0,hR0i⟩:=pin_zero
 have HMT:Hid (m<w.heap.size):=(Array.getElem?_eq_some_iff.1 hm0).1
 have HT:Hid _:=ht
 have HL:Hid _:=hl
 have HKL:Hid _:=hkl
 have HM0:Hid _:=hm0
 have HR0:Hid _:=hR0
 have HR0I:Hid _:=hR0i
 have HB:Hid _:=hb
 have HFB:Hid _:=dG hb
 have HU:Hid ((u8s zs).length=32):=by show _=_;rw [ab];exact hl
 clear ht hl hkl hm0 hR0 hR0i hb
 go_enter Tryz.func102,Tryz.ntmps102
 go_wp2_with (first
  | ((with_reducible refine aa (some 3) (.box 39 (.tmp 1)) ?_);refine aB (u8s zs) rfl hm ?_;clear hm;intro w1 g3 hm)
  | ((with_reducible refine aa (some 4) (.alloc 130) ?_);refine aj _ dz hm ?_;clear hm;intro w2 g4 hm)
  | ((with_reducible refine aa (some 10) (.load 39 (.tmp 3)) ?_);refine ay 1 hm rfl rfl _ aS rfl 32 az (HU.out) ?_)
  | ((with_reducible refine aa (some 11) (.lookup 164 (.tmp 9) (.tmp 10) true) ?_);refine wpList_lookup_own_ok _ rfl _ _ 164 rfl 39 130 gg fV R0 (dz _) .nil [] HR0.out m 0 (.map []) rfl (own_none ((hm.block m HMT.out (by simp)).trans HM0.out) R0) _ kl rfl HKL.out ?_;intro v ps hv;obtain rfl:=HR0I.out v _ hv;clear hv;rw [show Maps.has (DataW.map ([]:List (Lit×DataW Unit))) kl=false from rfl])
  | ((with_reducible refine aa (some 5) (.alloc 130) ?_);refine aj _ dz hm ?_;clear hm;intro w3 g5 hm)
  | ((with_reducible refine aa none (.store 130 (.tmp 5) (.tmp 12)) ?_);refine ap 0 noBeg hm rfl rfl rfl 2 dC (rfl) (rfl) (noBeg_one) ?_;clear hm;intro w4 hm)
  | (go_at_call 70;refine (iU zs _ HB.out (by rw [HL.out];omega) _ (Tab.mem HT.out hm (by simp)) (bB (hm.get 2 rfl) HL.out (Nat.le_refl _))).mono ?_;rintro e w5 ⟨rfl,hb⟩;replace hm:=hm.call hb;clear hb)
  | (go_at_call 69;refine (begin_any (fillOf zs) (cK _) HFB.out _ (Tab.mem HT.out hm (by simp))).mono ?_;rintro e w6 ⟨gi,go,rfl,hgi,hgo,hne,hri,hro,hb⟩;replace hm:=hm.callNew2 hb hri hro hgi hgo hne;clear hb hri hro hgi hgo hne)
  | ((with_reducible refine aa (some 7) (.alloc 130) ?_);refine aj _ dz hm ?_;clear hm;intro w7 g7 hm)
  | ((with_reducible refine aa none (.store 130 (.tmp 7) (.tmp 18)) ?_);refine ap 0 (begV gi go) hm rfl rfl rfl 2 dC (rfl) (rfl) (gG _ _) ?_;clear hm;intro w8 hm)
  | ((with_reducible refine aa (some 20) (.load 39 (.tmp 3)) ?_);refine ay 5 hm rfl rfl _ aS rfl 32 az (HU.out) ?_)
  | ((with_reducible refine aa (some 21) (.load 130 (.tmp 7)) ?_);refine ay 0 hm rfl rfl _ gM rfl 2 dC (rfl) ?_)
  | ((with_reducible refine aa none (.mapUpdate 164 (.tmp 19) (.tmp 20) (.tmp 21)) ?_);obtain ⟨R1,hR1,hR1i,hR1z⟩:=pin_of (.agg (begV gi go).toArray) (begV_ne gi go);refine wpList_mapUpdate_own _ rfl _ _ _ 164 rfl 39 130 gg fV R1 m 0 (.map []) rfl (own_none ((hm.block m HMT.out (by simp)).trans HM0.out) R1) (by unfold maxLen;omega) _ _ kl rfl rfl HKL.out (.lit (.bool true)) [] hR1 ?_;intro w9 hown1 hg1;have HAS:Hid (MapHas w9 m (.agg (u8s zs).toArray) (.agg (begV gi go).toArray)):=⟨R1,kl,HKL.out,hR1,hR1i,hR1z,hown1⟩;clear hown1 hR1 hR1i hR1z;have hm9:=hm.mapUpd ((hm.block m HMT.out (by simp)).trans HM0.out) hg1;clear hm hg1;have hm:=hm9;clear hm9)
  | ((with_reducible refine aa (some 22) (.load 130 (.tmp 7)) ?_);refine ay 0 hm rfl rfl _ gM rfl 2 dC (rfl) ?_)
  | ((with_reducible refine aa none (.store 130 (.tmp 4) (.tmp 22)) ?_);go_must (refine wpl_stwV 4 (begV gi go) hm rfl rfl rfl 2 dC rfl rfl (gG _ _) ?_);intro w10 hu hm10;go_must (have HAS2:=MapHas.hidKept HAS.out hu (hm.get 4 rfl));clear hm hu HAS;have hm:=hm10;clear hm10))

 exact aJ 4 hm rfl Tryz.results102 rfl _ gM rfl 2 dC rfl rfl ⟨gi,go,rfl,HAS2.out,hm.get 1 rfl,hm.get 2 rfl,upd_of_mem hm⟩
theorem under_again (zs:List Int) (m gi go:Nat) (hl:zs.length=32) (w:World) (hh:MapHas w m (.agg (u8s zs).toArray) (.agg (begV gi go).toArray)) :
  Calls Tryz.prog 102 #[.map (some m),.agg (u8s zs).toArray] w fun e w'=>e=.returned (.agg (begV gi go).toArray)∧Below w.heap.size w w':=by
 obtain ⟨R,kl,hkl,hR,hRi,hRz,es,c,hblock,hrest⟩:=hh
 have hm:=Mem.start w
 have HMT:Hid (m<w.heap.size):=(Array.getElem?_eq_some_iff.1 hblock).1
 have HKL:Hid _:=hkl
 have HR:Hid _:=hR
 have HRI:Hid _:=hRi
 have HRZ:Hid _:=hRz
 have HBL:Hid _:=hblock
 have HRE:Hid _:=hrest
 have HA:Hid (((DataW.map ([]:List (Lit×DataW Unit))).put kl (.lit (.bool true))).atKey kl (.lit (.bool false))=.lit (.bool true)):=atKey_put_same isMap_empty (gg.key hkl) _ _
 have HH:Hid (Maps.has ((DataW.map ([]:List (Lit×DataW Unit))).put kl (.lit (.bool true))) kl=true):=has_put_same isMap_empty (gg.key hkl) _
 have HU:Hid ((u8s zs).length=32):=by show _=_;rw [ab];exact hl
 clear hl hkl hR hRi hRz hblock hrest
 go_enter Tryz.func102,Tryz.ntmps102
 go_wp2_with (first
  | ((with_reducible refine aa (some 3) (.box 39 (.tmp 1)) ?_);refine aB (u8s zs) rfl hm ?_;clear hm;intro w1 g3 hm)
  | ((with_reducible refine aa (some 4) (.alloc 130) ?_);refine aj _ dz hm ?_;clear hm;intro w2 g4 hm)
  | ((with_reducible refine aa (some 10) (.load 39 (.tmp 3)) ?_);refine ay 1 hm rfl rfl _ aS rfl 32 az (HU.out) ?_)
  | ((with_reducible refine aa (some 11) (.lookup 164 (.tmp 9) (.tmp 10) true) ?_);refine wpList_lookup_own_ok _ rfl _ _ 164 rfl 39 130 gg fV R (dz _) (.lit (.bool false)) [] HRZ.out m 1 ((DataW.map ([]:List (Lit×DataW Unit))).put kl (.lit (.bool true))) rfl ⟨es,c,(hm.block m HMT.out (by simp)).trans HBL.out,HRE.out⟩ _ kl rfl HKL.out ?_;intro v ps hv;rw [HA.out] at hv;obtain rfl:=HRI.out v _ hv;clear hv;rw [HH.out])
  | ((with_reducible refine aa (some 5) (.alloc 130) ?_);refine aj _ dz hm ?_;clear hm;intro w3 g5 hm)
  | ((with_reducible refine aa none (.store 130 (.tmp 5) (.tmp 12)) ?_);refine ap 0 (begV gi go) hm rfl rfl rfl 2 dC (rfl) (rfl) (gG _ _) ?_;clear hm;intro w4 hm)
  | ((with_reducible refine aa (some 15) (.load 130 (.tmp 5)) ?_);refine ay 0 hm rfl rfl _ gM rfl 2 dC (rfl) ?_)
  | ((with_reducible refine aa none (.store 130 (.tmp 4) (.tmp 15)) ?_);refine ap 1 (begV gi go) hm rfl rfl rfl 2 dC (rfl) (rfl) (gG _ _) ?_;clear hm;intro w5 hm))

 exact aJ 1 hm rfl Tryz.results102 rfl _ gM rfl 2 dC rfl rfl ⟨rfl,hm.below⟩
theorem under_any (zs:List Int) (m:Nat) (hl:zs.length=32) (hb:Bytes zs) (w:World) (ht:Tab w) (hs:Started w m zs) :
  Calls Tryz.prog 102 #[.map (some m),.agg (u8s zs).toArray] w fun e w'=>∃gi go,e=.returned (.agg (begV gi go).toArray)∧MapHas w' m (.agg (u8s zs).toArray) (.agg (begV gi go).toArray)∧Row w' gi (hrow (wsOf (padIn zs)) (restOf (padIn zs)) ((padIn zs).length:Int)) 168∧Row w' go (hrow (wsOf (padOut zs)) (restOf (padOut zs)) ((padOut zs).length:Int)) 168∧Upd m w w':=by
 rcases hs with hs|⟨gi,go,hs,hri,hro⟩
 ·exact under_first zs m hl hb w ht hs
 ·refine (under_again zs m gi go hl w hs).mono ?_
  rintro e w' ⟨rfl,hb⟩
  obtain ⟨es,c,hmap⟩:=hs.isMap
  exact ⟨gi,go,rfl,hs.kept (hb.block m (Array.getElem?_eq_some_iff.1 hmap).1),hri.below' hb,hro.below' hb,Upd.of_below hb⟩
end Go.Proofs.YtnllomcajijbjaaGreatDoor
