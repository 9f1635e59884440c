import Derived.Test.YtlpnafdkhoimhaaGreatDoorQr37
set_option maxRecDepth 100000
set_option maxHeartbeats 4000000
namespace Go.Proofs.YtlpnafdkhoimhaaGreatDoor
open Go Go.RowKit
def ConB (w:World) (base:Nat) (v:Value) (zs:List Int):Prop :=
 ∃g cap cur fz,v=.slice (some ⟨g,0,none⟩) zs.length cap∧base≤g∧w.heap[g]?=some (.cells cur 5 fz)∧(fz=(0,0)∨cap≤fz.1)∧zs.length≤cap∧cap≤maxLen∧cur.size=cap∧cur.toList.take zs.length=u8s zs
section
variable {w w' w0:World} {base:Nat} {v:Value} {zs:List Int} {S:List Nat} {rows:List (Nat×List Value×TypeId)}
theorem ConB.cells (h:ConB w base v zs):∃g cap,v=.slice (some ⟨g,0,none⟩) zs.length cap∧base≤g∧zs.length≤cap∧Seg w g 0 zs:=by
 obtain ⟨g,cap,cur,fz,hv,hb,hg,_,hn,_,hs,ht⟩:=h
 refine ⟨g,cap,hv,hb,hn,fun j hj=>?_⟩
 rw [cell_of_row w g (0+j) _ _ fz hg,Nat.zero_add]
 have h1:(cur.toList.take zs.length)[j]?=cur[j]?:=by rw [List.getElem?_take,if_pos hj,Array.getElem?_toList]
 rw [←h1,ht,cK zs j hj]
theorem ConB.old (h:ConB w base v zs):SlOld w v zs:=by
 obtain ⟨g,cap,hv,_,hn,hseg⟩:=h.cells
 exact ⟨_,cap,hv,hn,fun _=>⟨g,0,rfl,hseg⟩⟩
theorem ConB.kept (h:ConB w base v zs) (hb:Below w.heap.size w w'):ConB w' base v zs:=by
 obtain ⟨g,cap,cur,fz,hv,hb0,hg,h1⟩:=h
 exact ⟨g,cap,cur,fz,hv,hb0,by rw [hb.block g (Array.getElem?_eq_some_iff.1 hg).1];exact hg,h1⟩
theorem ConB.apart (h:ConB w base v zs) {g:Nat} {l:List Value} {t:TypeId} (hr:Row w g l t) (ht:t≠5):v.ownBlock≠some g:=by
 obtain ⟨g',cap,cur,fz,rfl,_,hg,_⟩:=h
 intro he
 have hgg:g'=g:=by simpa [Value.ownBlock] using he
 subst hgg
 rw [hr] at hg
 simp only [Option.some.injEq,Obj.cells.injEq] at hg
 exact ht hg.2.1
theorem Mem.grownC (hm:Mem w0 S w rows) (h:ConB w w0.heap.size v zs) (hty:∀r∈rows,r.2.2≠5) (hg:w.grownBy w' v.ownBlock):Mem w0 S w' rows:=by
 refine ⟨hg.os.trans hm.os,hg.tape.trans hm.tape,hg.output.trans hm.output,Nat.le_trans hm.size hg.size,fun k hk hn=>?_,fun r hr=>?_,hm.nodup,hm.fresh⟩
 ·refine (hg.block k (Nat.lt_of_lt_of_le hk hm.size) (fun he=>?_)).trans (hm.block k hk hn)
  obtain ⟨g,cap,cur,fz,rfl,hb,_⟩:=h
  have:k=g:=by simpa [Value.ownBlock] using he
  omega
 ·have hrow:=hm.row r hr
  unfold Row
  rw [hg.block r.1 hrow.lt (fun he=>h.apart hrow (hty r hr) he.symm)]
  exact hrow
theorem run_app1 (typ:TypeId) (h:ConB w base v zs) (b off c:Nat) (y:Int) (hsrc:Seg w b off [y]) (hlen:zs.length+1≤1099511627776) (hbase:base≤w.heap.size) :
  ∃v' w',(Builtin.append_ #[56,56] typ #[v,.slice (some ⟨b,off,none⟩) 1 c]).run Tryz.prog w=.ok v' w'∧ConB w' base v' (zs++[y])∧w.grownBy w' v.ownBlock∧(v'.ownBlock=v.ownBlock∨v'.ownBlock=some w.heap.size):=by
 have hi:=bF
 have hcells:=h.cells
 obtain ⟨g,cap,cur,fz,rfl,hb,hg,hfz,hn,hcm,hs,ht⟩:=h
 cases hq:Tryz.prog.info? 5 with
 | none=>simp [hq] at hi
 | some i =>
  simp only [hq,Option.map_some,Option.some.injEq,Prod.mk.injEq] at hi
  obtain ⟨hz,h1,h2⟩:=hi
  have hl1:(zs++[y]).length=zs.length+1:=by simp
  have hnews:∀j u,(u8s [y])[j]?=some u→w.cell? ((⟨b,off,none⟩:Addr).add j)=some u:=hsrc.src
  by_cases hroom:zs.length+1≤cap
  ·have hf:=run_firstCells_some (P:=Tryz.prog) w i.size 1 ⟨b,off,none⟩ 1 c (u8s [y]) (by rw [h1];rfl) hnews
   have hcell:w.cell? ⟨g,zs.length,none⟩=some (cur[zs.length]'(by omega)):=by
    rw [cell_of_row w g zs.length _ _ fz hg]
    simp [show zs.length<cur.size by omega]
   have hfree:w.frozen? ⟨g,zs.length,none⟩=false:=by
    rcases hfz with rfl|hf1
    ·simp [World.frozen?,hg]
    ·obtain ⟨lo,hi2⟩:=fz
     simp only [World.frozen?,hg,Bool.and_eq_false_iff,decide_eq_false_iff_not]
     left
     simp only at hf1
     omega
   have hst:(store ⟨g,zs.length,none⟩ (.int .u8 y)).run Tryz.prog w=.ok () (w.setCell ⟨g,zs.length,none⟩ (.int .u8 y)):=by
    rw [run_store Tryz.prog w _ _ _ rfl,hcell];simp [hfree]
   have hadd:(⟨g,0,none⟩:Addr).add zs.length=⟨g,zs.length,none⟩:=by rw [bK,Nat.zero_add]
   have hadd0:(⟨g,zs.length,none⟩:Addr).add 0=⟨g,zs.length,none⟩:=by rw [bK,Nat.add_zero]
   have hnb:(w.setCell ⟨g,zs.length,none⟩ (.int .u8 y)).heap[g]?=some (.cells (cur.setIfInBounds zs.length (.int .u8 y)) 5 fz):=by
    simp [World.setCell,Array.getElem?_modify,hg]
   refine ⟨.slice (some ⟨g,0,none⟩) (zs.length+1) cap,w.setCell ⟨g,zs.length,none⟩ (.int .u8 y),?_,⟨g,cap,_,fz,by rw [hl1],hb,hnb,hfz,by rw [hl1];exact hroom,hcm,by simpa using hs,?_⟩,⟨rfl,rfl,rfl,by simp,fun k _ hk=>heap_setCell_other w _ k _ (fun e=>hk (by simp [Value.ownBlock,e]))⟩,Or.inl rfl⟩
   ·rw [h1] at hf
    simp [Builtin.append_,run_underlying aF,sizeOf,typeInfo,hq,h1,Builtin.lenOf,hroom,hf,u8s,storeCells,hadd,hadd0,hst]
   ·rw [hl1]
    have e1:(cur.setIfInBounds zs.length (.int .u8 y)).toList=cur.toList.set zs.length (.int .u8 y):=by simp
    have hlt:zs.length<cur.toList.length:=by
     have hq2:cur.toList.length=cur.size:=Array.length_toList
     omega
    rw [e1,List.take_succ_eq_append_getElem (by rw [List.length_set];exact hlt),List.take_set_of_le (Nat.le_refl _),ht]
    simp [u8s]
  ·have holds:∀j u,(u8s zs)[j]?=some u→w.cell? ((⟨g,0,none⟩:Addr).add j)=some u:=by
    obtain ⟨g2,cap2,hv2,_,_,hseg⟩:=hcells
    simp only [Value.slice.injEq,Option.some.injEq,Addr.mk.injEq,and_true,true_and] at hv2
    obtain ⟨rfl,_⟩:=hv2
    exact hseg.src
   have hr:=run_append_grow (P:=Tryz.prog) w 56 typ 5 i (.int .u8 0) aF hq hz ⟨g,0,none⟩ zs.length cap (u8s zs) (by rw [h1,aa,Nat.mul_one]) holds ⟨b,off,none⟩ 1 c (u8s [y]) (by rw [h1];rfl) hnews (by omega) (by omega) (growslice_fits (by omega) (by rw [h2];omega))
   have hge:=grownCap_ge w (zs.length+1) cap 5
   have hcm2:grownCap w (zs.length+1) cap 5≤maxLen:=grownCap_le_maxLen w (zs.length+1) cap 5 (by unfold maxLen;omega)
   refine ⟨_,_,hr,⟨w.heap.size,_,_,(0,0),by rw [hl1],hbase,heap_alloc_new w.drew _,Or.inl rfl,by rw [hl1];exact hge,hcm2,?_,?_⟩,⟨rfl,rfl,rfl,by simp,fun k hk _=>Below.heap_alloc w.drew _ _ hk⟩,Or.inr rfl⟩
   ·simp only [Array.size_append,List.size_toArray,size_zeroCells,aa]
    simp [Value.cells]
    omega
   ·rw [hl1]
    have e2:((u8s zs).toArray++(u8s [y]).toArray++Builtin.zeroCells (Value.int .u8 0).cells (grownCap w (zs.length+1) cap 5 - (zs.length+1))).toList=u8s (zs++[y])++(Builtin.zeroCells (Value.int .u8 0).cells (grownCap w (zs.length+1) cap 5 - (zs.length+1))).toList:=by
     simp [u8s]
    rw [e2,List.take_append_of_le_length (by rw [aa,hl1];exact Nat.le_refl _),List.take_of_length_le (by rw [aa,hl1];exact Nat.le_refl _)]
end
section
variable {ops:Array Oper} {rest:List Oper} {a:Act} {w w0:World} {Q:Exit→Act→World→Prop} {dst:Option Tmp} {typ:TypeId} {pos:String} {aft:Array Edge} {v:Value} {zs:List Int} {S:List Nat} {rows:List (Nat×List Value×TypeId)}
theorem iv {s x:Operand} {base b off c:Nat} (y:Int) (hcon:ConB w base v zs) (hbase:base≤w.heap.size) (hs:a.eval s=v) (hx:a.eval x=.slice (some ⟨b,off,none⟩) 1 c) (hsrc:Seg w b off [y]) (hlen:zs.length+1≤1099511627776)
  (h:∀v' w',ConB w' base v' (zs++[y])→w.grownBy w' v.ownBlock→(v'.ownBlock=v.ownBlock∨v'.ownBlock=some w.heap.size)→wpList Tryz.prog ops Q rest (a.put dst v') w') :
  wpList Tryz.prog ops Q ({dst:=dst,op:=.call {callee:=.builtin .append,args:=#[s,x],argTypes:=#[56,56]},type:=typ,pos:=pos,after:=aft,guard:=none}::rest) a w:=by
 obtain ⟨v',w',hr,ho,hg,hv⟩:=run_app1 typ hcon b off c y hsrc hlen hbase
 refine wpList_plain rfl fun K hK=>?_
 have hh:=hK _ _ (h v' w' ho hg hv)
 unfold Oper.wp execOp
 simp only [resolve,invoke,builtin,Sem.run_bind,Sem.run_pure,Result.andThen_ok,List.map_toArray,List.map_cons,List.map_nil,hs,hx,hr]
 exact hh
theorem str_con (w:World) (base:Nat) (hb:base≤w.heap.size) (s:ByteArray) (hs:s.size≤1000000):ConB (Lib.bytesWorld w 5 s) base (.slice (some ⟨w.heap.size,0,none⟩) s.size (grownCap w s.size 0 5)) (strB s):=by
 have hge:=grownCap_ge w s.size 0 5
 have hsz:(Lib.bytesCells w 5 s).size=grownCap w s.size 0 5:=by
  have:s.data.size=s.size:=rfl
  simp [Lib.bytesCells,this]
  omega
 refine ⟨w.heap.size,_,_,_,by rw [bJ],hb,Lib.bytesWorld_at_new w 5 s,Or.inr (by rw [hsz];exact Nat.le_refl _),by rw [bJ];exact hge,grownCap_le_maxLen w s.size 0 5 (by unfold maxLen;omega),hsz,?_⟩
 rw [bJ]
 have e:(Lib.bytesCells w 5 s).toList=u8s (strB s)++List.replicate (grownCap w s.size 0 5 - s.size) (.int .u8 0):=by simp [Lib.bytesCells,strB,u8s]
 rw [e,List.take_append_of_le_length (by rw [aa,bJ];exact Nat.le_refl _),List.take_of_length_le (by rw [aa,bJ];exact Nat.le_refl _)]
theorem wpl_strc {st bt:TypeId} {x:Operand} (hs:Tryz.prog.underlying st=some .string) (hd:Tryz.prog.underlying bt=some (.slice 5)) (s:ByteArray) (hsl:s.size≤1000000) (hx:a.eval x=.string s) (hm:Mem w0 S w rows)
  (h:∀w' g c,Mem w0 S w' rows→ConB w' w0.heap.size (.slice (some ⟨g,0,none⟩) s.size c) (strB s)→wpList Tryz.prog ops Q rest (a.put dst (.slice (some ⟨g,0,none⟩) s.size c)) w') :
  wpList Tryz.prog ops Q ({dst:=dst,op:=.convert st bt x,type:=typ,pos:=pos,after:=aft,guard:=none}::rest) a w:=by
 refine wpList_plain rfl fun K hK=>?_
 have hh:=hK _ _ (h _ _ _ (hm.call (i8 w 5 s)) (str_con w w0.heap.size hm.size s hsl))
 unfold Oper.wp execOp
 simp only [hx,Lib.run_convert_string_bytes (P:=Tryz.prog) w st bt 5 s hs hd b7,Sem.run_bind,Sem.run_pure,Result.andThen_ok]
 exact hh
end
theorem be4_shift (n:Int):be4 n=[n / 16777216 % 256,n / 65536 % 256,n / 256 % 256,n % 256]:=by
 unfold be4
 rw [show n / 256 / 256 / 256=n / 16777216 by omega,show n / 256 / 256=n / 65536 by omega]
end Go.Proofs.YtlpnafdkhoimhaaGreatDoor
namespace Go.Proofs.YtlpnafdkhoimhaaGreatDoor
open Go Go.RowKit
theorem eR {w w1 w2:World} {r:Option Nat} (h:w.grownBy w1 r) (hb:Below w1.heap.size w1 w2):w.grownBy w2 r :=
 h.andThen (bE hb) (fun j hj=>by cases hj)
theorem putRef4_any (v:Value) (zs:List Int) (x:Int) (hx:0≤x∧x<4294967296) (base:Nat) (w:World) (hcon:ConB w base v zs) (hbase:base≤w.heap.size) (hlen:zs.length≤1000000) :
  Calls Tryz.prog 56 #[v,.int .u64 x,.int .i64 4] w fun e w'=>∃v',e=.returned v'∧ConB w' base v' (zs++be4 x)∧w.grownBy w' v.ownBlock:=by
 obtain ⟨hx0,hx1⟩:=hx
 have HC0:Hid (ConB w base v zs):=hcon
 have HG0:Hid (w.grownBy w v.ownBlock):=World.grownBy.refl _ _
 have HL0:Hid (Later w v v):=Later.refl _ _
 have HB0:Hid (base≤w.heap.size):=hbase
 clear hcon hbase
 go_enter Tryz.func56,Tryz.ntmps56
 go_wp2_with fail
 refine wp_loop_rounds 5 ?_
 rw [rounds_succ]
 go_wp2_with (first
  | ((with_reducible refine ae (some 25) (.buildSlice 56 1 #[(0,.tmp 24)]) ?_);go_must (refine bM rfl (.int .u8 0) (.int .u8 (x / 16777216)) aF bV rfl rfl rfl (Mem.start w) ?_);intro a0 g0 hb0 hm0;have HCa0:Hid (ConB a0 base v zs):=ConB.kept HC0.out hb0;have HGa0:Hid (w.grownBy a0 v.ownBlock):=eR HG0.out hb0;have HSa0:Hid (Seg a0 g0 0 [x / 16777216]):=Seg.row (l:=[x / 16777216]) (hm0.get 0 rfl);have HBa0:Hid (base≤a0.heap.size):=Nat.le_trans HB0.out hb0.size;clear hb0 hm0)
  | ((with_reducible refine ae (some 26) (.call {callee:=.builtin .append,args:=#[.tmp 18,.tmp 25],argTypes:=#[56,56]}) ?_);go_must (refine iv (x / 16777216) HCa0.out HBa0.out rfl rfl HSa0.out (by simp;omega) ?_);intro v1 b1 hc hg hl;have HC1:Hid (ConB b1 base v1 (zs++[x / 16777216])):=hc;have HG1:Hid (w.grownBy b1 v.ownBlock):=eq HGa0.out HL0.out hg;have HL1:Hid (Later w v v1):=Later.step HL0.out HGa0.out.size hl;have HB1:Hid (base≤b1.heap.size):=Nat.le_trans HBa0.out hg.size;clear hc hg hl HCa0 HGa0 HSa0 HBa0))
 rw [rounds_succ]
 go_wp2_with (first
  | ((with_reducible refine ae (some 25) (.buildSlice 56 1 #[(0,.tmp 24)]) ?_);go_must (refine bM rfl (.int .u8 0) (.int .u8 (x / 65536 % 256)) aF bV rfl rfl rfl (Mem.start b1) ?_);intro a1 g1 hb1 hm1;have HCa1:Hid (ConB a1 base v1 (zs++[x / 16777216])):=ConB.kept HC1.out hb1;have HGa1:Hid (w.grownBy a1 v.ownBlock):=eR HG1.out hb1;have HSa1:Hid (Seg a1 g1 0 [x / 65536 % 256]):=Seg.row (l:=[x / 65536 % 256]) (hm1.get 0 rfl);have HBa1:Hid (base≤a1.heap.size):=Nat.le_trans HB1.out hb1.size;clear hb1 hm1)
  | ((with_reducible refine ae (some 26) (.call {callee:=.builtin .append,args:=#[.tmp 18,.tmp 25],argTypes:=#[56,56]}) ?_);go_must (refine iv (x / 65536 % 256) HCa1.out HBa1.out rfl rfl HSa1.out (by simp;omega) ?_);intro v2 b2 hc hg hl;have HC2:Hid (ConB b2 base v2 ((zs++[x / 16777216])++[x / 65536 % 256])):=hc;have HG2:Hid (w.grownBy b2 v.ownBlock):=eq HGa1.out HL1.out hg;have HL2:Hid (Later w v v2):=Later.step HL1.out HGa1.out.size hl;have HB2:Hid (base≤b2.heap.size):=Nat.le_trans HBa1.out hg.size;clear hc hg hl HCa1 HGa1 HSa1 HBa1))
 rw [rounds_succ]
 go_wp2_with (first
  | ((with_reducible refine ae (some 25) (.buildSlice 56 1 #[(0,.tmp 24)]) ?_);go_must (refine bM rfl (.int .u8 0) (.int .u8 (x / 256 % 256)) aF bV rfl rfl rfl (Mem.start b2) ?_);intro a2 g2 hb2 hm2;have HCa2:Hid (ConB a2 base v2 ((zs++[x / 16777216])++[x / 65536 % 256])):=ConB.kept HC2.out hb2;have HGa2:Hid (w.grownBy a2 v.ownBlock):=eR HG2.out hb2;have HSa2:Hid (Seg a2 g2 0 [x / 256 % 256]):=Seg.row (l:=[x / 256 % 256]) (hm2.get 0 rfl);have HBa2:Hid (base≤a2.heap.size):=Nat.le_trans HB2.out hb2.size;clear hb2 hm2)
  | ((with_reducible refine ae (some 26) (.call {callee:=.builtin .append,args:=#[.tmp 18,.tmp 25],argTypes:=#[56,56]}) ?_);go_must (refine iv (x / 256 % 256) HCa2.out HBa2.out rfl rfl HSa2.out (by simp;omega) ?_);intro v3 b3 hc hg hl;have HC3:Hid (ConB b3 base v3 (((zs++[x / 16777216])++[x / 65536 % 256])++[x / 256 % 256])):=hc;have HG3:Hid (w.grownBy b3 v.ownBlock):=eq HGa2.out HL2.out hg;have HL3:Hid (Later w v v3):=Later.step HL2.out HGa2.out.size hl;have HB3:Hid (base≤b3.heap.size):=Nat.le_trans HBa2.out hg.size;clear hc hg hl HCa2 HGa2 HSa2 HBa2))
 rw [rounds_succ]
 go_wp2_with (first
  | ((with_reducible refine ae (some 25) (.buildSlice 56 1 #[(0,.tmp 24)]) ?_);go_must (refine bM rfl (.int .u8 0) (.int .u8 (x % 256)) aF bV rfl rfl rfl (Mem.start b3) ?_);intro a3 g3 hb3 hm3;have HCa3:Hid (ConB a3 base v3 (((zs++[x / 16777216])++[x / 65536 % 256])++[x / 256 % 256])):=ConB.kept HC3.out hb3;have HGa3:Hid (w.grownBy a3 v.ownBlock):=eR HG3.out hb3;have HSa3:Hid (Seg a3 g3 0 [x % 256]):=Seg.row (l:=[x % 256]) (hm3.get 0 rfl);have HBa3:Hid (base≤a3.heap.size):=Nat.le_trans HB3.out hb3.size;clear hb3 hm3)
  | ((with_reducible refine ae (some 26) (.call {callee:=.builtin .append,args:=#[.tmp 18,.tmp 25],argTypes:=#[56,56]}) ?_);go_must (refine iv (x % 256) HCa3.out HBa3.out rfl rfl HSa3.out (by simp;omega) ?_);intro v4 b4 hc hg hl;have HC4:Hid (ConB b4 base v4 ((((zs++[x / 16777216])++[x / 65536 % 256])++[x / 256 % 256])++[x % 256])):=hc;have HG4:Hid (w.grownBy b4 v.ownBlock):=eq HGa3.out HL3.out hg;have HL4:Hid (Later w v v4):=Later.step HL3.out HGa3.out.size hl;have HB4:Hid (base≤b4.heap.size):=Nat.le_trans HBa3.out hg.size;clear hc hg hl HCa3 HGa3 HSa3 HBa3))
 rw [rounds_succ]
 go_wp2_with fail
 go_ret
 refine ⟨_,rfl,?_,HG4.out⟩
 have h:=HC4.out
 rw [be4_shift,show x / 16777216 % 256=x / 16777216 by omega]
 simpa using h
def cpUp (l:List Int) (i:Nat):List Int:=l.take i++List.replicate (32 - i) 0
theorem cpUp_length (l:List Int) (h:l.length=32) (i:Nat) (hi:i≤32):(cpUp l i).length=32:=by simp [cpUp,h];omega
theorem cpUp_full (l:List Int) (h:l.length=32):cpUp l 32=l:=by
 unfold cpUp
 rw [List.take_of_length_le (by omega)]
 simp
theorem cpUp_set (l:List Int) (h:l.length=32) (i:Nat) (hi:i<32):(cpUp l i).set i (l.getD i 0)=cpUp l (i+1):=by
 have ht:(l.take i).length=i:=by rw [List.length_take];omega
 have hg:l.getD i 0=l[i]'(by omega):=by simp [show i<l.length by omega]
 unfold cpUp
 rw [List.set_append_right _ _ (by omega),ht,Nat.sub_self,show 32 - i=(32 - (i+1))+1 by omega,List.replicate_succ,List.set_cons_zero,List.take_succ_eq_append_getElem (by omega),hg,List.append_assoc]
 rfl
theorem gL (ks:List Int) (s:ByteArray) (n:Int) (hkl:ks.length=32) (hkb:Bytes ks) (hsl:s.size≤50000) (hn:0≤n∧n<4294967296) (w:World) :
  Calls Tryz.prog 25 #[.agg (u8s ks).toArray,.string s,.int .u32 n] w fun e w'=>e=.returned (.agg (u8s (deriveOf ks (strB s) n)).toArray)∧Below w.heap.size w w':=by
 have HN:Hid (0≤n∧n<4294967296):=hn
 obtain ⟨hn0,hn1⟩:=hn
 have hm:=Mem.start w
 have HKL:Hid _:=hkl
 have HKB:Hid _:=hkb
 have HSL:Hid ((strB s).length≤50000):=by show _≤_;rw [bJ];exact hsl
 have HIB:Hid (Bytes (strB s++be4 n)):=(lp s).append (jp n)
 have HU:Hid ((u8s ks).length=32):=by show _=_;rw [aa];exact hkl
 obtain ⟨Ls,hLs⟩:∃L,L=(strB s++be4 n).length:=⟨_,rfl⟩
 have HLs:Hid (∀_:Unit,(strB s++be4 n).length=Ls):=fun _=>hLs.symm
 obtain ⟨D,hD⟩:∃D,D=deriveOf ks (strB s) n:=⟨_,rfl⟩
 have HDE:Hid (∀_:Unit,expandOf ks (strB s++be4 n) 32=D):=by intro _;rw [hD];exact jL _ _ _
 have HDL:Hid (D.length=32):=by show _=_;rw [hD,bk]
 have HDD:Hid (∀_:Unit,deriveOf ks (strB s) n=D):=fun _=>hD.symm
 have HTY:Hid (∀(g g':Nat) (l l':List Value),∀r∈[((g,l,43):Nat×List Value×TypeId),(g',l',43)],r.2.2≠5):=by
  intro g g' l l' r hr
  simp only [List.mem_cons,List.not_mem_nil,or_false] at hr
  rcases hr with rfl|rfl
  ·show (43:Nat)≠5;decide
  ·show (43:Nat)≠5;decide
 clear hkl hkb hD hLs
 go_enter Tryz.func25,Tryz.ntmps25
 go_wp2_with (first
  | ((with_reducible refine ae (some 3) (.box 43 (.tmp 0)) ?_);refine az (u8s ks) rfl hm ?_;clear hm;intro w1 g3 hm)
  | ((with_reducible refine ae (some 6) (.alloc 43) ?_);refine ag _ aD hm ?_;clear hm;intro w2 g6 hm))

 refine aA ?_
 refine aZ (T:=fun W=>Mem w [] W [(g3,u8s ks,43)]) (by kernel_rfl) hm ?_
 clear hm
 intro w4 hm
 refine aT 0 (v:=.agg (u8s ks).toArray) rfl (by kernel_rfl) rfl (fun W hW=>bT 0 _ (Mem.get hW 0 rfl) rfl _ aw rfl 32 aq (by rw [HU.out];omega) (by rw [List.drop_zero,List.take_of_length_le (Nat.le_of_eq HU.out)])) hm.tail ?_
 go_simp
 refine aT 1 (v:=.string s) rfl (by kernel_rfl) rfl (fun W _=>by go_simp) hm.tail ?_
 go_simp
 refine aT 3 (v:=.int .u32 n) rfl (by kernel_rfl) rfl (fun W _=>by go_simp) hm.tail ?_
 go_simp
 refine aT 4 (v:=.int .u64 n) rfl (by kernel_rfl) rfl (fun W _=>by go_simp;exact gA n hn0 hn1) hm.tail ?_
 go_simp
 refine aP 2 (by kernel_rfl) rfl rfl ?_
 intro K hK
 refine wpl_strc gu aF s (by omega) rfl hm ?_
 clear hm
 intro w5 g12 c12 hm hcon
 have HCN:Hid (ConB w5 w.heap.size (.slice (some ⟨g12,0,none⟩) s.size c12) (strB s)):=hcon
 clear hcon
 refine wpList_nil ?_
 refine hK _ _ hm.tail ?_
 clear hK K
 refine aP 5 (by kernel_rfl) rfl rfl ?_
 intro K hK
 go_wp2_with (go_at_call 56;refine (putRef4_any _ (strB s) n HN.out w.heap.size _ HCN.out hm.size (Nat.le_trans HSL.out (by omega))).mono ?_;rintro e w6 ⟨v15,rfl,hc15,hg⟩;have hs15:=hc15.old;replace hm:=hm.grownC HCN.out (HTY.out _ _ _ _) hg;obtain ⟨p15,c15,hv15,_⟩:=hs15.len;rw [HLs.out ()] at hv15;subst hv15;have HS15:Hid (SlOld w6 (.slice p15 Ls c15) (strB s++be4 n)):=hs15;clear hc15 hg hs15 HCN)
 refine hK _ _ hm.tail ?_
 clear hK K
 refine aP 6 (by kernel_rfl) rfl rfl ?_
 intro K hK
 go_wp2_with (go_at_call 55;refine (lF ks (strB s++be4 n) _ 32 (by omega) HKL.out HKB.out HIB.out (by have:=HSL.out;rw [List.length_append,db];omega) _ HS15.out).mono ?_;rintro e w7 ⟨v16,rfl,hs16,hb⟩;rw [HDE.out ()] at hs16;obtain ⟨p16,c16,hv16,_⟩:=hs16.len;rw [HDL.out] at hv16;subst hv16;have HS16:Hid (SlOld w7 (.slice p16 32 c16) D):=hs16;replace hm:=hm.call hb;clear hb hs16 HS15)
 refine hK _ _ hm.tail ?_
 clear hK K
 refine aT 7 (v:=.slice p16 32 c16) rfl (by kernel_rfl) rfl (fun W _=>by go_simp) hm.tail ?_
 go_simp
 refine wpAnyH_done (by kernel_rfl) ?_ _
 simp only [endsIn]
 have HM7:Hid (Mem w [] w7 [(g6,u8s (List.replicate 32 0),43),(g3,u8s ks,43)]):=hm
 clear hm
 have hm:=Mem.start w7
 obtain ⟨b16,o16,hp16,hseg16⟩:=HS16.out.src0.2.2 (by rw [HDL.out];omega)
 subst hp16
 have HSG:Hid (Seg w7 b16 o16 D):=hseg16
 clear hseg16 HS16
 go_wp2_with (first
  | ((with_reducible refine ae (some 8) (.alloc 43) ?_);refine ag _ aD hm ?_;clear hm;intro w8 g8 hm))

 go_loopw [9] (fun vi wr=>∃i:Nat,i≤32∧vi=.int .i64 i∧Mem w7 [] wr [(g8,u8s (cpUp D i),43)]) (fun vi _=>32 - (intOf vi).toNat)
 case atStart=>exact ⟨0,by omega,rfl,hm⟩
 case round =>
  clear hm
  obtain ⟨i,hi,rfl,hm⟩:=hrel
  by_cases hlt:i<32
  ·have hii:(i:Int)<32:=by omega
   have HCE:Hid (wr.cell? ⟨b16,o16+i,none⟩=some (.int .u8 (D.getD i 0))):=(HSG.out.mem hm (by simp)) i (by rw [HDL.out];exact hlt)
   obtain ⟨x,hx⟩:∃x,x=D.getD i 0:=⟨_,rfl⟩
   have HCX:Hid (wr.cell? ⟨b16,o16+i,none⟩=some (.int .u8 x)):=by rw [hx];exact HCE.out
   have HST:Hid ((u8s (cpUp D i)).set i (.int .u8 x)=u8s (cpUp D (i+1))):=by show _=_;rw [bW,hx,cpUp_set D HDL.out i hlt]
   have HLN:Hid (i<(u8s (cpUp D i)).length):=by show _<_;rw [aa,cpUp_length D HDL.out i hi];exact hlt
   clear hx HCE
   go_wp2_with (first
    | ((with_reducible refine ae (some 25) (.load 5 (.tmp 24)) ?_);go_must (refine bx (.int .u8 x) HCX.out rfl eP ?_))
    | ((with_reducible refine ae none (.store 5 (.tmp 26) (.tmp 25)) ?_);go_must (refine bj 0 i (.int .u8 x) hm rfl rfl rfl aQ HLN.out rfl rfl ?_);clear hm;intro w9 hm))
   rw [List.set_cons_zero,HST.out] at hm
   go_roundw
   case rel=>exact ⟨i+1,by omega,by go_num,hm⟩
   case measure=>simp [intOf];omega
  ·have hi32:i=32:=by omega
   subst hi32
   rw [cpUp_full D HDL.out] at hm
   have hmA:=HM7.out.adoptAll hm
   clear hm
   have hm:Mem w7 [g6,g3] wr [(g6,u8s (List.replicate 32 0),43),(g3,u8s ks,43),(g8,u8s D,43)]:=hmA
   clear hmA
   go_wp2_with (first
    | ((with_reducible refine ae (some 27) (.load 43 (.tmp 8)) ?_);refine av 2 hm rfl rfl _ aw rfl 32 aq (by rw [aa];exact HDL.out) ?_)
    | ((with_reducible refine ae none (.store 43 (.tmp 6) (.tmp 27)) ?_);refine ah 0 (u8s D) hm rfl rfl rfl 32 aq (by simp [aa]) (by rw [aa];exact HDL.out) (ai _) ?_;clear hm;intro w10 hm))
   exact aH 0 hm rfl Tryz.results25 rfl _ aw rfl 32 aq (by rw [aa];exact HDL.out) rfl ⟨by rw [HDD.out ()],(HM7.out.trans hm).below⟩
end Go.Proofs.YtlpnafdkhoimhaaGreatDoor
