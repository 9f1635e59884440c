import Derived.Test.YtblnljajipbajaaGreatDoorQe16
import Derived.Test.YtblnljajipbajaaGreatDoorQe20
import Derived.Test.YtblnljajipbajaaGreatDoorQe07
import Derived.Test.YtblnljajipbajaaGreatDoorQe13
set_option maxRecDepth 100000
set_option maxHeartbeats 4000000
namespace Go.Proofs.YtblnljajipbajaaGreatDoor
open Go Go.RowKit Go.Maps
theorem made_intS:(Tryz.prog.info? 3).map (fun i=>(i.zero,i.size,i.bytes))=some (some (.int .i64 0),1,8):=by kernel_rfl
theorem info_intS:(Tryz.prog.info? 3).map (fun i=>(i.zero,i.size))=some (some (.int .i64 0),1):=by kernel_rfl
section
variable {ops:Array Oper} {rest:List Oper} {a:Act} {w:World} {Q:Exit→Act→World→Prop} {dst:Option Tmp} {typ:TypeId} {pos:String} {aft:Array Edge}
theorem wpl_mkInts {x y:Operand} (c:Nat) (hc:c≤400) {j:Int} (hx:a.eval x=.int .i64 0) (hy:a.eval y=.int .i64 j) (hj:j=(c:Int))
  (h:∀w' v,Below w.heap.size w w'→w'.ownsRow w.heap.size 3 1 v 0 []→wpList Tryz.prog ops Q rest (a.put dst v) w') :
  wpList Tryz.prog ops Q ({dst:=dst,op:=.makeSlice 60 x y,type:=typ,pos:=pos,after:=aft,guard:=none}::rest) a w:=by
 subst hj
 refine wpList_plain rfl fun K hK=>?_
 have hi:=made_intS
 cases hq:Tryz.prog.info? 3 with
 | none=>simp [hq] at hi
 | some q =>
  simp only [hq,Option.map_some,Option.some.injEq,Prod.mk.injEq] at hi
  obtain ⟨w',hr,ho,hg⟩:=run_make_own (P:=Tryz.prog) w w.heap.size 60 3 q (.int .i64 0) 1 e6 hq hi.1 hi.2.1 .i64 .i64 c (by rw [hi.2.2];omega) (by unfold maxLen;omega) (Nat.le_refl _)
  have hh:=hK _ _ (h w' _ ⟨hg.os,hg.tape,hg.output,hg.size,fun k hk=>hg.block k hk (by simp)⟩ ho)
  unfold Oper.wp execOp
  simp only [hx,hy,hr,Sem.run_bind,Sem.run_pure,Result.andThen_ok]
  exact hh
end
section
variable {P:Program} {ops:Array Oper} {rest:List Oper} {a:Act} {w w0:World} {Q:Exit→Act→World→Prop} {dst:Option Tmp} {typ:TypeId} {pos:String} {aft:Array Edge} {gd:Option (Nat×Bool)} {S:List Nat} {rows:List (Nat×List Value×TypeId)}
theorem wpl_appV {s x:Operand} {t e:TypeId} (z:Value) (K bytes:Nat) (hw:Region.wanted {dst:=dst,op:=.call {callee:=.builtin .append,args:=#[s,x],argTypes:=#[t,t]},type:=typ,pos:=pos,after:=aft,guard:=gd} (yielded ops a.tmps)=true)
  (ht:P.underlying t=some (.slice e)) (hi:(P.info? e).map (fun i=>(i.zero,i.size,i.bytes))=some (some z,K,bytes)) (hz:z.cells.size=K) (hK0:0<K) (hby:bytes≤100) {v:Value} {n base g:Nat} {cs new:List Value} (hown:w.ownsRow base e K v n cs) (hbase:base≤w.heap.size)
  (hs:a.eval s=v) (hx:a.eval x=.slice (some ⟨g,0,none⟩) 1 1) (hr:Row w g new e) (hl:new.length=K) (h1:∀u∈new,u.oneCell'=true) (hn:n≤100000)
  (h:∀v' w',w'.ownsRow base e K v' (n+1) (cs++new)→w.grownBy w' v.ownBlock→(v'.ownBlock=v.ownBlock∨v'.ownBlock=some w.heap.size)→wpList P ops Q rest (a.put dst v') w') :
  wpList P ops Q ({dst:=dst,op:=.call {callee:=.builtin .append,args:=#[s,x],argTypes:=#[t,t]},type:=typ,pos:=pos,after:=aft,guard:=gd}::rest) a w:=by
 cases hq:P.info? e with
 | none=>simp [hq] at hi
 | some i =>
  simp only [hq,Option.map_some,Option.some.injEq,Prod.mk.injEq] at hi
  obtain ⟨hz1,h2,h3⟩:=hi
  have hbd:(n+1) * bytes≤140737488355328:=by
   have:=Nat.mul_le_mul (show n+1≤100001 by omega) hby
   omega
  obtain ⟨v',w',hrun,ho,hg,_,hb⟩:=run_append_own_at (P:=P) w base t typ e i z K bytes ht hq hz1 h2 h3 hz hK0 v n cs hown ⟨g,0,none⟩ 1 1 new (by rw [hl];omega) (fun j u hu=>by rw [bV,Nat.zero_add,hr.cell j];exact hu) h1 (by unfold maxLen;omega) hbd hbase
  refine wpList_step fun K hK=>?_
  rw [if_pos hw]
  have hh:=hK _ _ (h v' w' ho hg hb)
  unfold Oper.wp execOp
  simp only [resolve,invoke,builtin,Sem.run_bind,Sem.run_pure,Result.andThen_ok,List.map_toArray,List.map_cons,List.map_nil,hs,hx,hrun]
  exact hh
end
theorem gD {w w':World} {base n:Nat} {e:TypeId} {v:Value} {cs:List Value} (h:w.ownsRow base e 1 v n cs) (hb:Below w.heap.size w w'):w'.ownsRow base e 1 v n cs:=World.ownsRow.kept h (dI hb) (by cases h':v.ownBlock<;>simp)
theorem belowI_grown {w wr w':World} {e:TypeId} {n:Nat} {v:Value} {cs:List Value} (hb:Below w.heap.size w wr) (h:wr.ownsRow w.heap.size e 1 v n cs) (hg:wr.grownBy w' v.ownBlock):Below w.heap.size w w' :=
 ⟨hg.os.trans hb.os,hg.tape.trans hb.tape,hg.output.trans hb.output,Nat.le_trans hb.size hg.size,fun k hk=>(hg.block k (Nat.lt_of_lt_of_le hk hb.size) (fun he=>by have:=(World.ownsRow.lt h k he.symm).1;omega)).trans (hb.block k hk)⟩
def usedL (held:Nat→Option Ent) (i:Nat):List Nat:=(List.range i).filter fun j=>(held j).isSome
theorem j1 (held:Nat→Option Ent) (i:Nat):usedL held (i+1)=usedL held i++(if (held i).isSome=true then [i] else []):=by
 unfold usedL
 rw [List.range_succ,List.filter_append]
 congr 1
 cases h:(held i).isSome<;>simp [h]
theorem usedL_le (held:Nat→Option Ent) (i:Nat):(usedL held i).length≤i:=by
 unfold usedL
 exact Nat.le_trans (List.length_filter_le _ _) (by simp)
def intsL (l:List Nat):List Value:=l.map fun j:Nat=>Value.int .i64 (j:Int)
theorem ints_of {w:World} {base:Nat} {v:Value} {ks:List Nat} (h:w.ownsRow base 3 1 v ks.length (intsL ks)):Ints w base v ks:=by
 have h0:=h
 rcases h.2 with ⟨rfl,hz⟩|⟨gb,cap,cur,rfl,hbase,hgb,r1,r2,r3,r4⟩
 ·exact ⟨none,0,by rw [hz],fun h=>absurd h (by omega)⟩
 ·refine ⟨_,cap,rfl,fun _=>⟨gb,rfl,hbase,(Array.getElem?_eq_some_iff.1 hgb).1,fun j i hj=>?_⟩⟩
  have:=World.ownsRow.cells h0 rfl j (.int .i64 (i:Int)) (by simp [intsL,hj])
  rw [bV,Nat.zero_add] at this
  exact this
def freeFrom (held:Nat→Option Ent):Nat→Nat→Int
 | 0,_ => -1
 | k+1,i=>if (held i).isSome=true then freeFrom held k (i+1) else (i:Int)
def freeI (held:Nat→Option Ent):Int:=freeFrom held 24 0
theorem free_any (g mb:Nat) (kv:Value) (sb hb:Nat) (d:Dk) (t:Slt) (w:World) (h:SlAt w g mb kv sb hb d t) :
  Calls Tryz.prog 25 #[.pointer (some ⟨sb,0,none⟩)] w fun e w'=>e=.returned (.int .i64 (freeI t.held))∧Below w.heap.size w w':=by
 have HA:Hid (SlAt w g mb kv sb hb d t):=h
 clear h
 go_enter Tryz.func25,Tryz.ntmps25
 go_wp2_with fail
 go_loopw [6] (fun vi wr=>∃i:Nat,i≤24∧vi=.int .i64 (i:Int)∧Hid (Below w.heap.size w wr)∧Hid (freeI t.held=freeFrom t.held (24 - i) i)) (fun vi _=>24 - (intOf vi).toNat)
 case atStart=>exact ⟨0,by omega,rfl,Below.refl _ _,rfl⟩
 case round =>
  obtain ⟨i,hi,rfl,HB,HF⟩:=hrel
  by_cases hlt:i<24
  ·have hli:(i:Int)<24:=by omega
   obtain ⟨X,hX⟩:∃X,X=(t.held i).getD noEnt:=⟨_,rfl⟩
   have HEL:Hid ((entL X).length=49):=by rw [hX];exact aJ (HA.out.ok.len i)
   have hm:=Mem.start wr
   have hfuel:24 - i=(24 - (i+1))+1:=by omega
   cases hs:(t.held i).isSome with
   | true =>
    have HX:Hid ((t.held i).getD noEnt=X∧(t.held i).isSome=true):=⟨hX.symm,hs⟩
    have HF2:Hid (freeI t.held=freeFrom t.held (24 - (i+1)) (i+1)):=by
     show _=_
     rw [HF.out,hfuel,freeFrom,if_pos hs]
    clear hX hs hfuel
    go_wp2_with (first
     | ((with_reducible refine ab (some 13) (.load 73 (.tmp 12)) ?_);go_must (refine bj (.map (some hb)) ((SlAt.cell (HA.out.below HB.out) 1).trans rfl) rfl dh ?_))
     | ((with_reducible refine ab (some 15) (.lookup 73 (.tmp 13) (.tmp 14) true) ?_);go_must (refine aq (.tuple #[.agg (entL X).toArray,.bool true]) rfl (cf (by have h9:=SlAt.look (HA.out.below HB.out) i (by omega);rw [HX.out.1,HX.out.2] at h9;exact h9) rfl rfl) ?_))
     | ((with_reducible refine ab (some 4) (.alloc 79) ?_);refine af _ bN hm ?_;clear hm;intro w3 g8 hm)
     | ((with_reducible refine ab none (.store 79 (.tmp 4) (.tmp 16)) ?_);refine ah 0 (entL X) hm rfl rfl rfl 49 cK (aJ (by simp [noEnt])) HEL.out (dl _) ?_;clear hm;intro w4 hm))
    go_roundw
    case rel=>exact ⟨i+1,by omega,by go_num,HB.out.trans (hm.below.mono HB.out.size),HF2.out⟩
    case measure=>simp [intOf];omega
   | false =>
    have HX:Hid ((t.held i).getD noEnt=X∧(t.held i).isSome=false):=⟨hX.symm,hs⟩
    have HF2:Hid (freeI t.held=(i:Int)):=by
     show _=_
     rw [HF.out,hfuel,freeFrom,if_neg (by rw [hs];simp)]
    clear hX hs hfuel
    go_wp2_with (first
     | ((with_reducible refine ab (some 13) (.load 73 (.tmp 12)) ?_);go_must (refine bj (.map (some hb)) ((SlAt.cell (HA.out.below HB.out) 1).trans rfl) rfl dh ?_))
     | ((with_reducible refine ab (some 15) (.lookup 73 (.tmp 13) (.tmp 14) true) ?_);go_must (refine aq (.tuple #[.agg (entL X).toArray,.bool false]) rfl (cf (by have h9:=SlAt.look (HA.out.below HB.out) i (by omega);rw [HX.out.1,HX.out.2] at h9;exact h9) rfl rfl) ?_))
     | ((with_reducible refine ab (some 4) (.alloc 79) ?_);refine af _ bN hm ?_;clear hm;intro w3 g8 hm)
     | ((with_reducible refine ab none (.store 79 (.tmp 4) (.tmp 16)) ?_);refine ah 0 (entL X) hm rfl rfl rfl 49 cK (aJ (by simp [noEnt])) HEL.out (dl _) ?_;clear hm;intro w4 hm))
    go_ret
    exact ⟨by rw [HF2.out];rfl,HB.out.trans (hm.below.mono HB.out.size)⟩
  ·have hi24:i=24:=by omega
   have hli:¬(i:Int)<24:=by omega
   have HF2:Hid (freeI t.held = -1):=by
    show _=_
    rw [HF.out,hi24]
    rfl
   clear hi24
   go_wp2_with fail
   go_ret
   exact ⟨by rw [HF2.out];rfl,HB.out⟩
theorem used_any (g mb:Nat) (kv:Value) (sb hb:Nat) (d:Dk) (t:Slt) (w:World) (h:SlAt w g mb kv sb hb d t) :
  Calls Tryz.prog 26 #[.pointer (some ⟨sb,0,none⟩)] w fun e w'=>∃v,e=.returned v∧Ints w' w.heap.size v (usedL t.held 24)∧Below w.heap.size w w':=by
 have HA:Hid (SlAt w g mb kv sb hb d t):=h
 obtain ⟨q,hq,hk⟩:=h.map
 obtain ⟨c,hc,hlen⟩:=hk.lenRun eW 3
 have HLEN:Hid _:=hlen
 have hc2:c≤400:=by have:=h.ok.puts;omega
 have HB0:Hid (Below w.heap.size w w):=Below.refl _ _
 clear h hk hlen hq hc
 go_enter Tryz.func26,Tryz.ntmps26
 go_wp2_with (first
  | ((with_reducible refine ab (some 10) (.load 73 (.tmp 9)) ?_);go_must (refine bj (.map (some hb)) ((SlAt.cell HA.out 1).trans rfl) rfl dh ?_))
  | ((with_reducible refine ab (some 11) (.call {callee:=.builtin .len,args:=#[.tmp 10],argTypes:=#[73]}) ?_);go_must (refine aq (.int .i64 (c:Int)) rfl (iy HLEN.out rfl) ?_))
  | ((with_reducible refine ab (some 12) (.makeSlice 60 (.const (.int .i64 0)) (.tmp 11)) ?_);go_must (refine wpl_mkInts c hc2 rfl rfl rfl ?_);intro w1 v1 hb1 ho1;have HB1:Hid (Below w.heap.size w w1):=hb1;have HO1:Hid (w1.ownsRow w.heap.size 3 1 v1 0 []):=ho1;clear hb1 ho1))
 go_loopw [3,13] (fun vu vi wr=>∃i:Nat,i≤24∧vi=.int .i64 (i:Int)∧Hid (Below w.heap.size w wr)∧Hid (wr.ownsRow w.heap.size 3 1 vu (usedL t.held i).length (intsL (usedL t.held i)))) (fun _ vi _=>24 - (intOf vi).toNat)
 case atStart=>exact ⟨0,by omega,rfl,HB1.out,HO1.out⟩
 case round =>
  clear HB1 HO1
  obtain ⟨i,hi,rfl,HB,HO⟩:=hrel
  by_cases hlt:i<24
  ·have hli:(i:Int)<24:=by omega
   obtain ⟨X,hX⟩:∃X,X=(t.held i).getD noEnt:=⟨_,rfl⟩
   have HEL:Hid ((entL X).length=49):=by rw [hX];exact aJ (HA.out.ok.len i)
   have hm:=Mem.start wr
   cases hs:(t.held i).isSome with
   | true =>
    have HX:Hid ((t.held i).getD noEnt=X∧(t.held i).isSome=true):=⟨hX.symm,hs⟩
    have HM:Hid (usedL t.held (i+1)=usedL t.held i++[i]):=by show _=_;rw [j1,if_pos hs]
    clear hX hs
    go_wp2_with (first
     | ((with_reducible refine ab (some 20) (.load 73 (.tmp 19)) ?_);go_must (refine bj (.map (some hb)) ((SlAt.cell (HA.out.below HB.out) 1).trans rfl) rfl dh ?_))
     | ((with_reducible refine ab (some 22) (.lookup 73 (.tmp 20) (.tmp 21) true) ?_);go_must (refine aq (.tuple #[.agg (entL X).toArray,.bool true]) rfl (cf (by have h9:=SlAt.look (HA.out.below HB.out) i (by omega);rw [HX.out.1,HX.out.2] at h9;exact h9) rfl rfl) ?_))
     | ((with_reducible refine ab (some 5) (.alloc 79) ?_);refine af _ bN hm ?_;clear hm;intro w3 g8 hm)
     | ((with_reducible refine ab none (.store 79 (.tmp 5) (.tmp 23)) ?_);refine ah 0 (entL X) hm rfl rfl rfl 49 cK (aJ (by simp [noEnt])) HEL.out (dl _) ?_;clear hm;intro w4 hm)
     | ((with_reducible refine ab (some 28) (.buildSlice 60 1 #[(0,.tmp 27)]) ?_);go_must (refine bP rfl (.int .i64 0) (.int .i64 (i:Int)) e6 info_intS rfl rfl rfl hm ?_);clear hm;intro w6 g6 hb6 hm)
     | ((with_reducible refine ab (some 29) (.call {callee:=.builtin .append,args:=#[.tmp 26,.tmp 28],argTypes:=#[60,60]}) ?_);go_must (refine wpl_appV (.int .i64 0) 1 8 rfl e6 made_intS rfl (by omega) (by omega) (gD HO.out hm.below) (Nat.le_trans HB.out.size hm.below.size) rfl rfl (hm.get 0 rfl) rfl (by intro u hu;simp only [List.mem_cons,List.not_mem_nil,or_false] at hu;subst hu;rfl) (by have:=usedL_le t.held i;omega) ?_);intro v7 w7 ho7 hg7 hd7;have HO7:Hid (w7.ownsRow w.heap.size 3 1 v7 ((usedL t.held i).length+1) (intsL (usedL t.held i)++[.int .i64 (i:Int)])):=ho7;have HB7:Hid (Below w.heap.size w w7):=belowI_grown (HB.out.trans (hm.below.mono HB.out.size)) (gD HO.out hm.below) hg7;clear ho7 hg7 hd7))
    go_roundw
    case rel =>
     refine ⟨i+1,by omega,by go_num,HB7.out,?_⟩
     show World.ownsRow _ _ _ _ _ _ _
     rw [HM.out,show (usedL t.held i++[i]).length=(usedL t.held i).length+1 by simp,show intsL (usedL t.held i++[i])=intsL (usedL t.held i)++[.int .i64 (i:Int)] by simp [intsL]]
     exact HO7.out
    case measure=>simp [intOf];omega
   | false =>
    have HX:Hid ((t.held i).getD noEnt=X∧(t.held i).isSome=false):=⟨hX.symm,hs⟩
    have HM:Hid (usedL t.held (i+1)=usedL t.held i):=by show _=_;rw [j1,if_neg (by rw [hs];simp),List.append_nil]
    clear hX hs
    go_wp2_with (first
     | ((with_reducible refine ab (some 20) (.load 73 (.tmp 19)) ?_);go_must (refine bj (.map (some hb)) ((SlAt.cell (HA.out.below HB.out) 1).trans rfl) rfl dh ?_))
     | ((with_reducible refine ab (some 22) (.lookup 73 (.tmp 20) (.tmp 21) true) ?_);go_must (refine aq (.tuple #[.agg (entL X).toArray,.bool false]) rfl (cf (by have h9:=SlAt.look (HA.out.below HB.out) i (by omega);rw [HX.out.1,HX.out.2] at h9;exact h9) rfl rfl) ?_))
     | ((with_reducible refine ab (some 5) (.alloc 79) ?_);refine af _ bN hm ?_;clear hm;intro w3 g8 hm)
     | ((with_reducible refine ab none (.store 79 (.tmp 5) (.tmp 23)) ?_);refine ah 0 (entL X) hm rfl rfl rfl 49 cK (aJ (by simp [noEnt])) HEL.out (dl _) ?_;clear hm;intro w4 hm))
    go_roundw
    case rel=>exact ⟨i+1,by omega,by go_num,HB.out.trans (hm.below.mono HB.out.size),by show World.ownsRow _ _ _ _ _ _ _;rw [HM.out];exact gD HO.out hm.below⟩
    case measure=>simp [intOf];omega
  ·have hi24:i=24:=by omega
   have hli:¬(i:Int)<24:=by omega
   subst hi24
   go_wp2_with fail
   go_ret
   exact ⟨_,rfl,ints_of HO.out,HB.out⟩
open Go Go.RowKit Go.Maps
structure Sv (w0 w:World) (g mb:Nat) (kv:Value) (sb hb:Nat) (d:Dk) (t:Slt) (k:Nat) (rows:List (Nat×List Value×TypeId)):Prop where
 mem:Mem w0 [] w rows
 at_:SlAt w g mb kv sb hb d t
 inv:Inv d t
 cm:Cm d k
 new:∀q∈footS g mb kv sb hb,w0.heap.size≤q
 apart:∀r∈rows,r.1 ∉ footS g mb kv sb hb
section
variable {w0 w w':World} {g mb:Nat} {kv:Value} {sb hb:Nat} {d d':Dk} {t t':Slt} {k k':Nat} {rows:List (Nat×List Value×TypeId)}
theorem Sv.turn (h:Sv w0 w g mb kv sb hb d t k rows) (ha:SlAt w' g mb kv sb hb d' t') (hi:Inv d' t') (hc:Cm d' k') (hu:UpdS (footS g mb kv sb hb) w w'):Sv w0 w' g mb kv sb hb d' t' k' rows:=by
 refine ⟨⟨hu.os.trans h.mem.os,hu.tape.trans h.mem.tape,hu.output.trans h.mem.output,Nat.le_trans h.mem.size hu.size,fun q hq hn=>?_,fun r hr=>hu.row (h.mem.row r hr) (h.apart r hr),h.mem.nodup,h.mem.fresh⟩,ha,hi,hc,h.new,h.apart⟩
 refine (hu.block q (Nat.lt_of_lt_of_le hq h.mem.size) (fun hh=>?_)).trans (h.mem.block q hq hn)
 have:=h.new q hh
 omega
theorem Sv.below (h:Sv w0 w g mb kv sb hb d t k rows) (hbb:Below w.heap.size w w'):Sv w0 w' g mb kv sb hb d t k rows:=⟨h.mem.call hbb,h.at_.below hbb,h.inv,h.cm,h.new,h.apart⟩
theorem Sv.tail {r:Nat×List Value×TypeId} (h:Sv w0 w g mb kv sb hb d t k (r::rows)):Sv w0 w g mb kv sb hb d t k rows:=⟨h.mem.tail,h.at_,h.inv,h.cm,h.new,fun q hq=>h.apart q (List.mem_cons_of_mem _ hq)⟩
theorem Sv.mono (h:Sv w0 w g mb kv sb hb d t k rows) (hk:k≤k'):Sv w0 w g mb kv sb hb d t k' rows:=⟨h.mem,h.at_,h.inv,h.cm.mono hk,h.new,h.apart⟩
theorem Sv.add (h:Sv w0 w g mb kv sb hb d t k rows) {q:Nat} {l:List Value} {ty:TypeId} (hbb:Below w.heap.size w w') (hr:Row w' q l ty) (hq:w.heap.size≤q):Sv w0 w' g mb kv sb hb d t k ((q,l,ty)::rows):=by
 refine ⟨h.mem.callNew hbb hr hq,h.at_.below hbb,h.inv,h.cm,h.new,fun r hr=>?_⟩
 rcases List.mem_cons.1 hr with rfl|hr
 ·intro hk
  have:=h.at_.lt _ hk
  simp at this
  omega
 ·exact h.apart r hr
theorem Sv.upd (h:Sv w0 w g mb kv sb hb d t k rows) (i:Nat) {q:Nat} {l l':List Value} {ty:TypeId} (hi:rows[i]?=some (q,l,ty)) (hu:Upd q w w') (hr:Row w' q l' ty):Sv w0 w' g mb kv sb hb d t k (rows.set i (q,l',ty)):=by
 have hmem:=List.mem_of_getElem? hi
 have ha:=h.apart _ hmem
 refine ⟨h.mem.upd i hi hu hr,h.at_.keep (fun k hk=>hu.block k (h.at_.lt k hk) (fun e=>ha (e▸hk))),h.inv,h.cm,h.new,fun r hr=>?_⟩
 rcases List.mem_or_eq_of_mem_set hr with h1|h1
 ·exact h.apart r h1
 ·subst h1
  exact ha
theorem Sv.tab (h:Sv w0 w g mb kv sb hb d t k rows) (ht:Tab w0):Tab w:=Tab.mem ht h.mem (by simp)
theorem Sv.qtab (h:Sv w0 w g mb kv sb hb d t k rows) (ht:QTab w0):QTab w:=QTab.mem ht h.mem (by simp)
theorem Sv.old (h:Sv w0 w g mb kv sb hb d t k rows) {v:Value} {cs:List Int} (hv:SlOld w0 v cs):SlA w (foot g mb kv) v cs:=SlA.of_old hv h.mem (fun q hq=>h.new q (by simp [footS,hq]))
theorem Sv.foot2 (h:Sv w0 w g mb kv sb hb d t k rows):∀q∈foot g mb kv,2≤q:=fun q hq=>h.at_.two q (by simp [footS,hq])
theorem put_nv (h:Sv w0 w g mb kv sb hb d t k rows) (i:Int) (hi:okI i=false) (kek key:List Int) :
  Calls Tryz.prog 13 #[.pointer (some ⟨sb,0,none⟩),.int .i64 i,.agg (u8s kek).toArray,.agg (u8s key).toArray] w fun e w'=>e=.returned (.int .i64 70)∧Sv w0 w' g mb kv sb hb d t k rows:=by
 have hr:refI t i=70:=by unfold refI;rw [if_neg (by rw [h.inv.dead];simp),if_neg (by rw [hi];simp)]
 refine (put_no g mb kv sb hb d t i kek key (by rw [hr];omega) w h.at_).mono ?_
 rintro e w' ⟨rfl,h1⟩
 exact ⟨by rw [hr],h.below h1⟩
theorem get_v (h:Sv w0 w g mb kv sb hb d t k rows) (ht:Tab w0) (hq:QTab w0) (i:Int) (kek:List Int) (hkl:kek.length=32) (hkb:Bytes kek) :
  Calls Tryz.prog 16 #[.pointer (some ⟨sb,0,none⟩),.int .i64 i,.agg (u8s kek).toArray] w fun e w'=>e=.returned (.tuple #[.agg (u8s (getV t.held i kek).1).toArray,.int .i64 (getV t.held i kek).2])∧Sv w0 w' g mb kv sb hb d t k rows:=by
 refine (get_any g mb kv sb hb d t i kek hkl hkb w (h.tab ht) (h.qtab hq) h.at_).mono ?_
 rintro e w' ⟨rfl,h1⟩
 exact ⟨rfl,h.below h1⟩
theorem free_v (h:Sv w0 w g mb kv sb hb d t k rows) :
  Calls Tryz.prog 25 #[.pointer (some ⟨sb,0,none⟩)] w fun e w'=>e=.returned (.int .i64 (freeI t.held))∧Sv w0 w' g mb kv sb hb d t k rows:=by
 refine (free_any g mb kv sb hb d t w h.at_).mono ?_
 rintro e w' ⟨rfl,h1⟩
 exact ⟨rfl,h.below h1⟩
theorem used_v (h:Sv w0 w g mb kv sb hb d t k rows) :
  Calls Tryz.prog 26 #[.pointer (some ⟨sb,0,none⟩)] w fun e w'=>∃v,e=.returned v∧Ints w' w.heap.size v (usedL t.held 24)∧Sv w0 w' g mb kv sb hb d t k rows∧Below w.heap.size w w':=by
 refine (used_any g mb kv sb hb d t w h.at_).mono ?_
 rintro e w' ⟨v,rfl,h1,h2⟩
 exact ⟨v,rfl,h1,h.below h2,h2⟩
theorem crash_v (h:Sv w0 w g mb kv sb hb d t k rows) (cs:List Int) (vc:Value) (hcb:Bytes cs) (hs:SlA w (foot g mb kv) vc cs) :
  Calls Tryz.prog 18 #[.pointer (some ⟨g,0,none⟩),vc] w fun e w'=>e=.returned (.tuple #[])∧Sv w0 w' g mb kv sb hb (d.crash cs) t k rows∧UpdS (foot g mb kv) w w':=by
 refine (crash_any g mb kv d cs vc hcb w h.at_.dk hs).mono ?_
 rintro e w' ⟨rfl,h1,h2⟩
 exact ⟨rfl,h.turn (h.at_.disk h1 h2) (inv_crash h.inv cs).1 (cm_crash h.cm.nm cs) (h2.mono (fun q hq=>by simp [footS,hq])),h2⟩
theorem Sv.again (h:Sv w0 w g mb kv sb hb d t k rows) {s2 h2:Nat} (ha:SlAt w' g mb kv s2 h2 d' t') (hi:Inv d' t') (hc:Cm d' k') (hs:w.heap.size≤s2) (hh:w.heap.size≤h2) (hu:UpdS (foot g mb kv) w w'):Sv w0 w' g mb kv s2 h2 d' t' k' rows:=by
 have hu2:UpdS (footS g mb kv sb hb) w w':=hu.mono (fun q hq=>by simp [footS,hq])
 refine ⟨⟨hu.os.trans h.mem.os,hu.tape.trans h.mem.tape,hu.output.trans h.mem.output,Nat.le_trans h.mem.size hu.size,fun q hq hn=>?_,fun r hr=>hu2.row (h.mem.row r hr) (h.apart r hr),h.mem.nodup,h.mem.fresh⟩,ha,hi,hc,fun q hq=>?_,fun r hr hk=>?_⟩
 ·refine (hu.block q (Nat.lt_of_lt_of_le hq h.mem.size) (fun hh=>?_)).trans (h.mem.block q hq hn)
  have:=h.new q (by simp [footS,hh])
  omega
 ·have h9:=h.mem.size
  simp only [footS,List.mem_cons] at hq
  rcases hq with rfl|rfl|hq
  ·omega
  ·omega
  ·exact h.new q (by simp [footS,hq])
 ·have h8:=(h.mem.row r hr).lt
  have h9:=h.apart r hr
  simp only [footS,List.mem_cons] at hk h9
  rcases hk with e|e|hk
  ·omega
  ·omega
  ·exact h9 (Or.inr (Or.inr hk))
theorem open_v (h:Sv w0 w g mb kv sb hb d t k rows) (ht:Tab w0) (hk:k≤1000000) :
  Calls Tryz.prog 19 #[.pointer (some ⟨g,0,none⟩)] w fun e w'=>∃s2 h2,e=.returned (.tuple #[.pointer (some ⟨s2,0,none⟩),.int .i64 0])∧Sv w0 w' g mb kv s2 h2 d t (k+1000) rows:=by
 have e1:=inv_load h.inv
 refine (openS_any g mb kv d k h.cm.off h.cm.left h.inv.n h.inv.n2 h.cm.nm hk (by rw [e1];exact h.inv.ok) h.foot2 w (h.tab ht) h.at_.dk).mono ?_
 rintro e w' ⟨s2,h2,rfl,ha,hs,hh,hu⟩
 rw [e1,inv_open h.inv] at ha
 exact ⟨s2,h2,rfl,h.again ha h.inv (h.cm.mono (by omega)) hs hh hu⟩
end
section
variable {w0 w w':World} {g mb:Nat} {kv:Value} {sb hb:Nat} {d:Dk} {t:Slt} {k:Nat} {rows:List (Nat×List Value×TypeId)}
theorem put_w (h:Sv w0 w g mb kv sb hb d t k rows) (ht:Tab w0) (hq:QTab w0) (hk:k≤1000000) (hp:t.puts<200) (i:Nat) (hi:i<24) (kek key:List Int) (hkl:kek.length=32) (hkb:Bytes kek) (hyl:key.length=32) (hyb:Bytes key) (t':Slt) (ht':t'=putS t i (entN t i kek key)) :
  Calls Tryz.prog 13 #[.pointer (some ⟨sb,0,none⟩),.int .i64 (i:Int),.agg (u8s kek).toArray,.agg (u8s key).toArray] w fun e w'=>e=.returned (.int .i64 0)∧(∃d',Sv w0 w' g mb kv sb hb d' t' (k+1000) rows)∧UpdS (footS g mb kv sb hb) w w':=by
 have hc:=cm_put h.cm h.inv.n2 t i (entN t i kek key)
 have hI:=put_inv h.inv hp hi (entN_ok (k:=i) (kek:=kek) hp hyl hyb) hc.2
 refine (put_good g mb kv sb hb d t i hi kek key k hkl hkb hyl hyb h.inv.dead hp h.inv.n h.inv.n2 h.cm.nm hk w (h.tab ht) (h.qtab hq) h.at_ hc.2).mono ?_
 rintro e w' ⟨rfl,h1,h2⟩
 exact ⟨rfl,⟨_,by rw [ht'];exact h.turn h1 hI.1 hc.1 h2⟩,h2⟩
theorem erase_w (h:Sv w0 w g mb kv sb hb d t k rows) (hk:k≤1000000) (i:Nat) (hi:i<24) (t':Slt) (ht':t'=eraS t i) :
  Calls Tryz.prog 15 #[.pointer (some ⟨sb,0,none⟩),.int .i64 (i:Int)] w fun e w'=>e=.returned (.int .i64 0)∧(∃d',Sv w0 w' g mb kv sb hb d' t' (k+1000) rows)∧UpdS (footS g mb kv sb hb) w w':=by
 have hc:=cm_era h.cm h.inv.n2 t i
 have hI:=erase_inv h.inv hi hc.2
 refine (j3 g mb kv sb hb d t i hi k h.inv.dead h.inv.n h.inv.n2 h.cm.nm hk w h.at_ hc.2).mono ?_
 rintro e w' ⟨rfl,h1,h2⟩
 exact ⟨rfl,⟨_,by rw [ht'];exact h.turn h1 hI.1 hc.1 h2⟩,h2⟩
theorem crash_w (h:Sv w0 w g mb kv sb hb d t k rows) (cs:List Int) (vc:Value) (hcb:Bytes cs) (hs:SlA w (foot g mb kv) vc cs) :
  Calls Tryz.prog 18 #[.pointer (some ⟨g,0,none⟩),vc] w fun e w'=>e=.returned (.tuple #[])∧∃d',Sv w0 w' g mb kv sb hb d' t k rows:=by
 refine (crash_v h cs vc hcb hs).mono ?_
 rintro e w' ⟨rfl,h1,_⟩
 exact ⟨rfl,_,h1⟩
end
/-- A disk that has just come, and slots made on it. -/
theorem fh {w0 w:World} {g mb n:Nat} {kv:Value} {rows:List (Nat×List Value×TypeId)} (hn:64≤n) (hn2:n≤200) (hm:Mem w0 [] w rows) (hd:DkAt w g mb kv (Dk.new n)) (hf:∀q∈foot g mb kv,w0.heap.size≤q) (hap:∀r∈rows,r.1 ∉ foot g mb kv) (ht:Tab w0) :
  Calls Tryz.prog 11 #[.pointer (some ⟨g,0,none⟩)] w fun e w'=>∃s2 h2,e=.returned (.tuple #[.pointer (some ⟨s2,0,none⟩),.int .i64 0])∧Sv w0 w' g mb kv s2 h2 (makeD (Dk.new n)) newS 1000 rows∧UpdS (foot g mb kv) w w'∧w.heap.size≤s2∧w.heap.size≤h2:=by
 have hc:=cm_new n
 have hok:SltOk (loadS (Dk.new n)):=by rw [new_load];exact newS_ok
 have ht2:=ht.lt
 refine (makeS_any g mb kv (Dk.new n) 0 hc.off hc.left hn hn2 hc.nm (by omega) hok (fun q hq=>by have:=hf q hq;omega) w (Tab.mem ht hm (by simp)) hd).mono ?_
 rintro e w' ⟨s2,h2,rfl,ha,hs,hh,hu⟩
 have h9:=hm.size
 refine ⟨s2,h2,rfl,⟨⟨hu.os.trans hm.os,hu.tape.trans hm.tape,hu.output.trans hm.output,Nat.le_trans hm.size hu.size,fun q hq hn=>?_,fun r hr=>hu.row (hm.row r hr) (hap r hr),hm.nodup,hm.fresh⟩,ha,(make_inv hc.left hc.off hn hn2 hok).1,(cm_make hc hn2).mono (by omega),fun q hq=>?_,fun r hr hk=>?_⟩,hu,hs,hh⟩
 ·refine (hu.block q (Nat.lt_of_lt_of_le hq hm.size) (fun hh=>?_)).trans (hm.block q hq hn)
  have:=hf q hh
  omega
 ·simp only [footS,List.mem_cons] at hq
  rcases hq with rfl|rfl|hq
  ·omega
  ·omega
  ·exact hf q hq
 ·have h8:=(hm.row r hr).lt
  have h7:=hap r hr
  simp only [footS,List.mem_cons] at hk
  rcases hk with e|e|hk
  ·omega
  ·omega
  ·exact h7 hk
theorem unw_own (kek key:List Int) (i p:Nat) (hl:key.length=32) (hb:Bytes key):unwV kek i (p,sealOf kek (nonceOf (i:Int) (p:Int)) labWrap key)=(key,0):=by
 have h1:(sealOf kek (nonceOf (i:Int) (p:Int)) labWrap key).take 32=encOf kek (nonceOf (i:Int) (p:Int)) key:=by rw [←hl];exact sealOf_take _ _ _ _
 have h2:(sealOf kek (nonceOf (i:Int) (p:Int)) labWrap key).drop 32=tagOf kek (nonceOf (i:Int) (p:Int)) labWrap (encOf kek (nonceOf (i:Int) (p:Int)) key):=by rw [←hl];exact sealOf_drop _ _ _ _
 unfold unwV unwOk
 simp only [h1,h2,decide_true,if_true]
 rw [encOf_twice _ _ hb]
theorem gZ {held:Nat→Option Ent} {i:Nat} {x:Ent} (hi:i<24) (h:held i=some x) (kek:List Int):getV held (i:Int) kek=unwV kek i x:=by
 unfold getV okI
 rw [if_pos (decide_eq_true (by omega)),Int.toNat_natCast,h]
theorem iH {held:Nat→Option Ent} {i:Nat} (hi:i<24) (h:held i=none) (kek:List Int):getV held (i:Int) kek=(zero32,120):=by
 unfold getV okI
 rw [if_pos (decide_eq_true (by omega)),Int.toNat_natCast,h]
theorem fT {t:Slt} {i:Nat} (hi:i<24) (kek key:List Int) (hl:key.length=32) (hb:Bytes key):getV (putS t i (entN t i kek key)).held (i:Int) kek=(key,0):=by
 have h1:(putS t i (entN t i kek key)).held i=some (entN t i kek key):=bg _ _ _
 rw [gZ hi h1]
 exact unw_own kek key i (t.puts+1) hl hb
section
variable {ops:Array Oper} {rest:List Oper} {a:Act} {w:World} {Q:Exit→Act→World→Prop} {dst:Option Tmp} {typ:TypeId} {pos:String} {aft:Array Edge} {P:Program}
theorem bz {ty:TypeId} (z:List Value) (hz:∀w,(zeroValue ty).run P w=.ok (.agg z.toArray) w) (h:∀w' q,Below w.heap.size w w'→w.heap.size≤q→Row w' q z ty→wpList P ops Q rest (a.put dst (.pointer (some ⟨q,0,none⟩))) w') :
  wpList P ops Q ({dst:=dst,op:=.alloc ty,type:=typ,pos:=pos,after:=aft,guard:=none}::rest) a w:=by
 refine af z hz (Mem.start w) ?_
 intro w' q hm
 have hf:=hm.fresh _ (List.mem_cons_self ..)
 simp only [List.not_mem_nil,false_or] at hf
 exact h w' q hm.below hf (hm.get 0 rfl)
theorem cI {ty:TypeId} {x y:Operand} {q:Nat} {l:List Value} {t:TypeId} (l':List Value) (hr:Row w q l t) (hx:a.eval x=.pointer (some ⟨q,0,none⟩)) (hy:a.eval y=.agg l'.toArray) (n:Nat) (hs:(P.info? ty).map (·.size)=some n) (hn:l.length=n) (hn':l'.length=n) (h1:∀v∈l',v.oneCell'=true)
  (h:∀w',Upd q w w'→Row w' q l' t→wpList P ops Q rest a w') :
  wpList P ops Q ({dst:=none,op:=.store ty x y,type:=typ,pos:=pos,after:=aft,guard:=none}::rest) a w:=by
 refine ah 0 l' (Mem.enter hr) rfl hx hy n hs hn hn' h1 ?_
 intro w' hm
 exact h w' hm.toUpd (hm.get 0 rfl)
end
theorem key_any (n:Int) (w:World) :
  Calls Tryz.prog 14 #[.int .u8 n] w fun e w'=>e=.returned (.agg (u8s (keyB n)).toArray)∧Below w.heap.size w w':=by
 have hm:=Mem.start w
 have HL:Hid ((u8s (keyB n)).length=32):=by show _=_;rw [aa,bS]
 go_enter Tryz.func14,Tryz.ntmps14
 go_wp2_with (first
  | ((with_reducible refine ab (some 2) (.alloc 39) ?_);refine af _ aM hm ?_;clear hm;intro w1 g2 hm)
  | ((with_reducible refine ab (some 4) (.build 39 #[(0,.tmp 3),(31,.const (.int .u8 200))]) ?_);go_must (refine a8 (u8s (keyB n)) _ rfl (built_key n) ?_))
  | ((with_reducible refine ab none (.store 39 (.tmp 2) (.tmp 4)) ?_);refine ah 0 (u8s (keyB n)) hm rfl rfl rfl 32 am (by simp [aa]) (HL.out) (aj _) ?_;clear hm;intro w2 hm))
 exact aA 0 hm rfl Tryz.results14 rfl _ ar rfl 32 am HL.out rfl ⟨rfl,hm.below⟩
open Go Go.RowKit Go.Maps
theorem fq:clampK 64=64:=by decide
theorem clamp63:clampK 63=63:=by decide
theorem dZ {P:Program} {a:Act} {w:World} {dst:Option Tmp} {typ:TypeId} {pos:String} {aft:Array Edge} {gd:Option (Nat×Bool)} {t:TypeId} {x y:Operand} {rt:TypeId} (e:TypeId) (n:Nat) (k:IntKind) (xs:List Int) (hx:a.eval x=.agg (xs.map (Value.int k)).toArray) (hy:a.eval y=.agg (xs.map (Value.int k)).toArray) (ht:P.underlying t=some (.array n e)) (he:P.underlying e=some (.int k)) (hs:(P.info? e).map (·.size)=some 1) (hm:P.eqGuardType P.depth t=false) (h1:xs.length=n) :
  (execOp a.eval {dst:=dst,op:=.binOp .eql t x y rt,type:=typ,pos:=pos,after:=aft,guard:=gd}).run P w=.ok (.value (.bool true)) w:=by
 rw [exec_eqa e n k xs xs hx hy ht he hs hm h1 h1,decide_eq_true rfl]
def k12:Slt:=putS newS 3 (entN newS 3 (keyB 1) (keyB 2))
theorem k12_free:freeI newS.held=0:=by decide
theorem k12_used:usedL k12.held 24=[3]:=by
 unfold usedL
 have h:∀j,(k12.held j).isSome=decide (j=3):=by
  intro j
  by_cases hj:j=3
  ·subst hj;rfl
  ·rw [show k12.held j=none from aS _ _ hj,decide_eq_false hj];rfl
 rw [show (fun j=>(k12.held j).isSome)=fun j=>decide (j=3) from funext h]
 decide
theorem k12_none:usedL (eraS k12 3).held 24=[]:=by
 unfold usedL
 have h:∀j,((eraS k12 3).held j).isSome=false:=by
  intro j
  by_cases hj:j=3
  ·subst hj;rfl
  ·rw [show (eraS k12 3).held j=none from (aS _ _ hj).trans (aS _ _ hj)];rfl
 rw [show (fun j=>((eraS k12 3).held j).isSome)=fun _=>false from funext h]
 decide
theorem k12_a:getV k12.held 3 (keyB 1)=(keyB 2,0):=fT (t:=newS) (i:=3) (by omega) (keyB 1) (keyB 2) (bS 2) (dN (by omega))
theorem k12_b:getV k12.held 3 (keyB 2)=(zero32,50):=by
 have h:getV k12.held ((3:Nat):Int) (keyB 2)=unwV (keyB 2) 3 (entN newS 3 (keyB 1) (keyB 2)):=gZ (by omega) (bg _ _ _) _
 refine h.trans ?_
 unfold unwV
 rw [if_neg]
 rw [show unwOk (keyB 2) 3 (entN newS 3 (keyB 1) (keyB 2))=false from reckS]
 simp
theorem k12_four:k12.held 4=none:=aS newS.held (some (entN newS 3 (keyB 1) (keyB 2))) (show (4:Nat)≠3 by decide)
theorem k12_c:getV k12.held 4 (keyB 1)=(zero32,120):=iH (i:=4) (by omega) k12_four _
theorem ef (w:World) (ht:Tab w) (hq:QTab w) :
  Calls Tryz.prog 9 #[] w fun e w'=>e=.returned (.bool true)∧Below w.heap.size w w':=by
 have HT:Hid (Tab w):=ht
 have HQT:Hid (QTab w):=hq
 have tk1:Nat:=0
 have tk2:Nat:=0
 have tk3:Nat:=0
 have tk4:Nat:=0
 have tk5:Nat:=0
 have hm:=Mem.start w
 clear ht hq
 go_enter Tryz.func9,Tryz.ntmps9
 go_wp2_with (first
  | (go_at_call 10;(first|(clear tk1;go_must (refine (ee 64 _).mono ?_);rintro e w1 ⟨g,rfl,mb,kv,hd,hf,hb1⟩;rw [fq] at hd;have HD:Hid (DkAt w1 g mb kv (Dk.new 64)):=hd;have HF:Hid (∀q∈foot g mb kv,w.heap.size≤q):=hf;replace hm:=hm.call hb1;clear hd hf hb1)|(go_must (refine (ee 63 _).mono ?_);rintro e w1 ⟨g9,rfl,mb9,kv9,hd,hf,hb1⟩;rw [clamp63] at hd;have HD9:Hid (DkAt w1 g9 mb9 kv9 (Dk.new 63)):=hd;replace st:=st.below hb1;clear hd hf hb1)))
  | (go_at_call 11;(first|(clear tk2;go_must (refine (fh (by omega) (by omega) hm HD.out HF.out (by simp) HT.out).mono ?_);rintro e w2 ⟨sb,hb,rfl,st,_,_,_⟩;obtain ⟨d0,hd0⟩:∃x,x=makeD (Dk.new 64):=⟨_,rfl⟩;rw [←hd0] at st;clear hd0 hm HD HF)|(go_must (refine (make_small g9 mb9 kv9 (Dk.new 63) (by show 63<64;omega) _ HD9.out).mono ?_);rintro e w2 ⟨rfl,hw2⟩;replace hw2:=hw2.symm;subst hw2)))
  | (go_at_call 25;go_must (refine (free_v st).mono ?_);rintro e wf ⟨he,st9⟩;rw [k12_free] at he;subst he;replace st:=st9;clear st9)
  | (go_at_call 14;refine (key_any _ _).mono ?_;rintro e wk ⟨rfl,hbk⟩;replace st:=st.below hbk;clear hbk)
  | (go_at_call 13;(first|(clear tk3;go_must (refine (put_w st HT.out HQT.out (by omega) (by decide) 3 (by omega) (keyB 1) (keyB 2) (bS 1) (dN (by omega)) (bS 2) (dN (by omega)) k12 rfl).mono ?_);rintro e wp ⟨rfl,⟨d1,st9⟩,_⟩;replace st:=st9;clear st9)|(go_must (refine (put_nv st 24 (by decide) (keyB 1) (keyB 2)).mono ?_);rintro e wp ⟨rfl,st9⟩;replace st:=st9;clear st9)))
  | (go_at_call 18;go_must (refine (crash_w st [] _ bytes_nil (SlA.nil _ _)).mono ?_);rintro e wc ⟨rfl,d2,st9⟩;replace st:=st9;clear st9)
  | (go_at_call 19;go_must (refine (open_v st HT.out (by omega)).mono ?_);rintro e wo ⟨s2,h2,rfl,st9⟩;replace st:=st9;clear st9)
  | (go_at_call 16;(first|(clear tk4;go_must (refine (get_v st HT.out HQT.out 3 (keyB 1) (bS 1) (dN (by omega))).mono ?_);rintro e wg ⟨he,st9⟩;rw [k12_a] at he;subst he;replace st:=st9;clear st9)|(clear tk5;go_must (refine (get_v st HT.out HQT.out 3 (keyB 2) (bS 2) (dN (by omega))).mono ?_);rintro e wg ⟨he,st9⟩;rw [k12_b] at he;subst he;replace st:=st9;clear st9)|(go_must (refine (get_v st HT.out HQT.out 4 (keyB 1) (bS 1) (dN (by omega))).mono ?_);rintro e wg ⟨he,st9⟩;rw [k12_c] at he;subst he;replace st:=st9;clear st9)))
  | ((with_reducible refine ab (some 6) (.alloc 39) ?_);go_must (refine bz _ aM ?_);intro wa q6 hba hqa hra;replace st:=st.add hba hra hqa;clear hba hqa hra)
  | ((with_reducible refine ab none (.store 39 (.tmp 6) (.tmp 55)) ?_);go_must (refine cI (u8s (keyB 2)) (st.mem.get 0 rfl) rfl rfl 32 am (by simp [aa]) (by rw [aa,bS]) (aj _) ?_);intro wb hub hrb;replace st:=st.upd 0 rfl hub hrb;clear hub hrb)
  | ((with_reducible refine ab (some 8) (.alloc 39) ?_);go_must (refine bz _ aM ?_);intro wa q8 hba hqa hra;replace st:=st.add hba hra hqa;clear hba hqa hra)
  | ((with_reducible refine ab none (.store 39 (.tmp 8) (.tmp 61)) ?_);go_must (refine cI (u8s zero32) (st.mem.get 0 rfl) rfl rfl 32 am (by simp [aa]) (by simp [aa,zero32]) (aj _) ?_);intro wb hub hrb;replace st:=st.upd 0 rfl hub hrb;clear hub hrb)
  | ((with_reducible refine ab (some 10) (.alloc 39) ?_);go_must (refine bz _ aM ?_);intro wa q10 hba hqa hra;replace st:=st.add hba hra hqa;clear hba hqa hra)
  | ((with_reducible refine ab none (.store 39 (.tmp 10) (.tmp 67)) ?_);go_must (refine cI (u8s zero32) (st.mem.get 0 rfl) rfl rfl 32 am (by simp [aa]) (by simp [aa,zero32]) (aj _) ?_);intro wb hub hrb;replace st:=st.upd 0 rfl hub hrb;clear hub hrb)
  | (go_at_call 26;go_must (refine (used_v st).mono ?_);rintro e wu ⟨vu,rfl,hin,st9,hbu⟩;rw [k12_used] at hin;have HIN:Hid (Ints wu _ vu [3]):=hin;have HLT:Hid (∀q∈footS g mb kv s2 h2,q<_):=st.at_.lt;replace st:=st9;clear st9 hbu hin))
 obtain ⟨pu,cu,rfl,hpu⟩:=HIN.out
 obtain ⟨bu,rfl,hbu1,hbu2,hbc⟩:=hpu (by decide)
 have HBU:Hid (bu ∉ footS g mb kv s2 h2):=fun hh=>by have:=HLT.out bu hh;omega
 have HCU:=hbc 0 3 rfl
 rw [show [3].length=1 from rfl]
 clear hbc hpu HLT HIN
 refine ax ?_
 refine aY (T:=fun W=>(Row W q6 (u8s (keyB 2)) 39∧W.cell? ⟨bu,0,none⟩=some (.int .i64 3))) (by kernel_rfl) st.mem ?_
 intro wz hbz hmz
 have HTW:Hid (Row wz q6 (u8s (keyB 2)) 39∧wz.cell? ⟨bu,0,none⟩=some (.int .i64 3)):=⟨hmz.get 2 rfl,(World.cell?_of_block (hbz.block bu (block_lt_of_cell HCU))).trans HCU⟩
 replace st:=st.below hbz
 clear hbz hmz HCU
 refine aT 0 (v:=.int .i64 0) rfl (by kernel_rfl) rfl (fun W _=>by go_simp) HTW.out ?_
 go_simp
 refine aT 1 (v:=.bool true) rfl (by kernel_rfl) rfl (fun W _=>by go_simp) HTW.out ?_
 go_simp
 refine aT 2 (v:=.bool true) rfl (by kernel_rfl) rfl (fun W _=>by go_simp) HTW.out ?_
 go_simp
 refine aG 3 (v:=.agg (u8s (keyB 2)).toArray) rfl (by kernel_rfl) rfl (fun W hW=>ao 0 _ hW.1 rfl _ ar rfl 32 am (by rw [aa,bS];omega) (by rw [List.drop_zero,List.take_of_length_le (by rw [aa,bS];omega)])) HTW.out ?_
 go_simp
 refine aO 4 (by kernel_rfl) rfl rfl ?_
 intro K hK
 go_wp2_with ((go_at_call 14;refine (key_any _ _).mono ?_;rintro e wk ⟨rfl,hbk⟩;have HTW':Hid (Row wk q6 (u8s (keyB 2)) 39∧wk.cell? ⟨bu,0,none⟩=some (.int .i64 3)):=⟨Row.bel HTW.out.1 hbk,(World.cell?_of_block (hbk.block bu (block_lt_of_cell HTW.out.2))).trans HTW.out.2⟩;replace st:=st.below hbk;clear hbk HTW;have HTW:=HTW';clear HTW'))
 refine hK _ _ HTW.out ?_
 clear hK K
 go_simp
 refine aG 5 (v:=.bool true) rfl (by kernel_rfl) rfl (fun W hW=>dZ 5 32 .u8 (keyB 2) rfl rfl ar aZ aC fF (bS 2)) HTW.out ?_
 go_simp
 refine aT 6 (v:=.bool true) rfl (by kernel_rfl) rfl (fun W _=>by go_simp) HTW.out ?_
 go_simp
 refine aT 7 (v:=.bool true) rfl (by kernel_rfl) rfl (fun W _=>by go_simp) HTW.out ?_
 go_simp
 refine aG 8 (v:=.int .i64 50) rfl (by kernel_rfl) rfl (fun W _=>by go_simp) HTW.out ?_
 go_simp
 refine aG 9 (v:=.bool true) rfl (by kernel_rfl) rfl (fun W _=>by go_simp) HTW.out ?_
 go_simp
 refine aT 10 (v:=.bool true) rfl (by kernel_rfl) rfl (fun W _=>by go_simp) HTW.out ?_
 go_simp
 refine aT 11 (v:=.bool true) rfl (by kernel_rfl) rfl (fun W _=>by go_simp) HTW.out ?_
 go_simp
 refine aG 12 (v:=.int .i64 120) rfl (by kernel_rfl) rfl (fun W _=>by go_simp) HTW.out ?_
 go_simp
 refine aG 13 (v:=.bool true) rfl (by kernel_rfl) rfl (fun W _=>by go_simp) HTW.out ?_
 go_simp
 refine aT 14 (v:=.bool true) rfl (by kernel_rfl) rfl (fun W _=>by go_simp) HTW.out ?_
 go_simp
 refine aT 15 (v:=.bool true) rfl (by kernel_rfl) rfl (fun W _=>by go_simp) HTW.out ?_
 go_simp
 refine aG 16 (v:=.int .i64 70) rfl (by kernel_rfl) rfl (fun W _=>by go_simp) HTW.out ?_
 go_simp
 refine aG 17 (v:=.bool true) rfl (by kernel_rfl) rfl (fun W _=>by go_simp) HTW.out ?_
 go_simp
 refine aT 18 (v:=.bool true) rfl (by kernel_rfl) rfl (fun W _=>by go_simp) HTW.out ?_
 go_simp
 refine aT 19 (v:=.bool true) rfl (by kernel_rfl) rfl (fun W _=>by go_simp) HTW.out ?_
 go_simp
 refine aG 20 (v:=.slice (some ⟨bu,0,none⟩) 1 cu) rfl (by kernel_rfl) rfl (fun W _=>by go_simp) HTW.out ?_
 go_simp
 refine aG 21 (v:=.int .i64 1) rfl (by kernel_rfl) rfl (fun W _=>by go_simp) HTW.out ?_
 go_simp
 refine aG 22 (v:=.bool true) rfl (by kernel_rfl) rfl (fun W _=>by go_simp) HTW.out ?_
 go_simp
 refine aT 23 (v:=.bool true) rfl (by kernel_rfl) rfl (fun W _=>by go_simp) HTW.out ?_
 go_simp
 refine aT 24 (v:=.bool true) rfl (by kernel_rfl) rfl (fun W _=>by go_simp) HTW.out ?_
 go_simp
 refine aG 25 (v:=.slice (some ⟨bu,0,none⟩) 1 cu) rfl (by kernel_rfl) rfl (fun W _=>by go_simp) HTW.out ?_
 go_simp
 refine aG 26 (v:=.pointer (some ⟨bu,0+0,none⟩)) rfl (by kernel_rfl) rfl (fun W hW=>eG e6 sz_int 0 rfl rfl rfl (by omega)) HTW.out ?_
 go_simp
 refine aG 27 (v:=.int .i64 3) rfl (by kernel_rfl) rfl (fun W hW=>dz hW.2 rfl ag_intS) HTW.out ?_
 go_simp
 refine aG 28 (v:=.bool true) rfl (by kernel_rfl) rfl (fun W _=>by go_simp) HTW.out ?_
 go_simp
 refine aT 29 (v:=.bool true) rfl (by kernel_rfl) rfl (fun W _=>by go_simp) HTW.out ?_
 go_simp
 refine aT 30 (v:=.bool true) rfl (by kernel_rfl) rfl (fun W _=>by go_simp) HTW.out ?_
 go_simp
 refine aG 31 (v:=.pointer (some ⟨s2,0,none⟩)) rfl (by kernel_rfl) rfl (fun W _=>by go_simp) HTW.out ?_
 go_simp
 refine aO 32 (by kernel_rfl) rfl rfl ?_
 intro K hK
 go_wp2_with ((go_at_call 15;go_must (refine (erase_w st (by omega) 3 (by omega) (eraS k12 3) rfl).mono ?_);rintro e we ⟨rfl,⟨d9,st9⟩,hue⟩;have HTW':Hid (Row we q6 (u8s (keyB 2)) 39∧we.cell? ⟨bu,0,none⟩=some (.int .i64 3)):=⟨st9.mem.get 2 rfl,(World.cell?_of_block (hue.block bu (block_lt_of_cell HTW.out.2) HBU.out)).trans HTW.out.2⟩;replace st:=st9;clear st9 hue HTW;have HTW:=HTW';clear HTW'))
 refine hK _ _ HTW.out ?_
 clear hK K
 go_simp
 refine aG 33 (v:=.bool true) rfl (by kernel_rfl) rfl (fun W _=>by go_simp) HTW.out ?_
 go_simp
 refine aT 34 (v:=.bool true) rfl (by kernel_rfl) rfl (fun W _=>by go_simp) HTW.out ?_
 go_simp
 refine aT 35 (v:=.bool true) rfl (by kernel_rfl) rfl (fun W _=>by go_simp) HTW.out ?_
 go_simp
 refine aG 36 (v:=.pointer (some ⟨s2,0,none⟩)) rfl (by kernel_rfl) rfl (fun W _=>by go_simp) HTW.out ?_
 go_simp
 refine aO 37 (by kernel_rfl) rfl rfl ?_
 intro K hK
 go_wp2_with ((go_at_call 26;go_must (refine (used_v st).mono ?_);rintro e wu ⟨vu9,rfl,hin9,st9,hb9⟩;rw [k12_none] at hin9;have HTW':Hid (Row wu q6 (u8s (keyB 2)) 39∧wu.cell? ⟨bu,0,none⟩=some (.int .i64 3)):=⟨st9.mem.get 2 rfl,(World.cell?_of_block (hb9.block bu (block_lt_of_cell HTW.out.2))).trans HTW.out.2⟩;obtain ⟨pu9,cu9,rfl,_⟩:=hin9;replace st:=st9;clear st9 hb9 HTW;have HTW:=HTW';clear HTW'))
 refine hK _ _ HTW.out ?_
 clear hK K
 go_simp
 refine aG 38 (v:=.int .i64 0) rfl (by kernel_rfl) rfl (fun W _=>by go_simp) HTW.out ?_
 go_simp
 refine aG 39 (v:=.bool true) rfl (by kernel_rfl) rfl (fun W _=>by go_simp) HTW.out ?_
 go_simp
 refine aT 40 (v:=.bool true) rfl (by kernel_rfl) rfl (fun W _=>by go_simp) HTW.out ?_
 go_simp
 refine aT 41 (v:=.bool true) rfl (by kernel_rfl) rfl (fun W _=>by go_simp) HTW.out ?_
 go_simp
 refine wpAnyH_done (by kernel_rfl) ?_ _
 simp only [endsIn]
 go_wp2_with fail
 go_ret
 exact ⟨rfl,st.mem.below⟩
open Go Go.RowKit Go.Maps
theorem Sv.cell {w0 w:World} {g mb:Nat} {kv:Value} {sb hb:Nat} {d:Dk} {t:Slt} {k:Nat} {rows:List (Nat×List Value×TypeId)} (h:Sv w0 w g mb kv sb hb d t k rows) {b o:Nat} {v:Value} (hc:w0.cell? ⟨b,o,none⟩=some v):w.cell? ⟨b,o,none⟩=some v :=
 (h.mem.old (p:=⟨b,o,none⟩) (block_lt_of_cell hc) (by simp)).trans hc
open Go Go.ChangeShapes Go.WideShapes Go.ChangeAt Go.RowKit
structure Stp where
 wh:Int
 i:Int
 kek:Int
 key:Int
 pw:Int
 pc:Option Addr
 cc:Nat
 cs:List Int
def stp0:Stp:=⟨0,0,0,0,0,none,0,[]⟩
def Stp.row (x:Stp):List Value:=[.int .i64 x.wh,.int .i64 x.i,.int .u8 x.kek,.int .u8 x.key,.int .i64 x.pw,.slice x.pc x.cs.length x.cc]
structure Stp.Good (x:Stp) (W:World):Prop where
 kek:0≤x.kek∧x.kek<256
 key:0≤x.key∧x.key<256
 hi:x.pw≤9223372036854775807
 sc:SlOld W (.slice x.pc x.cs.length x.cc) x.cs
 bc:Bytes x.cs
section
variable {a:Act} {w:World} {dst:Option Tmp} {typ:TypeId} {pos:String} {aft:Array Edge} {gd:Option (Nat×Bool)}
end
open Go Go.RowKit Go.Maps
section
variable {P:Program} {ops:Array Oper} {rest:List Oper} {a:Act} {w w0:World} {Q:Exit→Act→World→Prop} {dst:Option Tmp} {typ:TypeId} {pos:String} {aft:Array Edge} {gd:Option (Nat×Bool)} {S:List Nat} {rows:List (Nat×List Value×TypeId)}
theorem own_emptyD {e:TypeId} {base g n:Nat} (hr:Row w g (List.replicate n (.int .u8 0)) e) (hb:base≤g) (hl:n≤1000000):OwnB e w base (.slice (some ⟨g,0,none⟩) 0 n) [] :=
 ⟨by simp [u8s],Or.inr ⟨g,n,(List.replicate n (Value.int .u8 0)).toArray,rfl,hb,hr,Nat.zero_le _,by unfold maxLen;omega,by simp,by simp [u8s]⟩⟩
theorem wpl_makeED {ty:TypeId} {x y:Operand} (elem:TypeId) (hu:P.underlying ty=some (.slice elem)) (z:Value) (hi:(P.info? elem).map (fun i=>(i.zero,i.size,i.bytes))=some (some z,1,1)) (hz:z.cells=#[z]) (n:Nat) {j:Int} (hx:a.eval x=.int .i64 0) (hy:a.eval y=.int .i64 j) (hyj:j=(n:Int)) (hn:n≤1000000) (hm:Mem w0 S w rows)
  (h:∀w' g,Mem w0 S w' ((g,List.replicate n z,elem)::rows)→wpList P ops Q rest (a.put dst (.slice (some ⟨g,0,none⟩) 0 n)) w') :
  wpList P ops Q ({dst:=dst,op:=.makeSlice ty x y,type:=typ,pos:=pos,after:=aft,guard:=none}::rest) a w:=by
 subst hyj
 refine wpList_plain rfl fun K hK=>?_
 have hh:=hK _ _ (h _ _ (hm.alloc (List.replicate n z) elem))
 have hr:(Instr.makeSlice ty (.int .i64 0) (.int .i64 (n:Int))).run P w=.ok (.slice (some ⟨w.heap.size,0,none⟩) 0 n) (w.alloc (.cells (List.replicate n z).toArray elem)):=by
  cases hq:P.info? elem with
  | none=>simp [hq] at hi
  | some q =>
   simp only [hq,Option.map_some,Option.some.injEq,Prod.mk.injEq] at hi
   obtain ⟨h0,h1,h2⟩:=hi
   have:=run_makeSlice (P:=P) w ty elem q z hu hq h0 .i64 .i64 0 (n:Int) (by omega) (by omega) (by rw [h1];simp;omega) (by rw [h2];simp;omega) (by omega)
   rw [this,h1,hz]
   have e:madeCells #[z] ((n:Int).toNat * 1)=(List.replicate n z).toArray:=by
    unfold madeCells
    apply Array.ext
    ·simp
    ·intro k h1 h2
     simp [Nat.mod_one]
   rw [e]
   simp
 unfold Oper.wp execOp
 simp only [hx,hy,Sem.run_bind,Sem.run_pure,Result.andThen_ok,hr]
 exact hh
end
theorem image_any (g mb:Nat) (kv:Value) (d:Dk) (w:World) (hd:DkAt w g mb kv d) :
  Calls Tryz.prog 24 #[.pointer (some ⟨g,0,none⟩)] w fun e w'=>∃v,e=.returned v∧OwnB 5 w' w.heap.size v (flatK d.kept d.n)∧Below w.heap.size w w':=by
 have hm:=Mem.start w
 have HD:Hid (DkAt w g mb kv d):=hd
 obtain ⟨p,cap,hk⟩:=hd.kept.slice
 have hn4:=hd.ok.n
 have HKE0:Hid (∀_:Unit,kv=.slice p d.n cap):=fun _=>hk
 obtain ⟨n,hn⟩:∃n,n=d.n:=⟨_,rfl⟩
 rw [←hn] at hn4 hk
 have HN:Hid (∀_:Unit,d.n=n):=fun _=>hn.symm
 have HKE:Hid (kv=.slice p n cap):=hk
 have HKL:Hid (∀i,i<d.n→(d.kept i).length=64):=hd.ok.kept
 have HZ:Hid ((u8s zeroK).length=64):=by show _=_;rw [aa];exact aI
 rw [←hn]
 clear hd hk hn
 have hmul:((n:Int) * 64)=((n * 64:Nat):Int):=by omega
 have HMU:Hid (∀_:Unit,((n:Int) * 64)=((n * 64:Nat):Int)):=fun _=>hmul
 clear hmul
 go_enter Tryz.func24,Tryz.ntmps24
 go_wp2_with (first
  | ((with_reducible refine ab (some 9) (.load 64 (.tmp 8)) ?_);go_must (refine dX 0 (.slice p n cap) (DkAt.row (HD.out.mem hm)) rfl eP (by rw [←HKE.out];rfl) ?_))
  | ((with_reducible refine ab (some 12) (.makeSlice 33 (.const (.int .i64 0)) (.tmp 11)) ?_);go_must (refine wpl_makeED _ iF (.int .u8 0) made_u8D rfl (n * 64) rfl rfl (HMU.out ()) (by omega) (Mem.start _) ?_);intro w1 qi hq;have HO':=own_emptyD (base:=w.heap.size) (hq.get 0 rfl) (by have:=hq.fresh _ (List.mem_cons_self ..);simp at this;have:=hm.size;omega) (by omega);replace hm:=hm.call hq.below;clear hq;have HO:Hid (OwnB 5 w1 w.heap.size (.slice (some ⟨qi,0,none⟩) 0 (n * 64)) []):=HO';clear HO')
  | ((with_reducible refine ab (some 16) (.load 64 (.tmp 15)) ?_);go_must (refine dX 0 (.slice p n cap) (DkAt.row (HD.out.mem hm)) rfl eP (by rw [←HKE.out];rfl) ?_)))
 go_loopw [3,18] (fun vb vk wr=>∃k:Nat,k≤n∧vk=.int .i64 (k:Int)∧OwnB 5 wr w.heap.size vb (flatK d.kept k)∧Mem w [] wr []) (fun _ vk _=>n - (intOf vk).toNat)
 case atStart=>exact ⟨0,by omega,rfl,HO.out,hm⟩
 case round =>
  clear HO hm
  obtain ⟨k,hk,rfl,ho,hm⟩:=hrel
  have HO:Hid (OwnB 5 wr w.heap.size u3 (flatK d.kept k)):=ho
  clear ho
  by_cases hlt:k<n
  ·have hlt2:(k:Int)<(n:Int):=by omega
   have HLT:Hid (k<d.n):=by show k<d.n;rw [HN.out ()];exact hlt
   obtain ⟨kb,cap',tl,hkv,hcap,hrk⟩:=HD.out.kept.some (by have:=HLT.out;omega)
   have HRK:Hid (Row w kb (u8s (flatK d.kept d.n)++tl) 93):=hrk
   have hp:p=some ⟨kb,0,none⟩:=by
    have h:=HKE.out.symm.trans hkv
    simp only [Value.slice.injEq] at h
    exact h.1
   subst hp
   have HXL:Hid ((u8s (d.kept k)).length=64):=by show _=_;rw [aa];exact HKL.out k HLT.out
   clear hkv hcap hrk
   go_wp2_with (first
    | ((with_reducible refine ab (some 20) (.indexAddr 64 (.tmp 16) (.tmp 18)) ?_);go_must (refine aq (.pointer (some ⟨kb,k * 64,none⟩)) rfl (eI k rfl rfl rfl hlt) ?_))
    | ((with_reducible refine ab (some 21) (.load 93 (.tmp 20)) ?_);go_must (refine aq (.agg (u8s (d.kept k)).toArray) rfl (hP k (Row.below' HRK.out hm.below) HKL.out HLT.out rfl) ?_))
    | ((with_reducible refine ab (some 5) (.alloc 93) ?_);go_must (refine af _ cO (Mem.start _) ?_);intro w2 q hq;have HO':=OwnB.below HO.out hq.below;have hm':=hm.callNew hq.below (hq.get 0 rfl) (by have:=hq.fresh _ (List.mem_cons_self ..);simpa using this);clear hm HO hq;have hm:=hm';have HO:Hid (OwnB 5 w2 w.heap.size u3 (flatK d.kept k)):=HO';clear hm' HO')
    | ((with_reducible refine ab none (.store 93 (.tmp 5) (.tmp 21)) ?_);go_must (refine ah 0 (u8s (d.kept k)) (Mem.enter (hm.get 0 rfl)) rfl rfl rfl 64 cB HZ.out HXL.out (aj _) ?_);intro w3 hq;have HO':=OwnB.upd HO.out (hm.get 0 rfl) (by decide) hq.toUpd;have hm':=hm.upd 0 rfl hq.toUpd (hq.get 0 rfl);clear hm HO hq;have hm:=hm';have HO:Hid (OwnB 5 w3 w.heap.size u3 (flatK d.kept k)):=HO';clear hm' HO')
    | ((with_reducible refine ab (some 23) (.slice 93 (.tmp 5) none none none) ?_);refine eR 64 cZ eM 0 64 (by omega) (by omega) rfl (Or.inr ⟨rfl,rfl⟩) (Or.inr ⟨rfl,rfl⟩) ?_)
    | ((with_reducible refine ab (some 24) (.call {callee:=.builtin .append,args:=#[.tmp 22,.tmp 23],argTypes:=#[33,33]}) ?_);go_must (refine b8 rfl iF made_u8D (d.kept k) hm HO.out (by intro r hr;simp only [List.mem_cons,List.not_mem_nil,or_false,List.set_cons_zero] at hr;subst hr;simp) rfl rfl (by rw [HKL.out k HLT.out]) (fun _=>⟨q,0,rfl,Seg.row (hm.get 0 rfl)⟩) (by rw [HKL.out k HLT.out,bK _ _ (fun i hi=>HKL.out i (by have:=HLT.out;omega))];omega) ?_);intro v4 w4 ho4 hm4;have HO4:Hid (OwnB 5 w4 w.heap.size v4 (flatK d.kept (k+1))):=ho4;replace hm:=hm4.tail;clear ho4 hm4 HO))
   go_roundw
   case rel=>exact ⟨k+1,by omega,by go_num,HO4.out,hm⟩
   case measure=>simp [intOf];omega
  ·have hk2:¬((k:Int)<(n:Int)):=by omega
   have hkn:k=n:=by omega
   have HOF:Hid (OwnB 5 wr w.heap.size u3 (flatK d.kept n)):=by rw [←hkn];exact HO.out
   clear hkn HO
   go_wp2_with fail
   go_ret
   exact ⟨_,rfl,HOF.out,hm.below⟩
end Go.Proofs.YtblnljajipbajaaGreatDoor
