import Derived.Test.YtmlbjfklaehjnaaGreatDoorQc10
import Derived.Test.YtmlbjfklaehjnaaGreatDoorQc04
import Derived.Shelf.SlMaps.Clone
import Derived.Laws.Cover3
set_option maxRecDepth 100000
set_option maxHeartbeats 4000000
namespace Go.Proofs.YtmlbjfklaehjnaaGreatDoor
open Go Go.RowKit Go.Maps
theorem idx_row:(115:TypeId)<Tryz.prog.types.size:=of_decide_eq_true (by kernel_rfl)
theorem idx_wide:(match Tryz.prog.underlying 115 with|some (.array _ _)|some (.struct _)=>true|_=>false)=true:=by kernel_rfl
theorem de:Keyed Tryz.prog 115:=Keyed.of_law (deep_law_laid key_laid (m:=2) (by omega) idx_row (by kernel_rfl) idx_wide)
theorem idx_type:Tryz.prog.keyType 115=true:=by kernel_rfl
theorem kC:Tryz.prog.cellsOf 115=4:=by kernel_rfl
theorem du:Tryz.prog.underlying 104=some (.map 115 162):=Tryz.underlying104
theorem idx_of (zs:List Int) (hl:zs.length=4) (hb:Bytes zs):∃kl,keyOf Tryz.prog 115 (.agg (u8s zs).toArray)=some kl:=by
 obtain ⟨n,hn⟩:=jh
 have hf:(Value.agg (u8s zs).toArray).formed Tryz.prog 115=true:=by
  simp [Value.formed,kC,ab,hl]
 have hk:Tryz.prog.keyLits (Tryz.prog.types.size+1) 115 (u8s zs)=some ((List.range 4).map fun i=>[Lit.int .u8 (zs.getD i 0)]).flatten:=by
  unfold Program.keyLits
  simp only [cV]
  rw [if_pos (by rw [ab,hl,kC]),mw (g:=fun i=>[Lit.int .u8 (zs.getD i 0)])]
  ·rfl
  ·intro i hi
   have hi':i<zs.length:=by rw [hl];exact List.mem_range.1 hi
   have hc:(List.drop (i * Tryz.prog.cellsOf 5) (u8s zs)).take (Tryz.prog.cellsOf 5)=[.int .u8 (zs.getD i 0)]:=by
    rw [jg,Nat.mul_one,List.take_one,List.head?_drop,cG zs i hi']
    rfl
   have:=hb.get i
   rw [hc,hn]
   unfold Program.keyLits
   have hg:=wf_u8 _ this.1 this.2
   simp only [cf]
   exact if_pos ⟨trivial,hg⟩
 unfold keyOf
 rw [cV]
 simp only
 rw [if_pos (by rw [idx_type,hf];rfl)]
 exact ⟨_,by rw [show (Value.agg (u8s zs).toArray).cells.toList=u8s zs from rfl,hk];rfl⟩
theorem jW {n:Nat} {v:Value} {ls:List Lit} (h:Tryz.prog.keyLits (n+1) 5 [v]=some ls):∃x:Int,v=.int .u8 x∧0≤x∧x<256:=by
 unfold Program.keyLits at h
 simp only [cf] at h
 cases v<;>simp at h
 obtain ⟨⟨rfl,hw⟩,_⟩:=h
 refine ⟨_,rfl,?_⟩
 simp [Lit.wf,IntKind.min,IntKind.max,IntKind.signed,IntKind.bits] at hw
 omega
theorem idx_inv {v:Value} {kl:Lit} (h:keyOf Tryz.prog 115 v=some kl):∃zs:List Int,zs.length=4∧Bytes zs∧v=.agg (u8s zs).toArray:=by
 obtain ⟨n,hn⟩:=jh
 unfold keyOf at h
 rw [cV] at h
 simp only at h
 split at h
 ·simp only [Option.map_eq_some_iff] at h
  obtain ⟨ls,hls,_⟩:=h
  unfold Program.keyLits at hls
  simp only [cV,kC,jg,Nat.mul_one] at hls
  split at hls
  ·rename_i hlen
   have hag:∃cs:List Value,v=.agg cs.toArray∧cs.length=4:=by
    cases v with
    | agg cs=>exact ⟨cs.toList,by simp,by simpa [Value.cells] using hlen⟩
    | _=>simp [Value.cells] at hlen
   obtain ⟨cs,rfl,hl4⟩:=hag
   match cs,hl4 with
   | [a,b,c,d],_ =>
    rw [hn] at hls
    simp only [Value.cells,Option.map_eq_some_iff] at hls
    obtain ⟨ll,hll,_⟩:=hls
    rw [show List.range 4=[0,1,2,3] from rfl] at hll
    simp only [List.mapM_cons,List.drop_zero,List.drop_succ_cons,List.take_succ_cons,List.take_zero,Option.bind_eq_bind,Option.bind_eq_some_iff] at hll
    obtain ⟨l0,h0,l1,⟨l2,h2,l3,⟨l4,h4,l5,⟨l6,h6,_⟩,_⟩,_⟩,_⟩:=hll
    obtain ⟨x0,rfl,p0⟩:=jW h0
    obtain ⟨x1,rfl,p1⟩:=jW h2
    obtain ⟨x2,rfl,p2⟩:=jW h4
    obtain ⟨x3,rfl,p3⟩:=jW h6
    refine ⟨[x0,x1,x2,x3],rfl,?_,rfl⟩
    intro x hx
    simp only [List.mem_cons,List.not_mem_nil,or_false] at hx
    rcases hx with rfl|rfl|rfl|rfl<;>assumption
  ·cases hls
 ·cases h
/-- Four bytes are those of a number. -/
theorem four_of {zs:List Int} (hl:zs.length=4) (hb:Bytes zs):∃i:Nat,i<4294967296∧four (i:Int)=zs:=by
 match zs,hl with
 | [a,b,c,d],_ =>
  have h0:=hb a (by simp)
  have h1:=hb b (by simp)
  have h2:=hb c (by simp)
  have h3:=hb d (by simp)
  refine ⟨(a * 16777216+b * 65536+c * 256+d).toNat,by omega,?_⟩
  rw [Int.toNat_of_nonneg (by omega)]
  unfold four
  simp only [List.cons.injEq,and_true]
  omega
theorem four_inj {i j:Nat} (hi:i<4294967296) (hj:j<4294967296) (h:four (i:Int)=four (j:Int)):i=j:=by
 unfold four at h
 simp only [List.cons.injEq,and_true] at h
 omega
def idxV (i:Nat):Value:=.agg (u8s (four (i:Int))).toArray
theorem idxV_inj {i j:Nat} (hi:i<4294967296) (hj:j<4294967296) (h:idxV i=idxV j):i=j:=by
 refine four_inj hi hj ?_
 have h2:u8s (four (i:Int))=u8s (four (j:Int)):=by simpa [idxV] using h
 unfold u8s at h2
 exact (List.map_inj_right (fun x y hxy=>by simpa using hxy)).1 h2
def IsK (i:Nat) (kl:Lit):Prop:=i<4294967296∧keyOf Tryz.prog 115 (idxV i)=some kl
theorem IsK.ex (i:Nat) (hi:i<4294967296):∃kl,IsK i kl:=by
 obtain ⟨kl,h⟩:=idx_of (four (i:Int)) rfl (fS _)
 exact ⟨kl,hi,h⟩
theorem IsK.inj {i j:Nat} {kl:Lit} (h:IsK i kl) (h':IsK j kl):i=j:=idxV_inj h.1 h'.1 (de.inj h.2 h'.2)
theorem IsK.uni {i:Nat} {kl kl':Lit} (h:IsK i kl) (h':IsK i kl'):kl=kl':=Option.some.inj (h.2.symm.trans h'.2)
theorem IsK.lit {i:Nat} {kl:Lit} (h:IsK i kl):WideAt.IsKeyLit kl:=de.key h.2
theorem IsK.of {v:Value} {kl:Lit} (h:keyOf Tryz.prog 115 v=some kl):∃i,IsK i kl∧v=idxV i:=by
 obtain ⟨zs,hl,hb,rfl⟩:=idx_inv h
 obtain ⟨i,hi,rfl⟩:=four_of hl hb
 exact ⟨i,⟨hi,h⟩,rfl⟩
abbrev Sts:=Gens
def stV (s:Nat):Value:=.agg #[.int .u64 (s:Int)]
theorem info_sta:(Tryz.prog.info? 162).map (fun i=>(i.zero,i.size))=some (some (stV 0),1):=by kernel_rfl
theorem jD:∀w,(zeroValue 162).run Tryz.prog w=.ok (stV 0) w:=(zero_of_info info_sta).1
structure SM (D:DataW Value) (p:Sts):Prop where
 has:∀i kl,IsK i kl→Maps.has D kl=(p i).isSome
 only:∀kl,Maps.has D kl=true→∃i,IsK i kl
 val:∀i kl s,IsK i kl→p i=some s→∀z,D.atKey kl z=.held (stV s)
 dom:∀i s,p i=some s→i<400
theorem SM.none:SM (.map []) (fun _=>none):=⟨fun _ _ _=>rfl,fun _ h=>by simp [Maps.has] at h,fun _ _ _ _ h=>(by cases h),fun _ _ h=>(by cases h)⟩
theorem SM.put {D:DataW Value} {p:Sts} (h:SM D p) (hD:IsMap D) {i:Nat} {kl:Lit} (hk:IsK i kl) (hi:i<400) (s:Nat):SM (D.put kl (.held (stV s))) (upf p i (some s)):=by
 refine ⟨fun j kj hj=>?_,fun kj hh=>?_,fun j kj t hj ht z=>?_,fun j t ht=>?_⟩
 ·by_cases he:kj=kl
  ·subst he
   rw [has_put_same hD hk.lit,hj.inj hk,b4]
   rfl
  ·rw [has_put_other he,h.has j kj hj,bj p _ (fun e=>he (by subst e;exact hj.uni hk))]
 ·by_cases he:kj=kl
  ·subst he;exact ⟨i,hk⟩
  ·rw [has_put_other he] at hh
   exact h.only kj hh
 ·by_cases he:kj=kl
  ·subst he
   rw [hj.inj hk,b4] at ht
   rw [atKey_put_same hD hk.lit,←Option.some.inj ht]
  ·rw [bj p _ (fun e=>he (by subst e;exact hj.uni hk))] at ht
   rw [atKey_put_other he]
   exact h.val j kj t hj ht z
 ·by_cases he:j=i
  ·subst he;exact hi
  ·rw [bj p _ he] at ht
   exact h.dom j t ht
theorem SM.del {D:DataW Value} {p:Sts} (h:SM D p) {i:Nat} {kl:Lit} (hk:IsK i kl):SM (D.del kl) (upf p i Option.none):=by
 refine ⟨fun j kj hj=>?_,fun kj hh=>?_,fun j kj t hj ht z=>?_,fun j t ht=>?_⟩
 ·by_cases he:kj=kl
  ·subst he
   rw [has_del_same,hj.inj hk,b4]
   rfl
  ·rw [has_del_other he,h.has j kj hj,bj p _ (fun e=>he (by subst e;exact hj.uni hk))]
 ·by_cases he:kj=kl
  ·subst he;exact ⟨i,hk⟩
  ·rw [has_del_other he] at hh
   exact h.only kj hh
 ·by_cases he:kj=kl
  ·subst he
   rw [hj.inj hk,b4] at ht
   cases ht
  ·rw [bj p _ (fun e=>he (by subst e;exact hj.uni hk))] at ht
   rw [atKey_del_other he]
   exact h.val j kj t hj ht z
 ·by_cases he:j=i
  ·subst he;rw [b4] at ht;cases ht
  ·rw [bj p _ he] at ht
   exact h.dom j t ht
def domL (p:Sts):List Nat:=(List.range 400).filter fun i=>(p i).isSome
def cntS (p:Sts):Nat:=(domL p).length
theorem domL_mem {D:DataW Value} {p:Sts} (h:SM D p) (i:Nat):i∈domL p↔(p i).isSome=true:=by
 simp only [domL,List.mem_filter,List.mem_range]
 constructor
 ·exact fun h=>h.2
 ·intro hs
  obtain ⟨s,hs'⟩:=Option.isSome_iff_exists.1 hs
  exact ⟨h.dom i s hs',hs⟩
theorem SM.size {D:DataW Value} {p:Sts} (h:SM D p) (hT:∃es,D=.map es∧es.Pairwise (fun p q=>p.1≠q.1)∧∀p∈es,WideAt.IsKeyLit p.1):Maps.size D=cntS p:=by
 obtain ⟨es,rfl,hp,hkeys⟩:=hT
 obtain ⟨kl,hkl⟩:∃kl:Nat→Lit,∀i,i<4294967296→IsK i (kl i):=by
  refine ⟨fun i=>(keyOf Tryz.prog 115 (idxV i)).getD (.bool true),fun i hi=>?_⟩
  obtain ⟨k,hk⟩:=IsK.ex i hi
  refine ⟨hi,?_⟩
  simp [hk.2]
 have hlt:∀i∈domL p,i<4294967296:=fun i hi=>by
  have:=List.mem_range.1 (List.mem_filter.1 hi).1
  omega
 have hn2:((domL p).map kl).Nodup:=by
  have h1:(domL p).Nodup:=List.Nodup.sublist List.filter_sublist List.nodup_range
  refine List.pairwise_map.2 (List.Pairwise.imp_of_mem (fun {a b} ha hb hne e=>?_) h1)
  exact hne ((hkl a (hlt a ha)).inj (e▸hkl b (hlt b hb)))
 have hn1:(es.map (·.1)).Nodup:=List.pairwise_map.2 hp
 have hperm:(es.map (·.1)).Perm ((domL p).map kl):=by
  rw [List.perm_ext_iff_of_nodup hn1 hn2]
  intro k
  have hh:k∈es.map (·.1)→Maps.has (.map es:DataW Value) k=true→k∈(domL p).map kl:=by
   intro _ hh
   obtain ⟨i,hi⟩:=h.only k hh
   rw [h.has i k hi] at hh
   refine List.mem_map.2 ⟨i,(domL_mem h i).2 hh,(hkl i hi.1).uni hi⟩
  constructor
  ·intro hk
   obtain ⟨q,hq,rfl⟩:=List.mem_map.1 hk
   exact hh hk (by rw [has_eq,List.any_eq_true];exact ⟨q,hq,WideAt.sameKey_self (hkeys q hq)⟩)
  ·intro hk
   obtain ⟨i,hi,rfl⟩:=List.mem_map.1 hk
   have h1:=(domL_mem h i).1 hi
   rw [←h.has i (kl i) (hkl i (hlt i hi)),has_eq,List.any_eq_true] at h1
   obtain ⟨q,hq,hs⟩:=h1
   exact List.mem_map.2 ⟨q,hq,WideAt.sameKey_eq hs⟩
 have:=hperm.length_eq
 simpa [Maps.size,cntS] using this
def StM (w:World) (m:Nat) (p:Sts):Prop:=∃q D,w.ownsMap Tryz.prog 115 rdV m q D∧SM D p
section
variable {w w':World} {m:Nat} {p:Sts}
theorem StM.isMap (h:StM w m p):∃es c,w.heap[m]?=some (.map es c):=by
 obtain ⟨q,D,⟨es,c,hb,_⟩,_⟩:=h
 exact ⟨es,c,hb⟩
theorem StM.lt (h:StM w m p):m<w.heap.size:=by
 obtain ⟨q,D,ho,_⟩:=h
 exact ho.lt
theorem StM.keep (h:StM w m p) (hk:w'.heap[m]?=w.heap[m]?):StM w' m p:=by
 obtain ⟨q,D,⟨es,c,hb,F,hs,hD⟩,pm⟩:=h
 exact ⟨q,D,⟨es,c,by rw [hk];exact hb,F,hs,hD⟩,pm⟩
theorem StM.below (h:StM w m p) (hb:Below w.heap.size w w'):StM w' m p:=h.keep (hb.block m h.lt)
theorem StM.upd {g:Nat} (h:StM w m p) (hu:Upd g w w') (hg:g≠m):StM w' m p:=h.keep (hu.block m h.lt (fun e=>hg e.symm))
theorem StM.updS {L:List Nat} (h:StM w m p) (hu:UpdS L w w') (hg:m ∉ L):StM w' m p:=h.keep (hu.block m h.lt hg)
theorem StM.new (h:w.heap[m]?=some (.map #[] 0)):StM w m (fun _=>none):=⟨0,.map [],⟨#[],0,h,⟨by simp,MapKept.stamped_empty 0,by simp⟩,Nat.le_refl _,rfl⟩,SM.none⟩
theorem cntS_le (p:Sts):cntS p≤400:=by
 unfold cntS domL
 exact Nat.le_trans (List.length_filter_le _ _) (by simp)
/-- The map with as many entries as it has. -/
theorem StM.tight (h:StM w m p):∃D,w.ownsMap Tryz.prog 115 rdV m 400 D∧SM D p∧Maps.size D=cntS p:=by
 obtain ⟨q,D,ho,pm⟩:=h
 have hsz:=pm.size (ho.entries de)
 refine ⟨D,?_,pm,hsz⟩
 have hc:=cntS_le p
 obtain ⟨es,c,hb,F,hs,hD⟩:=ho
 refine ⟨es,c,hb,F,?_,hD⟩
 rw [hD] at hsz
 simp only [Maps.size,length_sorted,List.length_map] at hsz
 have:es.toList.length=es.size:=by simp
 omega
theorem StM.look (h:StM w m p) (i:Nat) (hi:i<4294967296) :
  (Instr.lookup 104 (.map (some m)) (idxV i) true).run Tryz.prog w=.ok (.tuple #[stV ((p i).getD 0),.bool (p i).isSome]) w:=by
 obtain ⟨q,D,ho,pm⟩:=h
 obtain ⟨kl,hk⟩:=IsK.ex i hi
 obtain ⟨v,ps,hr,hv⟩:=ho.look_ok de du (jD w) (show rdV (stV 0)=some (.held (stV 0),[]) from rfl) hk.2
 rw [hr,pm.has i kl hk]
 have h1:=eZ hv
 cases hp:p i with
 | none =>
  have h2:Maps.has D kl=false:=by rw [pm.has i kl hk,hp];rfl
  rw [atKey_of_not_has h2] at h1
  simp only [DataW.held.injEq] at h1
  subst h1
  rfl
 | some s =>
  rw [pm.val i kl s hk hp] at h1
  simp only [DataW.held.injEq] at h1
  subst h1
  rfl
theorem StM.look1 (h:StM w m p) (i:Nat) (hi:i<4294967296) :
  (Instr.lookup 104 (.map (some m)) (idxV i) false).run Tryz.prog w=.ok (stV ((p i).getD 0)) w:=by
 obtain ⟨q,D,ho,pm⟩:=h
 obtain ⟨kl,hk⟩:=IsK.ex i hi
 obtain ⟨v,ps,hr,hv⟩:=ho.lookup de du (jD w) (show rdV (stV 0)=some (.held (stV 0),[]) from rfl) hk.2
 rw [hr]
 have h1:=eZ hv
 cases hp:p i with
 | none =>
  have h2:Maps.has D kl=false:=by rw [pm.has i kl hk,hp];rfl
  rw [atKey_of_not_has h2] at h1
  simp only [DataW.held.injEq] at h1
  subst h1
  rfl
 | some s =>
  rw [pm.val i kl s hk hp] at h1
  simp only [DataW.held.injEq] at h1
  subst h1
  rfl
theorem StM.putRun (h:StM w m p) (i:Nat) (hi:i<400) (s:Nat) :
  ∃w',(Instr.mapUpdate 104 (.map (some m)) (idxV i) (stV s)).run Tryz.prog w=.ok () w'∧StM w' m (upf p i (some s))∧Upd m w w':=by
 obtain ⟨D,ho,pm,_⟩:=h.tight
 obtain ⟨kl,hk⟩:=IsK.ex i (by omega)
 obtain ⟨w',hr,ho2,hg⟩:=ho.update de du (by unfold maxLen;omega) hk.2 (d:=.held (stV s)) (ps:=[]) (val:=stV s) rfl
 exact ⟨w',hr,⟨_,_,ho2,pm.put ho.isMap hk hi s⟩,⟨hg.os,hg.tape,hg.output,hg.size,fun k hk hne=>hg.block k hk (by simpa using hne)⟩⟩
end
section
variable {ops:Array Oper} {rest:List Oper} {a:Act} {w w':World} {Q:Exit→Act→World→Prop} {dst:Option Tmp} {typ:TypeId} {pos:String} {aft:Array Edge} {gd:Option (Nat×Bool)} {m:Nat} {p:Sts}
theorem ee {x k:Operand} (h:StM w m p) (i:Nat) (hi:i<4294967296) (hx:a.eval x=.map (some m)) (hk:a.eval k=idxV i) :
  (execOp a.eval {dst:=dst,op:=.lookup 104 x k true,type:=typ,pos:=pos,after:=aft,guard:=gd}).run Tryz.prog w=.ok (.value (.tuple #[stV ((p i).getD 0),.bool (p i).isSome])) w:=by
 unfold execOp
 simp only [hx,hk,h.look i hi,Sem.run_bind,Sem.run_pure,Result.andThen_ok]
theorem jV {x k:Operand} (h:StM w m p) (i:Nat) (hi:i<4294967296) (hx:a.eval x=.map (some m)) (hk:a.eval k=idxV i) :
  (execOp a.eval {dst:=dst,op:=.lookup 104 x k false,type:=typ,pos:=pos,after:=aft,guard:=gd}).run Tryz.prog w=.ok (.value (stV ((p i).getD 0))) w:=by
 unfold execOp
 simp only [hx,hk,h.look1 i hi,Sem.run_bind,Sem.run_pure,Result.andThen_ok]
theorem exec_nillook {x k:Operand} (i:Nat) (hi:i<4294967296) (hx:a.eval x=.map none) (hk:a.eval k=idxV i) :
  (execOp a.eval {dst:=dst,op:=.lookup 104 x k true,type:=typ,pos:=pos,after:=aft,guard:=gd}).run Tryz.prog w=.ok (.value (.tuple #[stV 0,.bool false])) w:=by
 obtain ⟨kl,hkl⟩:=IsK.ex i hi
 have:=Maps.look_nil (w:=w) true de du (jD w) hkl.2
 unfold execOp
 simp [hx,hk,this,Result.andThen]
theorem iG {x k y:Operand} (h:StM w m p) (i:Nat) (hi:i<400) (s:Nat) (hx:a.eval x=.map (some m)) (hk:a.eval k=idxV i) (hy:a.eval y=stV s)
  (hh:∀w',StM w' m (upf p i (some s))→Upd m w w'→wpList Tryz.prog ops Q rest a w') :
  wpList Tryz.prog ops Q ({dst:=none,op:=.mapUpdate 104 x k y,type:=typ,pos:=pos,after:=aft,guard:=none}::rest) a w:=by
 obtain ⟨w',hr,hs,hu⟩:=h.putRun i hi s
 refine wpList_plain rfl fun K hK=>?_
 have h9:=hK _ _ (hh w' hs hu)
 unfold Oper.wp execOp
 simp only [hx,hk,hy,hr,Sem.run_bind,Sem.run_pure,Result.andThen_ok]
 exact h9
end
open Go Go.RowKit Go.Maps
structure Pg where
 kP:List Int
 kS:List Int
 kN:List Int
 gn:Gn
 root:Int
 mt:ByteArray
 last:Sts
 used:Sts
 off:Bool
def hdP (g:Nat) (kP kS kN:List Int):List Value:=.pointer (some ⟨g,0,none⟩)::(u8s kP++(u8s kS++u8s kN))
def tlP (gn:Gn) (root:Int) (mt:ByteArray) (ml mu:Option Nat) (off:Bool):List Value:=[.int .u64 (gn.first:Int),.int .u64 (gn.next:Int),.int .u64 (gn.limit:Int),.int .u32 root,.string mt,.map ml,.map mu,.bool off]
theorem mP (g:Nat) {kP kS kN:List Int} (h1:kP.length=32) (h2:kS.length=32) (h3:kN.length=32):(hdP g kP kS kN).length=97:=by
 simp [hdP,ab,h1,h2,h3]
theorem tl_get {h t:List Value} (hl:h.length=97) (j:Nat):(h++t)[97+j]?=t[j]?:=by
 rw [List.getElem?_append_right (by omega),hl,Nat.add_sub_cancel_left]
theorem tl_set {h t:List Value} (hl:h.length=97) (j:Nat) (v:Value):(h++t).set (97+j) v=h++t.set j v:=by
 rw [List.set_append_right _ _ (by omega),hl,Nat.add_sub_cancel_left]
theorem hd_page (g:Nat) {kP kS kN:List Int} (t:List Value) (h1:kP.length=32):((hdP g kP kS kN++t).drop 1).take 32=u8s kP:=by
 have:(u8s kP).length=32:=by rw [ab,h1]
 show ((u8s kP++(u8s kS++u8s kN))++t).take 32=_
 rw [List.append_assoc,←this,List.take_left]
theorem hd_keys (g:Nat) {kP kS kN:List Int} (t:List Value) (h1:kP.length=32) (h2:kS.length=32) (h3:kN.length=32):((hdP g kP kS kN++t).drop 1).take 96=u8s (kP++(kS++kN)):=by
 have:(u8s (kP++(kS++kN))).length=96:=by rw [ab];simp [h1,h2,h3]
 have e:u8s kP++(u8s kS++u8s kN)=u8s (kP++(kS++kN)):=by simp [u8s]
 show ((u8s kP++(u8s kS++u8s kN))++t).take 96=_
 rw [e,←this,List.take_left]
structure Pg.Ok (P:Pg):Prop where
 kP:P.kP.length=32∧Bytes P.kP
 kS:P.kS.length=32∧Bytes P.kS
 kN:P.kN.length=32∧Bytes P.kN
def footP (gp g mb:Nat) (kv:Value) (ml mu:Nat):List Nat:=gp::ml::mu::foot g mb kv
structure PgAt (w:World) (gp g mb:Nat) (kv:Value) (ml mu:Nat) (P:Pg) (d:Dk):Prop where
 ok:P.Ok
 row:Row w gp (hdP g P.kP P.kS P.kN++tlP P.gn P.root P.mt (some ml) (some mu) P.off) 113
 dk:DkAt w g mb kv d
 last:StM w ml P.last
 used:StM w mu P.used
 ne:ml≠mu∧ml≠mb∧mu≠mb
section
variable {w w':World} {gp g mb ml mu:Nat} {kv:Value} {P P':Pg} {d d':Dk}
theorem PgAt.lt (h:PgAt w gp g mb kv ml mu P d):∀k∈footP gp g mb kv ml mu,k<w.heap.size:=by
 intro k hk
 simp only [footP,List.mem_cons] at hk
 rcases hk with rfl|rfl|rfl|hk
 ·exact h.row.lt
 ·exact h.last.lt
 ·exact h.used.lt
 ·exact h.dk.lt k hk
theorem PgAt.keep (h:PgAt w gp g mb kv ml mu P d) (hk:∀k∈footP gp g mb kv ml mu,w'.heap[k]?=w.heap[k]?):PgAt w' gp g mb kv ml mu P d:=by
 refine ⟨h.ok,?_,h.dk.keep (fun k hh=>hk k (by simp [footP,hh])),h.last.keep (hk _ (by simp [footP])),h.used.keep (hk _ (by simp [footP])),h.ne⟩
 unfold Row
 rw [hk gp (by simp [footP])]
 exact h.row
theorem PgAt.below (h:PgAt w gp g mb kv ml mu P d) (hb:Below w.heap.size w w'):PgAt w' gp g mb kv ml mu P d:=h.keep (fun k hk=>hb.block k (h.lt k hk))
theorem PgAt.drew (h:PgAt w gp g mb kv ml mu P d):PgAt w.drew gp g mb kv ml mu P d:=⟨h.ok,h.row,h.dk.drew,h.last,h.used,h.ne⟩
theorem PgAt.mem {w0:World} {rows:List (Nat×List Value×TypeId)} (h:PgAt w0 gp g mb kv ml mu P d) (hm:Mem w0 [] w rows):PgAt w gp g mb kv ml mu P d:=h.below hm.below
theorem PgAt.hlen (h:PgAt w gp g mb kv ml mu P d):(hdP g P.kP P.kS P.kN).length=97:=mP g h.ok.kP.1 h.ok.kS.1 h.ok.kN.1
theorem PgAt.cell (h:PgAt w gp g mb kv ml mu P d) (j:Nat):w.cell? ⟨gp,97+j,none⟩=(tlP P.gn P.root P.mt (some ml) (some mu) P.off)[j]?:=by
 rw [h.row.cell,tl_get h.hlen]
theorem PgAt.cell0 (h:PgAt w gp g mb kv ml mu P d):w.cell? ⟨gp,0,none⟩=some (.pointer (some ⟨g,0,none⟩)):=by
 rw [h.row.cell];rfl
/-- Where the pager's own blocks lie apart from the disk's. -/
theorem PgAt.apart (h:PgAt w gp g mb kv ml mu P d):gp ∉ foot g mb kv∧ml ∉ foot g mb kv∧mu ∉ foot g mb kv∧gp≠ml∧gp≠mu:=by
 obtain ⟨es,c,hml⟩:=h.last.isMap
 obtain ⟨es',c',hmu⟩:=h.used.isMap
 obtain ⟨es2,c2,hmb⟩:=h.dk.isMap
 have hk:∀k∈kbOf kv,k≠gp∧k≠ml∧k≠mu:=by
  intro k hk
  obtain ⟨p,cap,rfl,hc,h2⟩:=h.dk.kept.ex
  rcases Nat.eq_zero_or_pos d.n with hn|hn
  ·rw [hn] at hk;cases p<;>simp [kbOf] at hk
  ·obtain ⟨kb,tl,rfl,hr⟩:=h2 hn
   have:k=kb:=by simp [kbOf] at hk;exact hk.2
   subst this
   refine ⟨?_,ax hr hml,ax hr hmu⟩
   rintro rfl
   have h3:=h.row
   unfold Row at h3 hr
   rw [h3] at hr
   simp only [Option.some.injEq,Obj.cells.injEq] at hr
   exact absurd hr.2.1 (by decide)
 have hg:gp≠g:=by
  rintro rfl
  have h3:=h.row
  have hr:=h.dk.row
  unfold Row at h3 hr
  rw [h3] at hr
  simp only [Option.some.injEq,Obj.cells.injEq] at hr
  exact absurd hr.2.1 (by decide)
 have hgm:=ax h.row hmb
 have h1:=ax h.dk.row hml
 have h2:=ax h.dk.row hmu
 refine ⟨?_,?_,?_,ax h.row hml,ax h.row hmu⟩
 ·intro hh
  simp only [foot,List.mem_cons] at hh
  rcases hh with e|e|e
  ·exact hg e
  ·exact hgm e
  ·exact (hk gp e).1 rfl
 ·intro hh
  simp only [foot,List.mem_cons] at hh
  rcases hh with e|e|e
  ·exact h1 e.symm
  ·exact h.ne.2.1 e
  ·exact (hk ml e).2.1 rfl
 ·intro hh
  simp only [foot,List.mem_cons] at hh
  rcases hh with e|e|e
  ·exact h2 e.symm
  ·exact h.ne.2.2 e
  ·exact (hk mu e).2.2 rfl
/-- Its map of used pages turned. -/
theorem PgAt.setUsed (h:PgAt w gp g mb kv ml mu P d) {p:Sts} (hs:StM w' mu p) (hu:Upd mu w w'):PgAt w' gp g mb kv ml mu {P with used:=p} d:=by
 have ha:=h.apart
 refine ⟨⟨h.ok.kP,h.ok.kS,h.ok.kN⟩,hu.row h.row ha.2.2.2.2,h.dk.keep (fun k hk=>hu.block k (h.dk.lt k hk) (fun e=>ha.2.2.1 (e▸hk))),h.last.upd hu (fun e=>h.ne.1 e.symm),hs,h.ne⟩
/-- Its disk turned. -/
theorem PgAt.setDisk (h:PgAt w gp g mb kv ml mu P d) (hd:DkAt w' g mb kv d') (hu:UpdS (foot g mb kv) w w'):PgAt w' gp g mb kv ml mu P d':=by
 have ha:=h.apart
 exact ⟨h.ok,hu.row h.row ha.1,hd,h.last.updS hu ha.2.1,h.used.updS hu ha.2.2.1,h.ne⟩
/-- A field of its own turned. -/
theorem PgAt.setRow (h:PgAt w gp g mb kv ml mu P d) (hu:Upd gp w w') (ho:P'.Ok) (hr:Row w' gp (hdP g P'.kP P'.kS P'.kN++tlP P'.gn P'.root P'.mt (some ml) (some mu) P'.off) 113) (h1:P'.last=P.last) (h2:P'.used=P.used):PgAt w' gp g mb kv ml mu P' d:=by
 have ha:=h.apart
 refine ⟨ho,hr,h.dk.keep (fun k hk=>hu.block k (h.dk.lt k hk) (fun e=>ha.1 (e▸hk))),?_,?_,h.ne⟩
 ·rw [h1];exact h.last.upd hu ha.2.2.2.1
 ·rw [h2];exact h.used.upd hu ha.2.2.2.2
end
theorem sz_smap:(Tryz.prog.info? 104).map (·.size)=some 1:=by kernel_rfl
theorem cZ:∀w,(isAgg 104).run Tryz.prog w=.ok false w:=by intro w;simp [go_sem]
theorem kG:∀w,(isAgg 69).run Tryz.prog w=.ok false w:=by intro w;simp [go_sem]
open Go Go.RowKit Go.Maps
theorem fQ {P:Program} {a:Act} {w:World} {dst:Option Tmp} {typ:TypeId} {pos:String} {aft:Array Edge} {gd:Option (Nat×Bool)} {t:TypeId} {xs:Array (Nat×Operand)} (l:List Value) (vs:List (Nat×Value)) (hv:(xs.map fun q=>(q.1,a.eval q.2)).toList=vs) (hb:P.built t vs=some l.toArray) :
  (execOp a.eval {dst:=dst,op:=.build t xs,type:=typ,pos:=pos,after:=aft,guard:=gd}).run P w=.ok (.value (.agg l.toArray)) w:=by
 have e:(xs.map fun (i,x)=>(i,a.eval x)).toList=vs:=hv
 unfold execOp
 simp only [Sem.run_bind,run_build w t _ l.toArray (by rw [e];exact hb),Result.andThen_ok,Sem.run_pure]
def stC (s:Nat):List Value:=[.int .u64 (s:Int)]
theorem d4 (s:Nat):∀v∈stC s,v.oneCell'=true:=by
 intro v hv
 simp only [stC,List.mem_cons,List.not_mem_nil,or_false] at hv
 subst hv
 rfl
theorem built_sta:Tryz.prog.built 162 []=some (stC 0).toArray:=by kernel_rfl
theorem cC:∀w,(zeroValue 162).run Tryz.prog w=.ok (.agg (stC 0).toArray) w:=jD
theorem aF {a:Act} {w:World} {dst:Option Tmp} {typ:TypeId} {pos:String} {aft:Array Edge} {gd:Option (Nat×Bool)} {ty:TypeId} {x:Operand} {b j:Nat} (v:Value) (hc:w.cell? ⟨b,j,none⟩=some v) (hx:a.eval x=.pointer (some ⟨b,j,none⟩)) (ha:∀w,(isAgg ty).run Tryz.prog w=.ok false w) :
  (execOp a.eval {dst:=dst,op:=.load ty x,type:=typ,pos:=pos,after:=aft,guard:=gd}).run Tryz.prog w=.ok (.value v) w:=by
 have hl:(Instr.loadAt ty (.pointer (some ⟨b,j,none⟩))).run Tryz.prog w=.ok v w:=by
  simp [Instr.loadAt,Instr.sureAddr,loadVar,ha,hc]
 unfold execOp
 simp only [hx,hl,Sem.run_bind,Sem.run_pure,Result.andThen_ok]
theorem plen_any (gp g mb:Nat) (kv:Value) (ml mu:Nat) (P:Pg) (d:Dk) (pg:Nat) (hn:d.n=32+8 * pg) (hpg:pg≤400) (w:World) (hp:PgAt w gp g mb kv ml mu P d) :
  Calls Tryz.prog 40 #[.pointer (some ⟨gp,0,none⟩)] w fun e w'=>e=.returned (.int .i64 (pg:Int))∧w'=w:=by
 have hc:=hp.cell0
 have HP:Hid _:=hp
 clear hp
 go_enter Tryz.func40,Tryz.ntmps40
 go_wp2_with (go_at_call 42;refine (iq g mb kv d pg hn hpg _ (PgAt.dk HP.out)).mono ?_;rintro e w1 ⟨rfl,rfl⟩)
 go_ret
 exact ⟨rfl,rfl⟩
theorem taken_any (gp g mb:Nat) (kv:Value) (ml mu:Nat) (P:Pg) (d:Dk) (i:Nat) (hi:i<4294967296) (w:World) (hp:PgAt w gp g mb kv ml mu P d) :
  Calls Tryz.prog 173 #[.pointer (some ⟨gp,0,none⟩),idxV i] w fun e w'=>e=.returned (.bool ((P.used i).isSome||(P.last i).isSome))∧Below w.heap.size w w':=by
 have HP:Hid _:=hp
 have HI:Hid _:=hi
 have hm:=Mem.start w
 obtain ⟨b1,hb1⟩:∃b,b=(P.used i).isSome:=⟨_,rfl⟩
 obtain ⟨b2,hb2⟩:∃b,b=(P.last i).isSome:=⟨_,rfl⟩
 have HB1:Hid ((P.used i).isSome=b1):=hb1.symm
 have HB2:Hid ((P.last i).isSome=b2):=hb2.symm
 rw [←hb1,←hb2]
 clear hp hb1 hb2
 go_enter Tryz.func173,Tryz.ntmps173
 go_wp2_with (first
  | ((with_reducible refine aa (some 3) (.box 115 (.tmp 1)) ?_);refine ak (u8s (four (i:Int))) rfl hm ?_;clear hm;intro w1 gi hm))
 refine au ?_
 refine ap (T:=fun W=>Mem w [] W [(gi,u8s (four (i:Int)),115)]) (by kernel_rfl) hm ?_
 clear hm
 intro wa hm
 refine aT 0 (v:=.pointer (some ⟨gp,0,none⟩)) rfl (by kernel_rfl) rfl (fun W _=>by go_simp) hm ?_
 go_simp
 refine aT 1 (v:=.pointer (some ⟨gp,0,none⟩)) rfl (by kernel_rfl) rfl (fun W _=>by go_simp) hm ?_
 go_simp
 refine aT 2 (v:=.pointer (some ⟨gp,103,none⟩)) rfl (by kernel_rfl) rfl (fun W _=>by go_simp) hm ?_
 go_simp
 refine aT 3 (v:=.map (some mu)) rfl (by kernel_rfl) rfl (fun W hW=>aF (.map (some mu)) ((PgAt.cell (PgAt.mem HP.out hW) 6).trans rfl) rfl cZ) hm ?_
 go_simp
 refine aT 4 (v:=idxV i) rfl (by kernel_rfl) rfl (fun W hW=>ao 0 (u8s (four (i:Int))) (Mem.get hW 0 rfl) rfl _ cV rfl 4 cF (by rw [ab];exact Nat.le_refl _) rfl) hm ?_
 go_simp
 refine aT 5 (v:=.tuple #[stV (((P.used) i).getD 0),.bool ((P.used) i).isSome]) rfl (by kernel_rfl) rfl (fun W hW=>ee (PgAt.used (PgAt.mem HP.out hW)) i HI.out rfl rfl) hm ?_
 go_simp
 refine aT 6 (v:=.tuple #[stV (((P.used) i).getD 0),.bool ((P.used) i).isSome]) rfl (by kernel_rfl) rfl (fun W _=>by go_simp) hm ?_
 go_simp
 refine aT 7 (v:=stV (((P.used) i).getD 0)) rfl (by kernel_rfl) rfl (fun W _=>by go_simp) hm ?_
 go_simp
 refine aT 8 (v:=.bool ((P.used) i).isSome) rfl (by kernel_rfl) rfl (fun W _=>by go_simp) hm ?_
 go_simp
 refine aO 9 (by kernel_rfl) rfl rfl ?_
 intro K hK
 refine af _ cC hm ?_
 clear hm
 intro waa wag hm
 refine wpList_nil ?_
 refine hK _ _ hm.tail ?_
 clear hK K
 refine aO 10 (by kernel_rfl) rfl rfl ?_
 intro K hK
 refine ag 0 (stC (((P.used) i).getD 0)) hm rfl rfl rfl 1 dx rfl rfl (d4 _) ?_
 clear hm
 intro wab hm
 refine wpList_nil ?_
 refine hK _ _ hm.tail ?_
 clear hK K
 refine aT 11 (v:=.bool (P.used i).isSome) rfl (by kernel_rfl) rfl (fun W _=>by go_simp) hm.tail ?_
 go_simp
 refine wpAnyH_done (by kernel_rfl) ?_ _
 simp only [endsIn]
 replace hm:=hm.tail
 rw [HB1.out]
 go_wp2_with fail
 refine au ?_
 refine ap (T:=fun W=>Mem w [] W [(gi,u8s (four (i:Int)),115)]) (by kernel_rfl) hm ?_
 clear hm
 intro wb hm
 refine aT 0 (v:=.pointer (some ⟨gp,0,none⟩)) rfl (by kernel_rfl) rfl (fun W _=>by go_simp) hm ?_
 go_simp
 refine aT 1 (v:=.pointer (some ⟨gp,0,none⟩)) rfl (by kernel_rfl) rfl (fun W _=>by go_simp) hm ?_
 go_simp
 refine aT 2 (v:=.pointer (some ⟨gp,100,none⟩)) rfl (by kernel_rfl) rfl (fun W _=>by go_simp) hm ?_
 go_simp
 refine aT 3 (v:=.pointer (some ⟨gp,102,none⟩)) rfl (by kernel_rfl) rfl (fun W _=>by go_simp) hm ?_
 go_simp
 refine aT 4 (v:=.map (some ml)) rfl (by kernel_rfl) rfl (fun W hW=>aF (.map (some ml)) ((PgAt.cell (PgAt.mem HP.out hW) 5).trans rfl) rfl cZ) hm ?_
 go_simp
 refine aT 5 (v:=idxV i) rfl (by kernel_rfl) rfl (fun W hW=>ao 0 (u8s (four (i:Int))) (Mem.get hW 0 rfl) rfl _ cV rfl 4 cF (by rw [ab];exact Nat.le_refl _) rfl) hm ?_
 go_simp
 refine aT 6 (v:=.tuple #[stV (((P.last) i).getD 0),.bool ((P.last) i).isSome]) rfl (by kernel_rfl) rfl (fun W hW=>ee (PgAt.last (PgAt.mem HP.out hW)) i HI.out rfl rfl) hm ?_
 go_simp
 refine aT 7 (v:=.tuple #[stV (((P.last) i).getD 0),.bool ((P.last) i).isSome]) rfl (by kernel_rfl) rfl (fun W _=>by go_simp) hm ?_
 go_simp
 refine aT 8 (v:=stV (((P.last) i).getD 0)) rfl (by kernel_rfl) rfl (fun W _=>by go_simp) hm ?_
 go_simp
 refine aT 9 (v:=.bool ((P.last) i).isSome) rfl (by kernel_rfl) rfl (fun W _=>by go_simp) hm ?_
 go_simp
 refine aO 10 (by kernel_rfl) rfl rfl ?_
 intro K hK
 refine af _ cC hm ?_
 clear hm
 intro wba wbg hm
 refine wpList_nil ?_
 refine hK _ _ hm.tail ?_
 clear hK K
 refine aO 11 (by kernel_rfl) rfl rfl ?_
 intro K hK
 refine ag 0 (stC (((P.last) i).getD 0)) hm rfl rfl rfl 1 dx rfl rfl (d4 _) ?_
 clear hm
 intro wbb hm
 refine wpList_nil ?_
 refine hK _ _ hm.tail ?_
 clear hK K
 refine aT 12 (v:=.bool (P.last i).isSome) rfl (by kernel_rfl) rfl (fun W _=>by go_simp) hm.tail ?_
 go_simp
 refine wpAnyH_done (by kernel_rfl) ?_ _
 simp only [endsIn]
 rw [HB2.out]
 cases b1<;>cases b2<;>(go_wp2_with fail;go_ret;exact ⟨rfl,hm.below⟩)
theorem fresh_any (gp g mb:Nat) (kv:Value) (ml mu:Nat) (P:Pg) (d:Dk) (i:Nat) (hi:i<4294967296) (w:World) (hp:PgAt w gp g mb kv ml mu P d) :
  Calls Tryz.prog 41 #[.pointer (some ⟨gp,0,none⟩),idxV i] w fun e w'=>e=.returned (.bool ((P.used i).isSome && !(P.last i).isSome))∧Below w.heap.size w w':=by
 have HP:Hid _:=hp
 have HI:Hid _:=hi
 have hm:=Mem.start w
 obtain ⟨b1,hb1⟩:∃b,b=(P.used i).isSome:=⟨_,rfl⟩
 obtain ⟨b2,hb2⟩:∃b,b=(P.last i).isSome:=⟨_,rfl⟩
 have HB1:Hid ((P.used i).isSome=b1):=hb1.symm
 have HB2:Hid ((P.last i).isSome=b2):=hb2.symm
 rw [←hb1,←hb2]
 clear hp hb1 hb2
 go_enter Tryz.func41,Tryz.ntmps41
 go_wp2_with (first
  | ((with_reducible refine aa (some 3) (.box 115 (.tmp 1)) ?_);refine ak (u8s (four (i:Int))) rfl hm ?_;clear hm;intro w1 gi hm))
 refine au ?_
 refine ap (T:=fun W=>Mem w [] W [(gi,u8s (four (i:Int)),115)]) (by kernel_rfl) hm ?_
 clear hm
 intro wa hm
 refine aT 0 (v:=.pointer (some ⟨gp,0,none⟩)) rfl (by kernel_rfl) rfl (fun W _=>by go_simp) hm ?_
 go_simp
 refine aT 1 (v:=.pointer (some ⟨gp,0,none⟩)) rfl (by kernel_rfl) rfl (fun W _=>by go_simp) hm ?_
 go_simp
 refine aT 2 (v:=.pointer (some ⟨gp,103,none⟩)) rfl (by kernel_rfl) rfl (fun W _=>by go_simp) hm ?_
 go_simp
 refine aT 3 (v:=.map (some mu)) rfl (by kernel_rfl) rfl (fun W hW=>aF (.map (some mu)) ((PgAt.cell (PgAt.mem HP.out hW) 6).trans rfl) rfl cZ) hm ?_
 go_simp
 refine aT 4 (v:=idxV i) rfl (by kernel_rfl) rfl (fun W hW=>ao 0 (u8s (four (i:Int))) (Mem.get hW 0 rfl) rfl _ cV rfl 4 cF (by rw [ab];exact Nat.le_refl _) rfl) hm ?_
 go_simp
 refine aT 5 (v:=.tuple #[stV (((P.used) i).getD 0),.bool ((P.used) i).isSome]) rfl (by kernel_rfl) rfl (fun W hW=>ee (PgAt.used (PgAt.mem HP.out hW)) i HI.out rfl rfl) hm ?_
 go_simp
 refine aT 6 (v:=.tuple #[stV (((P.used) i).getD 0),.bool ((P.used) i).isSome]) rfl (by kernel_rfl) rfl (fun W _=>by go_simp) hm ?_
 go_simp
 refine aT 7 (v:=stV (((P.used) i).getD 0)) rfl (by kernel_rfl) rfl (fun W _=>by go_simp) hm ?_
 go_simp
 refine aT 8 (v:=.bool ((P.used) i).isSome) rfl (by kernel_rfl) rfl (fun W _=>by go_simp) hm ?_
 go_simp
 refine aO 9 (by kernel_rfl) rfl rfl ?_
 intro K hK
 refine af _ cC hm ?_
 clear hm
 intro waa wag hm
 refine wpList_nil ?_
 refine hK _ _ hm.tail ?_
 clear hK K
 refine aO 10 (by kernel_rfl) rfl rfl ?_
 intro K hK
 refine ag 0 (stC (((P.used) i).getD 0)) hm rfl rfl rfl 1 dx rfl rfl (d4 _) ?_
 clear hm
 intro wab hm
 refine wpList_nil ?_
 refine hK _ _ hm.tail ?_
 clear hK K
 refine aT 11 (v:=.bool (P.used i).isSome) rfl (by kernel_rfl) rfl (fun W _=>by go_simp) hm.tail ?_
 go_simp
 refine wpAnyH_done (by kernel_rfl) ?_ _
 simp only [endsIn]
 replace hm:=hm.tail
 rw [HB1.out]
 go_wp2_with fail
 refine au ?_
 refine ap (T:=fun W=>Mem w [] W [(gi,u8s (four (i:Int)),115)]) (by kernel_rfl) hm ?_
 clear hm
 intro wb hm
 refine aT 0 (v:=.pointer (some ⟨gp,0,none⟩)) rfl (by kernel_rfl) rfl (fun W _=>by go_simp) hm ?_
 go_simp
 refine aT 1 (v:=.pointer (some ⟨gp,0,none⟩)) rfl (by kernel_rfl) rfl (fun W _=>by go_simp) hm ?_
 go_simp
 refine aT 2 (v:=.pointer (some ⟨gp,100,none⟩)) rfl (by kernel_rfl) rfl (fun W _=>by go_simp) hm ?_
 go_simp
 refine aT 3 (v:=.pointer (some ⟨gp,102,none⟩)) rfl (by kernel_rfl) rfl (fun W _=>by go_simp) hm ?_
 go_simp
 refine aT 4 (v:=.map (some ml)) rfl (by kernel_rfl) rfl (fun W hW=>aF (.map (some ml)) ((PgAt.cell (PgAt.mem HP.out hW) 5).trans rfl) rfl cZ) hm ?_
 go_simp
 refine aT 5 (v:=idxV i) rfl (by kernel_rfl) rfl (fun W hW=>ao 0 (u8s (four (i:Int))) (Mem.get hW 0 rfl) rfl _ cV rfl 4 cF (by rw [ab];exact Nat.le_refl _) rfl) hm ?_
 go_simp
 refine aT 6 (v:=.tuple #[stV (((P.last) i).getD 0),.bool ((P.last) i).isSome]) rfl (by kernel_rfl) rfl (fun W hW=>ee (PgAt.last (PgAt.mem HP.out hW)) i HI.out rfl rfl) hm ?_
 go_simp
 refine aT 7 (v:=.tuple #[stV (((P.last) i).getD 0),.bool ((P.last) i).isSome]) rfl (by kernel_rfl) rfl (fun W _=>by go_simp) hm ?_
 go_simp
 refine aT 8 (v:=stV (((P.last) i).getD 0)) rfl (by kernel_rfl) rfl (fun W _=>by go_simp) hm ?_
 go_simp
 refine aT 9 (v:=.bool ((P.last) i).isSome) rfl (by kernel_rfl) rfl (fun W _=>by go_simp) hm ?_
 go_simp
 refine aO 10 (by kernel_rfl) rfl rfl ?_
 intro K hK
 refine af _ cC hm ?_
 clear hm
 intro wba wbg hm
 refine wpList_nil ?_
 refine hK _ _ hm.tail ?_
 clear hK K
 refine aO 11 (by kernel_rfl) rfl rfl ?_
 intro K hK
 refine ag 0 (stC (((P.last) i).getD 0)) hm rfl rfl rfl 1 dx rfl rfl (d4 _) ?_
 clear hm
 intro wbb hm
 refine wpList_nil ?_
 refine hK _ _ hm.tail ?_
 clear hK K
 refine aT 12 (v:=.bool (P.last i).isSome) rfl (by kernel_rfl) rfl (fun W _=>by go_simp) hm.tail ?_
 go_simp
 refine wpAnyH_done (by kernel_rfl) ?_ _
 simp only [endsIn]
 rw [HB2.out]
 cases b1<;>cases b2<;>(go_wp2_with fail;go_ret;exact ⟨rfl,hm.below⟩)
theorem Mem.but {w0 w:World} {S:List Nat} {rows:List (Nat×List Value×TypeId)} (h:Mem w0 [] w rows):Mem w0 S w rows :=
 ⟨h.os,h.tape,h.output,h.size,fun k hk _=>h.block k hk (by simp),h.row,h.nodup,fun r hr=>(h.fresh r hr).elim (fun e=>absurd e (by simp)) Or.inr⟩
theorem alloc_ok (gp g mb:Nat) (kv:Value) (ml mu:Nat) (P:Pg) (d:Dk) (pg:Nat) (hn:d.n=32+8 * pg) (hpg:pg≤400) (hoff:P.off=false) (i:Nat) (hi:i<pg) (hfree:((P.used i).isSome||(P.last i).isSome)=false) (hlow:∀j,j<i→((P.used j).isSome||(P.last j).isSome)=true) (w:World) (hp:PgAt w gp g mb kv ml mu P d) :
  Calls Tryz.prog 127 #[.pointer (some ⟨gp,0,none⟩)] w fun e w'=>e=.returned (.tuple #[.int .u32 (i:Int),.int .i64 0])∧PgAt w' gp g mb kv ml mu {P with used:=upf P.used i (some 0)} d∧UpdS (footP gp g mb kv ml mu) w w':=by
 have HP:Hid _:=hp
 have hc:w.cell? ⟨gp,97+7,none⟩=some (.bool false):=by rw [hp.cell 7,←hoff];rfl
 have HGM:Hid (gp≠mu):=(PgAt.apart hp).2.2.2.2
 have HF:Hid _:=hfree
 have HL:Hid _:=hlow
 have hm:=Mem.start w
 clear hp hfree hlow
 go_enter Tryz.func127,Tryz.ntmps127
 go_wp2_with (first
  | (go_at_call 40;refine (plen_any gp g mb kv ml mu P d pg hn hpg _ HP.out).mono ?_;rintro e w1 ⟨rfl,rfl⟩))
 go_loopw [13] (fun vi wr=>∃k:Nat,k≤i∧vi=.int .u32 (k:Int)∧Mem w1 [] wr []) (fun vi _=>pg - (RowKit.intOf vi).toNat)
 case atStart=>exact ⟨0,by omega,rfl,hm⟩
 case round =>
  clear hm hc
  obtain ⟨k,hk,rfl,hm⟩:=hrel
  have hkp:(k:Int)<(pg:Int):=by omega
  by_cases hlt:k<i
  ·have HT:Hid _:=HL.out k hlt
   go_wp2_with (first
    | (go_at_call 132;refine (cg (k:Int) _).mono ?_;rintro e w2 ⟨rfl,hb⟩;replace hm:=hm.call hb;clear hb)
    | ((with_reducible refine aa (some 5) (.alloc 115) ?_);refine af _ eG hm ?_;clear hm;intro w3 gi hm)
    | ((with_reducible refine aa none (.store 115 (.tmp 5) (.tmp 17)) ?_);refine ag 0 (u8s (four (k:Int))) hm rfl rfl rfl 4 cF (by simp [ab]) (rfl) (ar _) ?_;clear hm;intro w4 hm)
    | ((with_reducible refine aa (some 19) (.load 115 (.tmp 5)) ?_);refine am 0 hm rfl rfl _ cV rfl 4 cF (rfl) ?_)
    | (go_at_call 173;refine (taken_any gp g mb kv ml mu P d k (by omega) _ (PgAt.mem HP.out hm)).mono ?_;rintro e w5 ⟨he,hb⟩;rw [HT.out] at he;subst he;replace hm:=hm.call hb;clear hb))
   go_roundw
   case rel=>exact ⟨k+1,by omega,by go_num,hm.tail⟩
   case measure=>simp [RowKit.intOf];omega
  ·obtain rfl:k=i:=by omega
   go_wp2_with (first
    | (go_at_call 132;refine (cg (k:Int) _).mono ?_;rintro e w2 ⟨rfl,hb⟩;replace hm:=hm.call hb;clear hb)
    | ((with_reducible refine aa (some 5) (.alloc 115) ?_);refine af _ eG hm ?_;clear hm;intro w3 gi hm)
    | ((with_reducible refine aa none (.store 115 (.tmp 5) (.tmp 17)) ?_);refine ag 0 (u8s (four (k:Int))) hm rfl rfl rfl 4 cF (by simp [ab]) (rfl) (ar _) ?_;clear hm;intro w4 hm)
    | ((with_reducible refine aa (some 19) (.load 115 (.tmp 5)) ?_);refine am 0 hm rfl rfl _ cV rfl 4 cF (rfl) ?_)
    | (go_at_call 173;refine (taken_any gp g mb kv ml mu P d k (by omega) _ (PgAt.mem HP.out hm)).mono ?_;rintro e w5 ⟨he,hb⟩;rw [HF.out] at he;subst he;replace hm:=hm.call hb;clear hb))
   replace hm:Mem w1 [] w5 [(gi,u8s (four (k:Int)),115)]:=hm
   have HROW:Hid (∀W,Mem w1 [mu] W [(gi,u8s (four (k:Int)),115)]→Row W gp (hdP g P.kP P.kS P.kN++tlP P.gn P.root P.mt (some ml) (some mu) P.off) 113):=fun W hW=>by
    unfold Row
    rw [hW.block gp HP.out.row.lt (by simpa using HGM.out)]
    exact HP.out.row
   refine au ?_
   refine ap (T:=fun W=>Mem w1 [mu] W [(gi,u8s (four (k:Int)),115)]) (by kernel_rfl) hm ?_
   clear hm
   intro wc hm
   refine aT 0 (v:=.pointer (some ⟨gp,0,none⟩)) rfl (by kernel_rfl) rfl (fun W _=>by go_simp) hm.but ?_
   go_simp
   refine aT 1 (v:=.pointer (some ⟨gp,0,none⟩)) rfl (by kernel_rfl) rfl (fun W _=>by go_simp) hm.but ?_
   go_simp
   refine aT 2 (v:=.pointer (some ⟨gp,103,none⟩)) rfl (by kernel_rfl) rfl (fun W _=>by go_simp) hm.but ?_
   go_simp
   refine aT 3 (v:=.map (some mu)) rfl (by kernel_rfl) rfl (fun W hW=>aF (.map (some mu)) (by rw [(HROW.out W hW).cell];exact (tl_get (PgAt.hlen HP.out) 6).trans rfl) rfl cZ) hm.but ?_
   go_simp
   refine aT 4 (v:=idxV k) rfl (by kernel_rfl) rfl (fun W hW=>ao 0 (u8s (four (k:Int))) (Mem.get hW 0 rfl) rfl _ cV rfl 4 cF (by rw [ab];exact Nat.le_refl _) rfl) hm.but ?_
   go_simp
   refine aT 5 (v:=stV 0) rfl (by kernel_rfl) rfl (fun W _=>fQ (stC 0) [] (by simp) built_sta) hm.but ?_
   go_simp
   refine aO 6 (by kernel_rfl) rfl rfl ?_
   intro K hK
   refine iG (PgAt.used (PgAt.mem HP.out hm)) k (by omega) 0 rfl rfl rfl ?_
   intro wd hs hu
   refine wpList_nil ?_
   have HPD:Hid _:=(PgAt.mem HP.out hm).setUsed hs hu
   have HUD:Hid (UpdS (footP gp g mb kv ml mu) w1 wd):=(UpdS.of_below hm.below).trans (UpdS.of_upd hu (by simp [footP]))
   obtain ⟨es,c,hmap⟩:=(PgAt.used (PgAt.mem HP.out hm)).isMap
   replace hm:=(Mem.but (S:=[mu]) hm).updO hmap (Or.inl (by simp)) hu
   clear hs hu hmap
   refine hK _ _ hm ?_
   clear hK K
   refine wpAnyH_done (by kernel_rfl) ?_ _
   simp only [endsIn]
   go_wp2_with fail
   go_ret2
   exact ⟨rfl,HPD.out,HUD.out⟩
open Go Go.RowKit Go.Maps
open Go.Shelf
theorem StM.cloned {w:World} {m:Nat} {p:Sts} (h:StM w m p):∃es c,w.heap[m]?=some (.map es c)∧StM (w.alloc (.map es c)) w.heap.size p:=by
 obtain ⟨q,D,⟨es,c,hb,F,hs,hD⟩,pm⟩:=h
 exact ⟨es,c,hb,q,D,⟨es,c,heap_alloc_new w _,F,hs,hD⟩,pm⟩
theorem cloneS_raw (mb:Nat) (es:Array MapEntry) (clock:Nat) (w:World) (hb:w.heap[mb]?=some (.map es clock)) :
  Calls Tryz.prog 126 #[.map (some mb)] w fun e w'=>e=.returned (.map (some w.heap.size))∧w'=w.alloc (.map es clock):=by
 have hq:=fun w=>run_eql_map_nil_sl (P:=Tryz.prog) w 104 _ _ (some mb) du
 go_enter Tryz.func126,Tryz.ntmps126
 go_wp2_with fail
 rw [run_callFunc_extern Tryz.func172 (by kernel_rfl) (by kernel_rfl) (by kernel_rfl) (e:=Extern.MapsClone.clone) (by kernel_rfl),run_maps_clone_sl w 104 hb]
 simp only [Result.andThen]
 rw [Oper.upon_value]
 go_wp2_with fail
 rw [run_typeAssert_map_sl _ 104 _ _ _ _ du]
 simp only [Result.andThen]
 rw [Oper.upon_value]
 go_wp2_with fail
 go_ret
 exact ⟨rfl,rfl⟩
theorem cloneS (m:Nat) (p:Sts) (w:World) (h:StM w m p) :
  Calls Tryz.prog 126 #[.map (some m)] w fun e w'=>∃m',e=.returned (.map (some m'))∧w.heap.size≤m'∧StM w' m' p∧Below w.heap.size w w':=by
 obtain ⟨es,c,hb,hs⟩:=h.cloned
 refine (cloneS_raw m es c w hb).mono ?_
 rintro e w' ⟨rfl,rfl⟩
 exact ⟨_,rfl,Nat.le_refl _,hs,(Below.refl _ _).alloc (Nat.le_refl _) _⟩
theorem kl_ex:∃kl:Nat→Lit,∀i,i<4294967296→IsK i (kl i):=by
 refine ⟨fun i=>(keyOf Tryz.prog 115 (idxV i)).getD (.bool true),fun i hi=>?_⟩
 obtain ⟨k,hk⟩:=IsK.ex i hi
 refine ⟨hi,?_⟩
 simp [hk.2]
def gone (kl:Nat→Lit) (left:Lit→Bool) (p:Sts):Sts:=fun i=>if left (kl i)=true then none else p i
theorem km {kl:Nat→Lit} {left:Lit→Bool} {p:Sts} {D:DataW Value} {i:Nat} {k:Lit} {s:Nat} (hkl:∀i,i<4294967296→IsK i (kl i)) (pm:SM D p) (hik:IsK i k) (hps:p i=some s):upf (gone kl left p) i (some s)=gone kl (fun z=>left z && !z.sameKey k) p:=by
 have hk9:kl i=k:=(hkl i hik.1).uni hik
 funext j
 show (if j=i then some s else if left (kl j)=true then none else p j)=if (left (kl j) && !(kl j).sameKey k)=true then none else p j
 by_cases hj:j=i
 ·subst hj
  rw [if_pos rfl,hk9,if_neg (by rw [WideAt.sameKey_self hik.lit];simp),hps]
 ·rw [if_neg hj]
  by_cases hjl:j<4294967296
  ·have hne9:kl j≠k:=fun e=>hj ((hkl j hjl).inj (e▸hik))
   rw [sameKey_ne hne9]
   simp
  ·cases hp:p j with
   | none=>simp
   | some t=>exact absurd (pm.dom j t hp) (by omega)
theorem copyS (m1 m2:Nat) (p:Sts) (hne:m1≠m2) (w:World) (h1:StM w m1 (fun _=>none)) (h2:StM w m2 p) :
  Calls Tryz.prog 81 #[.map (some m1),.map (some m2)] w fun e w'=>e=.returned (.tuple #[])∧StM w' m1 p∧UpdS [m1] w w':=by
 obtain ⟨kl,hkl⟩:=kl_ex
 have HKL:Hid (∀i,i<4294967296→IsK i (kl i)):=hkl
 obtain ⟨qn,D,ho,pm⟩:=h2
 have HOW:Hid (w.ownsMap Tryz.prog 115 rdV m2 qn D):=ho
 have HPM:Hid (SM D p):=pm
 have HS1:Hid (StM w m1 (fun _=>none)):=h1
 have HLT1:Hid (m1<w.heap.size):=h1.lt
 clear ho pm h1 hkl
 go_enter Tryz.func81,Tryz.ntmps81
 go_wp2_with (first
  | ((with_reducible refine aa (some 7) (.range 104 (.tmp 6)) ?_);go_must (refine wpList_range_own _ rfl _ _ rfl 115 162 de du rdV m2 qn D rfl HOW.out ?_);intro w2 hrg0 hg0 hs0))
 have hb2:Below w.heap.size w w2:=⟨hg0.os,hg0.tape,hg0.output,hg0.size,fun k hk=>hg0.block k hk (by simp)⟩
 have HST:Hid (StM w2 m1 (gone kl (Maps.has D) p)∧UpdS [m1] w w2):=by
  refine ⟨?_,UpdS.of_below hb2⟩
  have e:gone kl (Maps.has D) p=fun _=>none:=by
   funext i
   unfold gone
   by_cases hi:i<4294967296
   ·rw [HPM.out.has i (kl i) (HKL.out i hi)]
    cases hp:p i<;>simp
   ·split
    ·rfl
    ·cases hp:p i with
     | none=>rfl
     | some s=>exact absurd (HPM.out.dom i s hp) (by omega)
  rw [e]
  exact HS1.out.below hb2
 have HRG:Hid (w2.ranges Tryz.prog 115 rdV m2 w.heap.size qn D (Maps.has D) (Maps.size D)):=hrg0
 clear hrg0 hg0 hs0 hb2 HOW
 go_frame
 go_loopw [8] (fun _ wr=>∃(left:Lit→Bool) (cnt:Nat),wr.ranges Tryz.prog 115 rdV m2 w.heap.size qn D left cnt∧StM wr m1 (gone kl left p)∧UpdS [m1] w wr)
  (fun _ wr=>wr.rangeLeft m2 w.heap.size)
 case atStart=>exact ⟨_,_,HRG.out,HST.out.1,HST.out.2⟩
 case round =>
  obtain ⟨left,cnt,hrg,hdr,hur⟩:=hrel
  have HR:Hid (StM wr m1 (gone kl left p)):=hdr
  have HUR:Hid (UpdS [m1] w wr):=hur
  have HRR:Hid (wr.ranges Tryz.prog 115 rdV m2 w.heap.size qn D left cnt):=hrg
  clear hdr hur HRG HST hrg
  go_wp2_with (first
   | (at_next;refine wpList_next_ranges _ rfl _ rfl 115 de rdV idxV id (fun key kl hk=>by obtain ⟨i,_,hi⟩:=IsK.of hk;exact ⟨i,hi⟩) (fun v _ _=>⟨v,rfl⟩) m2 w.heap.size qn D _ _ rfl HRR.out ?_ ?_)
   | go_in)
  ·intro _ hl0
   have HL0:Hid (∀kl,left kl=false):=hl0
   clear hl0
   go_wp2_with fail
   go_end0
   refine ⟨rfl,?_,HUR.out⟩
   have e:gone kl left p=p:=by
    funext i
    unfold gone
    rw [HL0.out]
    rfl
   rw [←e]
   exact HR.out
  ·intro x c k yd yp w3 cnt3 hkey hlk hv hat hrg3 hlt hg3 hs3 hen
   obtain ⟨i,hik,hxi⟩:=IsK.of hkey
   rw [hxi] at hen ⊢
   clear hxi hkey
   have hhas:Maps.has D k=true:=has_true_of_atKey hat
   rw [HPM.out.has i k hik] at hhas
   obtain ⟨s,hps⟩:=Option.isSome_iff_exists.1 hhas
   have hc:c=stV s:=by
    have h1:=HPM.out.val i k s hik hps (.held c)
    rw [hat] at h1
    have h2:=eZ hv
    rw [h2] at h1
    simpa using h1
   subst hc
   have hi4:=HPM.out.dom i s hps
   have HRG3:Hid (w3.ranges Tryz.prog 115 rdV m2 w.heap.size qn D (fun z=>left z && !z.sameKey k) cnt3):=hrg3
   have HLT:Hid (cnt3<cnt):=hlt
   have HRL:Hid (wr.rangeLeft m2 w.heap.size=cnt):=HRR.out.left_eq
   have HM1:Hid (StM w3 m1 (gone kl left p)):=HR.out.keep (hg3.block m1 HR.out.lt (fun e=>by have:=HLT1.out;simp only [Option.some.injEq] at e;omega))
   have HU3:Hid (UpdS [m1] w w3):=by
    refine ⟨hg3.os.trans HUR.out.os,hg3.tape.trans HUR.out.tape,hg3.output.trans HUR.out.output,Nat.le_trans HUR.out.size hg3.size,fun z hz hn=>?_⟩
    refine (hg3.block z (Nat.lt_of_lt_of_le hz HUR.out.size) (fun e=>?_)).trans (HUR.out.block z hz hn)
    simp only [Option.some.injEq] at e
    omega
   have HGO:Hid (∀_:Unit,upf (gone kl left p) i (some s)=gone kl (fun z=>left z && !z.sameKey k) p):=fun _=>km HKL.out HPM.out hik hps
   have hm:=Mem.start w3
   clear hlk hv hat hg3 hs3 hhas hps HR HUR hrg3 HRR hlt
   go_wp2_with (first
    | ((with_reducible refine aa (some 4) (.alloc 115) ?_);refine af _ eG hm ?_;clear hm;intro w4 ga hm)
    | ((with_reducible refine aa (some 5) (.alloc 162) ?_);refine af _ cC hm ?_;clear hm;intro w5 gb hm)
    | ((with_reducible refine aa none (.store 115 (.tmp 4) (.tmp 11)) ?_);refine ag 1 (u8s (four (i:Int))) hm rfl rfl rfl 4 cF (by simp [ab]) (rfl) (ar _) ?_;clear hm;intro w6 hm)
    | ((with_reducible refine aa none (.store 162 (.tmp 5) (.tmp 12)) ?_);refine ag 0 (stC s) hm rfl rfl rfl 1 dx rfl rfl (d4 _) ?_;clear hm;intro w7 hm)
    | ((with_reducible refine aa (some 14) (.load 115 (.tmp 4)) ?_);refine am 1 hm rfl rfl _ cV rfl 4 cF (rfl) ?_)
    | ((with_reducible refine aa (some 15) (.load 162 (.tmp 5)) ?_);obtain ⟨fs,hfs⟩:=un_sta;go_must (refine am 0 hm rfl rfl _ hfs rfl 1 dx rfl ?_);clear hfs fs)
    | ((with_reducible refine aa none (.mapUpdate 104 (.tmp 13) (.tmp 14) (.tmp 15)) ?_);go_must (refine iG (HM1.out.below hm.below) i hi4 s rfl rfl rfl ?_);intro w8 hs8 hu8;have HS8:Hid _:=hs8;have HU8:Hid _:=hu8;clear hs8 hu8))
   have hrg8:=World.ranges.kept (World.ranges.kept HRG3.out (br hm.below) (by simp) (by simp)) (dF HU8.out) (by intro e;exact hne (Option.some.inj e).symm) (by intro e;have h9:=Option.some.inj e;have:=HLT1.out;omega)
   have HRG8:Hid (w8.ranges Tryz.prog 115 rdV m2 w.heap.size qn D (fun z=>left z && !z.sameKey k) cnt3):=hrg8
   have HRL8:Hid (w8.rangeLeft m2 w.heap.size=cnt3):=hrg8.left_eq
   have HUF:Hid (UpdS [m1] w w8):=(HU3.out.trans (UpdS.of_below hm.below)).trans (UpdS.of_upd HU8.out (by simp))
   clear hrg8
   go_frame
   go_roundw
   case rel=>exact ⟨_,_,HRG8.out,by rw [←HGO.out ()];exact HS8.out,HUF.out⟩
   case measure=>rw [HRL8.out,HRL.out];exact HLT.out
theorem copyS_nil (m1:Nat) (w:World) :
  Calls Tryz.prog 81 #[.map (some m1),.map none] w fun e w'=>e=.returned (.tuple #[])∧Below w.heap.size w w':=by
 have hr:=fun W=>run_range_nilMap (P:=Tryz.prog) W 104 115 162 du
 go_enter Tryz.func81,Tryz.ntmps81
 go_wp2_with fail
 have hnx:=fun ty=>run_next_nilMap (P:=Tryz.prog) w ty 0 0 #[]
 refine wp_loop_rounds 1 ?_
 rw [rounds_succ]
 go_wp2_with fail
 go_end0
 exact ⟨rfl,(Below.refl _ _).alloc (Nat.le_refl _) _⟩
open Go Go.RowKit Go.Maps
def freshS (P:Pg):Sts:=fun i=>if (P.last i).isSome=true then none else P.used i
open Go Go.RowKit Go.Maps
theorem mV {kl:Nat→Lit} {D:DataW Value} {p f:Sts} (hkl:∀i,i<4294967296→IsK i (kl i)) (pm:SM D p) (hf:∀i,(f i).isSome=true→(p i).isSome=true):gone kl (Maps.has D) f=fun _=>none:=by
 funext i
 show (if Maps.has D (kl i)=true then none else f i)=none
 by_cases hi:i<4294967296
 ·rw [pm.has i (kl i) (hkl i hi)]
  split
  ·rfl
  ·rename_i hh
   cases hfi:f i with
   | none=>rfl
   | some s=>exact absurd (hf i (by rw [hfi];rfl)) hh
 ·split
  ·rfl
  ·cases hfi:f i with
   | none=>rfl
   | some s =>
    obtain ⟨t,ht⟩:=Option.isSome_iff_exists.1 (hf i (by rw [hfi];rfl))
    exact absurd (pm.dom i t ht) (by omega)
end Go.Proofs.YtmlbjfklaehjnaaGreatDoor
