import Derived.Maps.RangeWalk
import Derived.Test.YtlpnafdkhoimhaaGreatDoorQr29
set_option maxRecDepth 100000
set_option maxHeartbeats 4000000
namespace Go.Proofs.YtlpnafdkhoimhaaGreatDoor
open Go Go.RowKit Go.Sort Go.Maps
theorem run_bslT {P:Program} (w:World) {t elem:TypeId} (z l:List Value) (hu:P.underlying t=some (.slice elem)) (hi:(P.info? elem).map (fun i=>(i.zero,i.size))=some (some (.agg z.toArray),3)) (hz:z.length=3) (hl:l.length=3) :
  (Instr.buildSlice t 1 #[(0,.agg l.toArray)]).run P w=.ok (.slice (some ⟨w.heap.size,0,none⟩) 1 1) (w.alloc (.cells l.toArray elem)):=by
 obtain ⟨hz1,hs1⟩:=zero_of_info hi
 cases hq:P.info? elem with
 | none=>simp [hq] at hi
 | some qq =>
  have hs:qq.size=3:=by simpa [hq] using hs1
  have e:∀cs:Array Value,cs.size=3→List.foldl (fun (cs:Array Value) (x:Value×Nat)=>cs.setIfInBounds x.2 x.1) cs l.zipIdx=l.toArray:=by
   intro cs hcs
   apply Array.ext_getElem?
   intro i
   rw [fold_set l 0 cs i]
   by_cases h:i<3
   ·rw [if_pos (by omega)];simp
   ·rw [if_neg (by omega),Array.getElem?_eq_none (by omega),Array.getElem?_eq_none (by simp;omega)]
  simp [Instr.buildSlice,run_underlying hu,sizeOf,typeInfo,hq,hs,hz1,Value.cells,Instr.fill,hl,hz,newRow,newObj]
  rw [e _ (by simp)]
  rfl
theorem un_rps:Tryz.prog.underlying 74=some (.slice 76):=Tryz.underlying74
theorem made_rp:(Tryz.prog.info? 76).map (fun i=>(i.zero,i.size,i.bytes))=some (some (.agg (plv []).toArray),3,48):=by kernel_rfl
section
variable {P:Program} {kT:TypeId} {ops:Array Oper} {rest:List Oper} {a:Act} {w w0 w1:World} {Q:Exit→Act→World→Prop} {dst:Option Tmp} {typ:TypeId} {pos:String} {aft:Array Edge} {gd:Option (Nat×Bool)} {S:List Nat} {rows:List (Nat×List Value×TypeId)}
theorem wpl_bslR {x:Operand} (ks:List ByteArray) (hw:Region.wanted {dst:=dst,op:=.buildSlice 74 1 #[(0,x)],type:=typ,pos:=pos,after:=aft,guard:=gd} (yielded ops a.tmps)=true) (hx:a.eval x=.agg (plv ks).toArray) (hm:Mem w0 S w rows)
  (h:∀w' g,Mem w0 S w' ((g,plv ks,76)::rows)→wpList Tryz.prog ops Q rest (a.put dst (.slice (some ⟨g,0,none⟩) 1 1)) w') :
  wpList Tryz.prog ops Q ({dst:=dst,op:=.buildSlice 74 1 #[(0,x)],type:=typ,pos:=pos,after:=aft,guard:=gd}::rest) a w:=by
 refine wpList_step fun K hK=>?_
 rw [if_pos hw]
 have hh:=hK _ _ (h _ _ (hm.alloc (plv ks) 76))
 unfold Oper.wp execOp
 simp only [List.map_toArray,List.map_cons,List.map_nil,hx,run_bslT (P:=Tryz.prog) w _ (plv ks) un_rps info_rp rfl rfl,Sem.run_bind,Sem.run_pure,Result.andThen_ok]
 exact hh
theorem wpl_rangeR {x:Operand} {t e:TypeId} {m q:Nat} {p:Value→Value→Prop} (km:KM P kT w m q p) (K:Keyed P kT) (ht:P.underlying t=some (.map kT e)) (hx:a.eval x=.map (some m))
  (h:∀w' r D,w'.ranges P kT rdV m r q D (Maps.has D) (Maps.size D)→(∀k kl,keyOf P kT k=some kl→(Maps.has D kl=true↔∃v,p k v))→Below w.heap.size w w'→w.heap.size≤r→r<w'.heap.size→wpList P ops Q rest (a.put dst (.pointer (some ⟨r,0,none⟩))) w') :
  wpList P ops Q ({dst:=dst,op:=.range t x,type:=typ,pos:=pos,after:=aft,guard:=none}::rest) a w:=by
 obtain ⟨D,ho,h1,h2⟩:=km
 refine wpList_range_own w rfl x t rfl kT e K ht rdV m q D hx ho ?_
 intro w' hrg hg hs
 exact h w' w.heap.size D hrg h1 ⟨hg.os,hg.tape,hg.output,hg.size,fun k hk=>hg.block k hk (by simp)⟩ (Nat.le_refl _) (by omega)
theorem gv {x:Operand} {r:Nat} {v:Value} (hr:(Instr.next (.pointer (some ⟨r,0,none⟩)) false typ).run P w=.ok v w1) (hx:a.eval x=.pointer (some ⟨r,0,none⟩)) (h:wpList P ops Q rest (a.put dst v) w1) :
  wpList P ops Q ({dst:=dst,op:=.next x false,type:=typ,pos:=pos,after:=aft,guard:=none}::rest) a w:=by
 refine wpList_plain rfl fun K hK=>?_
 have hh:=hK _ _ h
 unfold Oper.wp
 simp [execOp,hx,hr,Result.andThen]
 exact hh
theorem kR {x:Operand} {r:Nat} {v:Value} (hr:(Instr.entry (.pointer (some ⟨r,0,none⟩))).run P w=.ok v w) (hx:a.eval x=.pointer (some ⟨r,0,none⟩)) :
  (execOp a.eval {dst:=dst,op:=.entry x,type:=typ,pos:=pos,after:=aft,guard:=gd}).run P w=.ok (.value v) w:=by
 unfold execOp
 simp only [hx,hr,Sem.run_bind,Sem.run_pure,Result.andThen_ok]
end
structure UndW (w wr:World) (g3 B:Nat) (pl:List ByteArray) (v:Value) (L:List (List ByteArray)):Prop where
 bel:Below w.heap.size w wr
 row:Row wr g3 (plv pl) 76
 own:wr.ownsRow B 76 3 v L.length (L.flatMap plv)
 hB:B≤wr.heap.size
theorem UndW.below {w wr w':World} {g3 B:Nat} {pl:List ByteArray} {v:Value} {L:List (List ByteArray)} (h:UndW w wr g3 B pl v L) (hb:Below wr.heap.size wr w'):UndW w w' g3 B pl v L :=
 ⟨cA h.bel h.bel.size hb,Row.bel h.row hb,own_below h.own hb,Nat.le_trans h.hB hb.size⟩
theorem UndW.next {w wr w1:World} {g3 B r:Nat} {pl:List ByteArray} {v:Value} {L:List (List ByteArray)} (h:UndW w wr g3 B pl v L) (hg:wr.grownBy w1 (some r)) (hr:w.heap.size≤r) (hrB:r<B) (h3:g3≠r):UndW w w1 g3 B pl v L:=by
 refine ⟨⟨hg.os.trans h.bel.os,hg.tape.trans h.bel.tape,hg.output.trans h.bel.output,Nat.le_trans h.bel.size hg.size,fun k hk=>(hg.block k (Nat.lt_of_lt_of_le hk h.bel.size) (by simp;omega)).trans (h.bel.block k hk)⟩,?_,World.ownsRow.kept h.own hg ?_,Nat.le_trans h.hB hg.size⟩
 ·unfold Row
  rw [hg.block g3 (Row.lt h.row) (by simpa using h3)]
  exact h.row
 ·cases hv:v.ownBlock with
  | none=>exact Or.inl rfl
  | some k =>
   refine Or.inr (fun e=>?_)
   have:=(World.ownsRow.lt h.own k hv).1
   simp only [Option.some.injEq] at e
   omega
theorem UndW.app {w wr w1:World} {g3 B:Nat} {pl ks:List ByteArray} {v v':Value} {L:List (List ByteArray)} (h:UndW w wr g3 B pl v L) (h3:g3<B) (hwB:w.heap.size≤B) (hg:wr.grownBy w1 v.ownBlock) (ho:w1.ownsRow B 76 3 v' (L.length+1) (L.flatMap plv++plv ks)):UndW w w1 g3 B pl v' (L++[ks]):=by
 have hne:∀k,k<B→some k≠v.ownBlock:=fun k hk e=>by have:=(World.ownsRow.lt h.own k e.symm).1;omega
 refine ⟨⟨hg.os.trans h.bel.os,hg.tape.trans h.bel.tape,hg.output.trans h.bel.output,Nat.le_trans h.bel.size hg.size,fun k hk=>(hg.block k (Nat.lt_of_lt_of_le hk h.bel.size) (hne k (by omega))).trans (h.bel.block k hk)⟩,?_,?_,Nat.le_trans h.hB hg.size⟩
 ·unfold Row
  rw [hg.block g3 (Row.lt h.row) (hne g3 h3)]
  exact h.row
 ·rw [List.length_append,List.flatMap_append]
  simpa using ho
structure UndL (p:Pls) (pl:List ByteArray) (D:DataW Value) (L:List (List ByteArray)) (left:Lit→Bool):Prop where
 sub:∀kl,left kl=true→Maps.has D kl=true
 mem:∀ks∈L,PlOk ks∧(lkp p ks).isSome=true∧ks.take pl.length=pl
 all:∀ks kl,PlOk ks→keyOf Tryz.prog 76 (.agg (plv ks).toArray)=some kl→(lkp p ks).isSome=true→ks.take pl.length=pl→left kl=false→ks∈L
 gone:∀ks kl,ks∈L→keyOf Tryz.prog 76 (.agg (plv ks).toArray)=some kl→left kl=false
 nd:L.Nodup
theorem UndL.start {p:Pls} {pl:List ByteArray} {D:DataW Value} (h1:∀k kl,keyOf Tryz.prog 76 k=some kl→(Maps.has D kl=true↔∃v,rgK p k v)):UndL p pl D [] (Maps.has D):=by
 refine ⟨fun _ h=>h,fun _ h=>(by cases h),fun ks kl hk hkl hl _ hno=>?_,fun _ _ h=>(by cases h),List.nodup_nil⟩
 obtain ⟨n,hn⟩:=Option.isSome_iff_exists.1 hl
 have:=(h1 _ kl hkl).2 ⟨_,ks,n,hk,hn,rfl,rfl⟩
 rw [hno] at this;cases this
theorem ranges_le {w:World} {P:Program} {k:TypeId} {R:Value→Option (DataW Value×List MemPlace)} {b r n:Nat} {D:DataW Value} {left:Lit→Bool} {cnt:Nat} (h:w.ranges P k R b r n D left cnt):cnt≤n:=by
 obtain ⟨es,_,_,_,_,_,_,hs,_,_,_,hl,_⟩:=h
 rw [←hl]
 exact Nat.le_trans (by unfold leftOf;exact Array.size_filter_le ..) hs
theorem fY {left:Lit→Bool} {kl z:Lit} (hk:WideAt.IsKeyLit kl):(left z && !z.sameKey kl)=false↔(left z=false∨z=kl):=by
 by_cases h:z=kl
 ·subst h;simp [WideAt.sameKey_self hk]
 ·simp [Maps.sameKey_ne h,h]
theorem UndL.skip {p:Pls} {pl ks:List ByteArray} {D:DataW Value} {L:List (List ByteArray)} {left:Lit→Bool} {kl:Lit} (h:UndL p pl D L left) (hk:PlOk ks) (hkl:keyOf Tryz.prog 76 (.agg (plv ks).toArray)=some kl) (hu:¬ks.take pl.length=pl):UndL p pl D L (fun z=>left z && !z.sameKey kl):=by
 have hK:=dD.key hkl
 refine ⟨fun z hz=>h.sub z (by simp at hz;exact hz.1),h.mem,fun ks' kl' hk' hkl' hl hu' hz=>?_,fun ks' kl' hm hkl'=>(fY hK).2 (Or.inl (h.gone ks' kl' hm hkl')),h.nd⟩
 rcases (fY hK).1 hz with h1|h1
 ·exact h.all ks' kl' hk' hkl' hl hu' h1
 ·subst h1
  have:=fL hk' hk (dD.inj hkl' hkl)
  subst this
  exact absurd hu' hu
theorem UndL.more {p:Pls} {pl ks:List ByteArray} {D:DataW Value} {L:List (List ByteArray)} {left:Lit→Bool} {kl:Lit} (h:UndL p pl D L left) (hk:PlOk ks) (hkl:keyOf Tryz.prog 76 (.agg (plv ks).toArray)=some kl) (hl:(lkp p ks).isSome=true) (hlk:left kl=true) (hu:ks.take pl.length=pl):UndL p pl D (L++[ks]) (fun z=>left z && !z.sameKey kl):=by
 have hK:=dD.key hkl
 refine ⟨fun z hz=>h.sub z (by simp at hz;exact hz.1),fun x hx=>?_,fun ks' kl' hk' hkl' hl' hu' hz=>?_,fun ks' kl' hm hkl'=>?_,?_⟩
 ·rcases List.mem_append.1 hx with h1|h1
  ·exact h.mem x h1
  ·rw [List.mem_singleton.1 h1];exact ⟨hk,hl,hu⟩
 ·rcases (fY hK).1 hz with h1|h1
  ·exact List.mem_append.2 (Or.inl (h.all ks' kl' hk' hkl' hl' hu' h1))
  ·subst h1
   have:=fL hk' hk (dD.inj hkl' hkl)
   subst this
   exact List.mem_append.2 (Or.inr (List.mem_singleton.2 rfl))
 ·rcases List.mem_append.1 hm with h1|h1
  ·exact (fY hK).2 (Or.inl (h.gone ks' kl' h1 hkl'))
  ·rw [List.mem_singleton.1 h1,hkl] at hkl'
   exact (fY hK).2 (Or.inr (Option.some.inj hkl').symm)
 ·refine List.nodup_append.2 ⟨h.nd,by simp,fun a ha b hb=>?_⟩
  rw [List.mem_singleton.1 hb]
  rintro rfl
  have:=h.gone a kl ha hkl
  rw [hlk] at this;cases this
structure IsU (p:Pls) (pl:List ByteArray) (L:List (List ByteArray)):Prop where
 mem:∀ks,ks∈L↔PlOk ks∧(lkp p ks).isSome=true∧ks.take pl.length=pl
 nd:L.Nodup
 srt:Srt L
theorem UndL.whole {p:Pls} {pl:List ByteArray} {D:DataW Value} {L L':List (List ByteArray)} {left:Lit→Bool} (h:UndL p pl D L left) (h0:∀kl,left kl=false) (hp:L'.Perm L) (hs:Srt L'):IsU p pl L':=by
 refine ⟨fun ks=>?_,hp.nodup_iff.2 h.nd,hs⟩
 rw [hp.mem_iff]
 refine ⟨h.mem ks,fun ⟨h1,h2,h3⟩=>?_⟩
 obtain ⟨kl,hkl⟩:=je h1
 exact h.all ks kl h1 hkl h2 h3 (h0 kl)
theorem flat_get {L:List (List ByteArray)}:∀ {i:Nat} {ks:List ByteArray},L[i]?=some ks→∀j x,(plv ks)[j]?=some x→(L.flatMap plv)[i * 3+j]?=some x:=by
 induction L with
 | nil=>intro i ks h;simp at h
 | cons y L ih =>
  intro i ks h j x hx
  have hj3:j<3:=by
   rcases Nat.lt_or_ge j 3 with h'|h'
   ·exact h'
   ·rw [List.getElem?_eq_none (by rw [plv3];exact h')] at hx;cases hx
  rw [List.flatMap_cons]
  cases i with
  | zero =>
   simp only [List.getElem?_cons_zero,Option.some.injEq] at h
   subst h
   rw [Nat.zero_mul,Nat.zero_add,List.getElem?_append_left (by rw [plv3];exact hj3)]
   exact hx
  | succ i =>
   rw [List.getElem?_append_right (by rw [plv3];omega),plv3,show (i+1) * 3+j - 3=i * 3+j by omega]
   exact ih (by simpa using h) j x hx
theorem under_r {w:World} {rb m sb c:Nat} {root:List Int} {p:Pls} (h:RgAt w rb m sb c root p) (hc:c≤90000) {pl:List ByteArray} (hp:PlOk pl) :
  Calls Tryz.prog 31 #[.pointer (some ⟨rb,0,none⟩),.agg (plv pl).toArray] w fun e w'=>∃v L,e=.returned v∧PlSl w.heap.size w' v L∧IsU p pl L∧Below w.heap.size w w':=by
 have hm:=Mem.start w
 have HR:Hid (RgAt w rb m sb c root p):=h
 have HP:Hid (∀_:Unit,PlOk pl):=fun _=>hp
 obtain ⟨q,hq,km⟩:=h.map
 have hmlt:=km.lt
 have HKM:Hid (KM Tryz.prog 76 w m q (rgK p)):=km
 obtain ⟨n,hn⟩:∃n,n=pl.length:=⟨_,rfl⟩
 have hn3:n≤3:=by rw [hn];exact hp.len
 have HN:Hid (∀_:Unit,n=pl.length):=fun _=>hn
 have HD:Hid (∀W,Calls Tryz.prog 61 #[.agg (plv pl).toArray] W fun e w'=>e=.returned (.int .i64 (n:Int))∧Below W.heap.size W w'):=fun W=>iB hp n hn W
 clear h hp km hn
 go_enter Tryz.func31,Tryz.ntmps31
 go_wp2_with (first
  | ((with_reducible refine ae (some 3) (.box 76 (.tmp 1)) ?_);refine az (plv pl) rfl hm ?_;clear hm;intro w1 g3 hm)
  | ((with_reducible refine ae (some 10) (.load 90 (.tmp 9)) ?_);go_must (refine aj (.map (some m)) rfl (aK 33 (.map (some m)) ((HR.out.below hm.below).row) rfl dA (du HR.out.rl)) ?_))
  | ((with_reducible refine ae (some 11) (.range 90 (.tmp 10)) ?_);go_must (refine wpl_rangeR (HKM.out.below hm.below) dD eX rfl ?_);intro w2 r D hrg hD hb2 hr1 hr2))
 go_frame
 obtain ⟨B,hB⟩:∃B,B=w2.heap.size:=⟨_,rfl⟩
 have hg3:g3<w1.heap.size:=Row.lt (hm.get 0 rfl)
 have hw1:=hm.size
 have hgB:g3<B:=by have:=hb2.size;omega
 have hrB:r<B:=by omega
 have hwr:w.heap.size≤r:=by omega
 have hgr:g3≠r:=by omega
 have hwB:w.heap.size≤B:=by omega
 have HDD:Hid (∀k kl,keyOf Tryz.prog 76 k=some kl→(Maps.has D kl=true↔∃v,rgK p k v)):=hD
 have HU0:Hid (UndW w w2 g3 B pl (.slice none 0 0) []∧UndL p pl D [] (Maps.has D)∧w2.ranges Tryz.prog 76 rdV m r q D (Maps.has D) (Maps.size D)):=⟨⟨cA hm.below hm.size hb2,Row.bel (hm.get 0 rfl) hb2,⟨rfl,Or.inl ⟨rfl,rfl⟩⟩,by omega⟩,UndL.start hD,hrg⟩
 clear hm hb2 hrg hD hg3 hw1 hr1 hr2 hB
 go_loopw [5] (fun vx wr=>∃v L left cnt,v=vx∧L.length+cnt≤q∧Hid (UndW w wr g3 B pl v L∧UndL p pl D L left∧wr.ranges Tryz.prog 76 rdV m r q D left cnt)) (fun _ wr=>wr.rangeLeft m r)
 case atStart=>exact ⟨_,[],_,_,rfl,by have:=ranges_le HU0.out.2.2;simp only [List.length_nil];omega,HU0⟩
 case round =>
  obtain ⟨v,L,left,cnt,rfl,hlc,HU⟩:=hrel
  rcases World.ranges.next HU.out.2.2 dD 0 with ⟨h0,hl0,hrun⟩|⟨key,vv,kl,y,w3,cnt',hkey,hlk,hv,hat,hrun,hrg1,hlt,hgr1,hsz,hen⟩
  ·have HRUN:Hid ((Instr.next (.pointer (some ⟨r,0,none⟩)) false 0).run Tryz.prog wr=.ok (.tuple #[.bool false]) wr):=hrun
   have HL0:Hid (∀kl,left kl=false):=hl0
   clear hrun hl0
   rcases HU.out.1.own.2 with ⟨hv,hz⟩|⟨g,cap,cur,hv,hgb,hgc,r1,r2,r3,r4⟩
   ·subst hv
    have hL:L=[]:=List.length_eq_zero_iff.1 hz
    subst hL
    go_wp2_with (first
     | ((with_reducible refine ae (some 12) (.next (.tmp 11) false) ?_);go_must (refine gv HRUN.out rfl ?_))
     | (go_at_call 62;refine (show Calls Tryz.prog 62 _ _ _ from AnyF.slices_SortFunc_none sortR none 0 _ _).mono ?_;rintro e w' ⟨he,hw⟩;subst he hw))
    go_ret
    exact ⟨_,[],rfl,⟨none,0,rfl,fun h=>absurd h (by simp)⟩,HU.out.2.1.whole HL0.out (List.Perm.refl _) List.Pairwise.nil,HU.out.1.bel⟩
   ·subst hv
    have HSO:Hid (∀_:Unit,Calls Tryz.prog 62 #[.slice (some ⟨g,0,none⟩) L.length cap,.func (.func 63) #[] #[]] wr fun e w'=>e=.returned (.tuple #[])∧∃L',L'.Perm L∧Srt L'∧(∀i ks,L'[i]?=some ks→∀j x,(plv ks)[j]?=some x→w'.cell? ⟨g,i * 3+j,none⟩=some x)∧wr.grownBy w' (some g)):=fun _=>by
     refine sort_r L (fun ks hks=>(HU.out.2.1.mem ks hks).1) cur _ hgc (fun i ks hi j x hx=>?_) (by omega)
     have h1:=flat_get hi j x hx
     have h2:=World.ownsRow.cells HU.out.1.own rfl (i * 3+j) x h1
     rw [bK,Nat.zero_add] at h2
     exact h2
    obtain ⟨N,hN⟩:∃N,N=L.length:=⟨_,rfl⟩
    have HN9:Hid (∀_:Unit,N=L.length):=fun _=>hN
    rw [←hN] at HSO ⊢
    clear hN r1 r2 r3 r4 hgc
    go_wp2_with (first
     | ((with_reducible refine ae (some 12) (.next (.tmp 11) false) ?_);go_must (refine gv HRUN.out rfl ?_))
     | (go_at_call 62;refine (HSO.out ()).mono ?_;rintro e w' ⟨he,L',hp9,hs9,hc9,hg9⟩;subst he;have H9:Hid (L'.Perm L∧Srt L'∧(∀i ks,L'[i]?=some ks→∀j x,(plv ks)[j]?=some x→w'.cell? ⟨g,i * 3+j,none⟩=some x)∧wr.grownBy w' (some g)):=⟨hp9,hs9,hc9,hg9⟩;clear hp9 hs9 hc9 hg9))
    go_ret
    obtain ⟨hp9,hs9,hc9,hg9⟩:=H9.out
    have hglt:=(World.ownsRow.lt HU.out.1.own g rfl).2
    have hb9:=HU.out.1.bel
    refine ⟨.slice (some ⟨g,0,none⟩) N cap,L',rfl,⟨some ⟨g,0,none⟩,cap,by rw [hp9.length_eq,←HN9.out ()],fun _=>⟨g,rfl,by omega,Nat.lt_of_lt_of_le hglt hg9.size,hc9⟩⟩,HU.out.2.1.whole HL0.out hp9 hs9,⟨hg9.os.trans hb9.os,hg9.tape.trans hb9.tape,hg9.output.trans hb9.output,Nat.le_trans hb9.size hg9.size,fun k hk=>(hg9.block k (Nat.lt_of_lt_of_le hk hb9.size) (by simp;omega)).trans (hb9.block k hk)⟩⟩
  ·obtain ⟨v0,ks,n',hk,hl,hke,_⟩:=(HDD.out key kl hkey).1 (HU.out.2.1.sub kl hlk)
   subst hke
   have HKS:Hid (∀_:Unit,PlOk ks):=fun _=>hk
   have HRUN:Hid ((Instr.next (.pointer (some ⟨r,0,none⟩)) false 0).run Tryz.prog wr=.ok (.tuple #[.bool true,.agg (plv ks).toArray,vv]) w3):=hrun
   have HEN:Hid ((Instr.entry (.pointer (some ⟨r,0,none⟩))).run Tryz.prog w3=.ok (.tuple #[.agg (plv ks).toArray,vv]) w3):=hen
   have HU1:Hid (UndW w w3 g3 B pl v L):=HU.out.1.next hgr1 hwr hrB hgr
   have HRG:Hid (w3.ranges Tryz.prog 76 rdV m r q D (fun z=>left z && !z.sameKey kl) cnt'):=hrg1
   have HUT:Hid (∀W,Calls Tryz.prog 60 #[.agg (plv ks).toArray,.int .i64 (n:Int)] W fun e w'=>e=.returned (.agg (plv (ks.take n)).toArray)∧Below W.heap.size W w'):=fun W=>upTo_r ks n hn3 W
   have HKEY:Hid (keyOf Tryz.prog 76 (.agg (plv ks).toArray)=some kl∧left kl=true∧(lkp p ks).isSome=true):=⟨hkey,hlk,by rw [hl];rfl⟩
   have hm:=Mem.start w3
   clear hrun hen hgr1 hrg1 hkey hlk hl hk hv hat hsz
   by_cases hu:ks.take n=pl
   ·have HB:Hid (∀_:Unit,true=decide (ks.take n=pl)):=fun _=>by simp [hu]
    have HUU:Hid (∀_:Unit,ks.take pl.length=pl):=fun _=>by rw [←HN.out ()];exact hu
    clear hu
    obtain ⟨N,hN⟩:∃N,N=L.length:=⟨_,rfl⟩
    have HN9:Hid (∀_:Unit,N=L.length):=fun _=>hN
    have hN9:N≤100000:=by omega
    clear hN
    go_wp2_with (first
     | ((with_reducible refine ae (some 12) (.next (.tmp 11) false) ?_);go_must (refine gv HRUN.out rfl ?_))
     | ((with_reducible refine ae (some 14) (.entry (.tmp 11)) ?_);go_must (refine aj (.tuple #[.agg (plv ks).toArray,vv]) rfl (kR HEN.out rfl) ?_))
     | ((with_reducible refine ae (some 6) (.alloc 76) ?_);refine ag _ aR hm ?_;clear hm;intro w4 g6 hm)
     | ((with_reducible refine ae none (.store 76 (.tmp 6) (.tmp 15)) ?_);refine ah 0 (plv ks) hm rfl rfl rfl 3 ax rfl rfl (aB _) ?_;clear hm;intro w5 hm))
    refine aA ?_
    refine aC (T:=fun W=>Mem w3 [] W [(g6,plv ks,76)]) (by kernel_rfl) hm ?_
    intro wc hbw hmw
    clear hm
    have hm:=hmw
    clear hbw hmw
    refine aT 0 (v:=.agg (plv ks).toArray) rfl (by kernel_rfl) rfl (fun W hW=>au 0 (plv ks) (Mem.get hW 0 rfl) rfl _ aI rfl 3 ax (Nat.le_refl 3) rfl) hm ?_
    go_simp
    refine aT 1 (v:=.agg (plv pl).toArray) rfl (by kernel_rfl) rfl (fun W hW=>au 0 (plv pl) (Row.bel HU1.out.row (Mem.below hW)) rfl _ aI rfl 3 ax (Nat.le_refl 3) rfl) hm ?_
    go_simp
    refine aT 4 (v:=.agg (plv pl).toArray) rfl (by kernel_rfl) rfl (fun W hW=>au 0 (plv pl) (Row.bel HU1.out.row (Mem.below hW)) rfl _ aI rfl 3 ax (Nat.le_refl 3) rfl) hm ?_
    go_simp
    refine aO 2 (by kernel_rfl) rfl rfl ?_
    intro K hK
    go_wp2_with (go_at_call 61;refine (HD.out _).mono ?_;rintro e w' ⟨he,hb⟩;subst he;replace hm:=hm.call hb;clear hb)
    refine hK _ _ hm ?_
    clear hK K
    go_simp
    refine aO 3 (by kernel_rfl) rfl rfl ?_
    intro K hK
    go_wp2_with (go_at_call 60;refine (HUT.out _).mono ?_;rintro e w' ⟨he,hb⟩;subst he;replace hm:=hm.call hb;clear hb)
    refine hK _ _ hm ?_
    clear hK K
    go_simp
    refine aT 5 (v:=.bool true) rfl (by kernel_rfl) rfl (fun W _=>kU (jX (HKS.out ()) n) (HP.out ()) _ (HB.out ()) rfl rfl) hm ?_
    go_simp
    refine wpAnyH_done (by kernel_rfl) ?_ _
    simp only [endsIn]
    go_wp2_with (first
     | ((with_reducible refine ae (some 23) (.load 76 (.tmp 6)) ?_);refine av 0 hm rfl rfl _ aI rfl 3 ax (by rfl) ?_)
     | ((with_reducible refine ae (some 24) (.buildSlice 74 1 #[(0,.tmp 23)]) ?_);go_must (refine wpl_bslR ks rfl rfl hm ?_);clear hm;intro w6 g8 hm)
     | ((with_reducible refine ae (some 25) (.call {callee:=.builtin .append,args:=#[.tmp 22,.tmp 24],argTypes:=#[74,74]}) ?_);go_must (refine ky (.agg (plv []).toArray) 3 48 rfl un_rps made_rp rfl (by omega) (by omega) (n:=N) (cs:=L.flatMap plv) (by rw [HN9.out ()];exact own_below HU1.out.own hm.below) (Nat.le_trans HU1.out.hB hm.size) rfl rfl (hm.get 0 rfl) rfl (aB ks) hN9 ?_);intro v9 w9 ho9 hg9 hl9;have H9:Hid (w9.ownsRow B 76 3 v9 (N+1) (L.flatMap plv++plv ks)):=ho9;have HG9:Hid (World.grownBy _ w9 (Value.ownBlock v)):=hg9;clear ho9 hg9 hl9))
    go_roundw
    case rel =>
     have hne:∀k,k<B→some k≠v.ownBlock:=fun k hk e=>by have:=(World.ownsRow.lt HU1.out.own k e.symm).1;omega
     exact ⟨v9,L++[ks],_,cnt',rfl,by rw [List.length_append];simp only [List.length_cons,List.length_nil];omega,⟨(HU1.out.below hm.below).app hgB hwB HG9.out (by rw [←HN9.out ()];exact H9.out),HU.out.2.1.more (HKS.out ()) HKEY.out.1 HKEY.out.2.2 HKEY.out.2.1 (HUU.out ()),((HRG.out.kept (bE hm.below) (by simp) (by simp)).kept HG9.out (hne m (by omega)) (hne r (by omega)))⟩⟩
    case measure =>
     have hne:∀k,k<B→some k≠v.ownBlock:=fun k hk e=>by have:=(World.ownsRow.lt HU1.out.own k e.symm).1;omega
     rw [((HRG.out.kept (bE hm.below) (by simp) (by simp)).kept HG9.out (hne m (by omega)) (hne r (by omega))).left_eq,HU.out.2.2.left_eq]
     exact hlt
   ·have HB:Hid (∀_:Unit,false=decide (ks.take n=pl)):=fun _=>by simp [hu]
    have HUU:Hid (∀_:Unit,¬ks.take pl.length=pl):=fun _=>by rw [←HN.out ()];exact hu
    clear hu
    go_wp2_with (first
     | ((with_reducible refine ae (some 12) (.next (.tmp 11) false) ?_);go_must (refine gv HRUN.out rfl ?_))
     | ((with_reducible refine ae (some 14) (.entry (.tmp 11)) ?_);go_must (refine aj (.tuple #[.agg (plv ks).toArray,vv]) rfl (kR HEN.out rfl) ?_))
     | ((with_reducible refine ae (some 6) (.alloc 76) ?_);refine ag _ aR hm ?_;clear hm;intro w4 g6 hm)
     | ((with_reducible refine ae none (.store 76 (.tmp 6) (.tmp 15)) ?_);refine ah 0 (plv ks) hm rfl rfl rfl 3 ax rfl rfl (aB _) ?_;clear hm;intro w5 hm))
    refine aA ?_
    refine aC (T:=fun W=>Mem w3 [] W [(g6,plv ks,76)]) (by kernel_rfl) hm ?_
    intro wc hbw hmw
    clear hm
    have hm:=hmw
    clear hbw hmw
    refine aT 0 (v:=.agg (plv ks).toArray) rfl (by kernel_rfl) rfl (fun W hW=>au 0 (plv ks) (Mem.get hW 0 rfl) rfl _ aI rfl 3 ax (Nat.le_refl 3) rfl) hm ?_
    go_simp
    refine aT 1 (v:=.agg (plv pl).toArray) rfl (by kernel_rfl) rfl (fun W hW=>au 0 (plv pl) (Row.bel HU1.out.row (Mem.below hW)) rfl _ aI rfl 3 ax (Nat.le_refl 3) rfl) hm ?_
    go_simp
    refine aT 4 (v:=.agg (plv pl).toArray) rfl (by kernel_rfl) rfl (fun W hW=>au 0 (plv pl) (Row.bel HU1.out.row (Mem.below hW)) rfl _ aI rfl 3 ax (Nat.le_refl 3) rfl) hm ?_
    go_simp
    refine aO 2 (by kernel_rfl) rfl rfl ?_
    intro K hK
    go_wp2_with (go_at_call 61;refine (HD.out _).mono ?_;rintro e w' ⟨he,hb⟩;subst he;replace hm:=hm.call hb;clear hb)
    refine hK _ _ hm ?_
    clear hK K
    go_simp
    refine aO 3 (by kernel_rfl) rfl rfl ?_
    intro K hK
    go_wp2_with (go_at_call 60;refine (HUT.out _).mono ?_;rintro e w' ⟨he,hb⟩;subst he;replace hm:=hm.call hb;clear hb)
    refine hK _ _ hm ?_
    clear hK K
    go_simp
    refine aT 5 (v:=.bool false) rfl (by kernel_rfl) rfl (fun W _=>kU (jX (HKS.out ()) n) (HP.out ()) _ (HB.out ()) rfl rfl) hm ?_
    go_simp
    refine wpAnyH_done (by kernel_rfl) ?_ _
    simp only [endsIn]
    go_wp2_with fail
    go_roundw
    case rel =>
     exact ⟨v,L,_,cnt',rfl,by omega,⟨HU1.out.below hm.below,HU.out.2.1.skip (HKS.out ()) HKEY.out.1 (HUU.out ()),HRG.out.kept (bE hm.below) (by simp) (by simp)⟩⟩
    case measure =>
     rw [(HRG.out.kept (bE hm.below) (by simp) (by simp)).left_eq,HU.out.2.2.left_eq]
     exact hlt
open Go Go.RowKit Go.Sort Go.Maps
theorem ew (ks:List ByteArray) (n:Int) (p:Pls) (qs:List ByteArray):lkp ((ks,n)::p) qs=if ks=qs then some n else lkp p qs:=by
 unfold lkp
 rw [List.find?_cons]
 by_cases h:ks=qs<;>simp [h]
def inL (L:List (List ByteArray)) (ks:List ByteArray):Bool:=L.any fun y=>decide (y=ks)
theorem iJ {L:List (List ByteArray)} {ks:List ByteArray}:inL L ks=true↔ks∈L:=by
 simp [inL]
def delAll (p:Pls) (L:List (List ByteArray)):Pls:=p.filter fun x => !inL L x.1
theorem j4 (p:Pls) (L:List (List ByteArray)) (qs:List ByteArray):lkp (delAll p L) qs=if inL L qs=true then none else lkp p qs:=by
 unfold lkp delAll
 rw [List.find?_filter]
 by_cases h:inL L qs=true
 ·rw [if_pos h]
  have e:p.find? (fun a=>(!inL L a.1)&&decide (a.1=qs))=none:=by
   rw [List.find?_eq_none]
   intro x _ hx
   simp only [Bool.and_eq_true,Bool.not_eq_true',decide_eq_true_eq] at hx
   rw [hx.2,h] at hx
   exact absurd hx.1 (by simp)
  simpa using congrArg (Option.map (·.2)) e
 ·rw [if_neg h]
  congr 2
  funext x
  by_cases hx:x.1=qs
  ·simp [hx,h]
  ·simp [hx]
theorem rgK_put {p:Pls} {ks:List ByteArray} (hk:PlOk ks) (n:Int) (k v:Value):putK (rgK p) (.agg (plv ks).toArray) (.int .i64 n) k v↔rgK ((ks,n)::p) k v:=by
 constructor
 ·rintro (⟨rfl,rfl⟩|⟨hne,qs,n',hq,hl,rfl,rfl⟩)
  ·exact ⟨ks,n,hk,by rw [ew,if_pos rfl],rfl,rfl⟩
  ·exact ⟨qs,n',hq,by rw [ew,if_neg (fun e=>hne (by rw [e]))];exact hl,rfl,rfl⟩
 ·rintro ⟨qs,n',hq,hl,rfl,rfl⟩
  rw [ew] at hl
  by_cases he:ks=qs
  ·subst he
   rw [if_pos rfl] at hl
   exact Or.inl ⟨rfl,by rw [Option.some.inj hl]⟩
  ·rw [if_neg he] at hl
   exact Or.inr ⟨fun e=>he (fL hk hq e.symm),qs,n',hq,hl,rfl,rfl⟩
theorem rgK_del {p p':Pls} {ks:List ByteArray} (hk:PlOk ks) (hp:∀qs,lkp p' qs=if qs=ks then none else lkp p qs) (k v:Value):delK (rgK p) (.agg (plv ks).toArray) k v↔rgK p' k v:=by
 constructor
 ·rintro ⟨hne,qs,n',hq,hl,rfl,rfl⟩
  exact ⟨qs,n',hq,by rw [hp,if_neg (fun e=>hne (by rw [e]))];exact hl,rfl,rfl⟩
 ·rintro ⟨qs,n',hq,hl,rfl,rfl⟩
  rw [hp] at hl
  by_cases he:qs=ks
  ·rw [if_pos he] at hl;cases hl
  ·rw [if_neg he] at hl
   exact ⟨fun e=>he (fL hq hk e),qs,n',hq,hl,rfl,rfl⟩
theorem PlSl.updM {B m:Nat} {w w':World} {v:Value} {L:List (List ByteArray)} {es:Array MapEntry} {c:Nat} (h:PlSl B w v L) (hu:Upd m w w') (hm:w.heap[m]?=some (.map es c)):PlSl B w' v L :=
 h.keep hu.size (fun b _ h2=>by
  by_cases hb:b=m
  ·subst hb;right;simp [World.cell?,hm]
  ·exact Or.inl (hu.block b h2 hb))
theorem hO {a:Act} {w:World} {dst:Option Tmp} {typ:TypeId} {pos:String} {aft:Array Edge} {gd:Option (Nat×Bool)} {x ix:Operand} {b n cap:Nat} (i:Nat) {ii:Int} (hx:a.eval x=.slice (some ⟨b,0,none⟩) n cap) (hix:a.eval ix=.int .i64 ii) (hii:ii=(i:Int)) (hi:i<n) :
  (execOp a.eval {dst:=dst,op:=.indexAddr 74 x ix,type:=typ,pos:=pos,after:=aft,guard:=gd}).run Tryz.prog w=.ok (.value (.pointer (some ⟨b,i * 3,none⟩))) w:=by
 subst hii
 have h0:(0:Int)≤(i:Int)∧(i:Int)<(n:Int):=by omega
 unfold execOp
 simp [hx,hix,Instr.indexAt,asIntOf,run_underlying un_rps,h0,bK]
 omega
theorem jJ {w:World} {rb m sb c B:Nat} {root:List Int} {p:Pls} (h:RgAt w rb m sb c root p) {v:Value} {L:List (List ByteArray)} (hv:PlSl B w v L) (hL:∀ks∈L,PlOk ks) (hlen:L.length≤100000) :
  Calls Tryz.prog 45 #[.pointer (some ⟨rb,0,none⟩),v] w fun e w'=>e=.returned (.tuple #[])∧RgAt w' rb m sb c root (delAll p L)∧UpdS [m] w w':=by
 have HRL:Hid (root.length=32):=h.rl
 have HRB:Hid (Bytes root):=h.rB
 obtain ⟨pp,cap,hvv,hpp⟩:=id hv
 obtain ⟨N,hN⟩:∃N,N=L.length:=⟨_,rfl⟩
 rw [←hN] at hvv
 subst hvv
 have HN:Hid (∀_:Unit,N=L.length):=fun _=>hN
 have hN9:N≤100000:=by omega
 have HLK:Hid (∀ks∈L,PlOk ks):=hL
 have H0:Hid (RgAt w rb m sb c root (delAll p (L.take 0))∧UpdS [m] w w∧PlSl B w (.slice pp N cap) L):=⟨⟨h.row,by
  obtain ⟨q,hq,km⟩:=h.map
  exact ⟨q,hq,by rw [show delAll p (L.take 0)=p by simp [delAll,inL]];exact km⟩,h.rl,h.rB⟩,UpdS.refl _ _,hv⟩
 clear h hv hL hN hpp
 go_enter Tryz.func45,Tryz.ntmps45
 go_wp2_with fail
 go_loopw [8] (fun vi wr=>∃i:Nat,i≤N∧vi=.int .i64 (i:Int)∧Hid (RgAt wr rb m sb c root (delAll p (L.take i))∧UpdS [m] w wr∧PlSl B wr (.slice pp N cap) L)) (fun vi _=>match vi with | .int _ k=>N - k.toNat|_=>0)
 case atStart=>exact ⟨0,by omega,rfl,H0⟩
 case round =>
  obtain ⟨i,hi,rfl,HS⟩:=hrel
  by_cases hlt:i<N
  ·have hki:(i:Int)<(N:Int):=by omega
   have hw:IntKind.i64.wrap ((i:Int)+1)=(i:Int)+1:=dt _ (by omega) (by omega)
   have hiL:i<L.length:=by rw [←HN.out ()];exact hlt
   obtain ⟨ks,hks⟩:∃ks,ks=L[i]:=⟨_,rfl⟩
   have HLI:Hid (∀_:Unit,L[i]?=some ks):=fun _=>by rw [hks];simp [hiL]
   have HKS:Hid (∀_:Unit,PlOk ks):=fun _=>by rw [hks];exact HLK.out _ (List.getElem_mem hiL)
   obtain ⟨p2,cap2,hv2,hc2⟩:=HS.out.2.2
   rw [←HN.out ()] at hv2
   simp only [Value.slice.injEq,true_and] at hv2
   obtain ⟨hv3,hv4⟩:=hv2
   subst hv3
   subst hv4
   obtain ⟨b,hb1,hb2,hb3,hb4⟩:=hc2 (by rw [←HN.out ()];omega)
   subst hb1
   have HC:Hid (∀j x,(plv ks)[j]?=some x→wr.cell? ⟨b,i * 3+j,none⟩=some x):=fun j x hx=>hb4 i ks (HLI.out ()) j x hx
   have HCUR:Hid (RgAt wr rb m sb c root (delAll p (L.take i))):=HS.out.1
   have hm:=Mem.start wr
   clear hks hc2 hb4 hb2 hb3
   go_wp2_with (first
    | ((with_reducible refine ae (some 10) (.indexAddr 74 (.tmp 6) (.tmp 8)) ?_);go_must (refine aj (.pointer (some ⟨b,i * 3,none⟩)) rfl (hO i rfl rfl rfl hlt) ?_))
    | ((with_reducible refine ae (some 11) (.load 76 (.tmp 10)) ?_);go_must (refine iq (plv ks) (i * 3) rfl HC.out _ aI rfl 3 ax rfl ?_))
    | ((with_reducible refine ae (some 5) (.alloc 76) ?_);refine ag _ aR hm ?_;clear hm;intro w1 g5 hm)
    | ((with_reducible refine ae none (.store 76 (.tmp 5) (.tmp 11)) ?_);refine ah 0 (plv ks) hm rfl rfl rfl 3 ax rfl rfl (aB _) ?_;clear hm;intro w2 hm))
   refine aA ?_
   refine aC (T:=fun W=>Row W rb (rgC root sb m) 92∧Row W g5 (plv ks) 76) (by kernel_rfl) hm ?_
   intro wc hbw hmw
   clear hm hbw
   have hm:=hmw
   clear hmw
   have HC9:=HCUR.out.below hm.below
   have HT:Hid (Row wc rb (rgC root sb m) 92∧Row wc g5 (plv ks) 76):=⟨HC9.row,hm.get 0 rfl⟩
   obtain ⟨q9,hq9,km9⟩:=HC9.map
   obtain ⟨es9,c9,hmap9⟩:=km9.isMap
   have hne1:rb≠m:=b6 HT.out.1 hmap9
   have hne2:g5≠m:=b6 HT.out.2 hmap9
   have HQ9:Hid (q9≤c):=hq9
   have HKM9:Hid (KM Tryz.prog 76 wc m q9 (rgK (delAll p (L.take i)))):=km9
   obtain ⟨kl9,hkl9⟩:=je (HKS.out ())
   have HKL9:Hid (keyOf Tryz.prog 76 (.agg (plv ks).toArray)=some kl9):=hkl9
   clear HC9 hq9 km9 hmap9 hkl9
   refine aT 0 (v:=.pointer (some ⟨rb,0,none⟩)) rfl (by kernel_rfl) rfl (fun W _=>by go_simp) HT.out ?_
   go_simp
   refine aT 1 (v:=.pointer (some ⟨rb,0,none⟩)) rfl (by kernel_rfl) rfl (fun W _=>by go_simp) HT.out ?_
   go_simp
   refine aT 2 (v:=.pointer (some ⟨rb,33,none⟩)) rfl (by kernel_rfl) rfl (fun W _=>by go_simp) HT.out ?_
   go_simp
   refine aT 3 (v:=.map (some m)) rfl (by kernel_rfl) rfl (fun W hW=>aK 33 (.map (some m)) hW.1 rfl dA (du HRL.out)) HT.out ?_
   go_simp
   refine aT 4 (v:=.agg (plv ks).toArray) rfl (by kernel_rfl) rfl (fun W hW=>au 0 (plv ks) hW.2 rfl _ aI rfl 3 ax (Nat.le_refl 3) rfl) HT.out ?_
   go_simp
   refine aO 5 (by kernel_rfl) rfl rfl ?_
   intro K hK
   refine wpl_kmDel HKM9.out dD eX HKL9.out rfl rfl ?_
   intro w9 km8 hu9
   have HKM8:Hid (KM Tryz.prog 76 w9 m q9 (delK (rgK (delAll p (L.take i))) (.agg (plv ks).toArray))):=km8
   have HU9:Hid (Upd m wc w9):=hu9
   have HT9:Hid (Row w9 rb (rgC root sb m) 92∧Row w9 g5 (plv ks) 76):=⟨hu9.row HT.out.1 hne1,hu9.row HT.out.2 hne2⟩
   clear km8 hu9
   refine wpList_nil ?_
   refine hK _ _ HT9.out ?_
   clear hK K
   go_simp
   refine wpAnyH_done (by kernel_rfl) ?_ _
   simp only [endsIn]
   go_wp2_with fail
   go_roundw
   case rel =>
    refine ⟨i+1,by omega,by go_num,⟨HT9.out.1,⟨q9,HQ9.out,HKM8.out.same (rgK_del (HKS.out ()) (fun qs=>?_))⟩,HRL.out,HRB.out⟩,(HS.out.2.1.trans (UpdS.of_below hm.below)).trans (UpdS.of_upd HU9.out (by simp)),?_⟩
    ·rw [j4,j4,List.take_add_one,HLI.out ()]
     have e1:inL (L.take i++(some ks).toList) qs=(inL (L.take i) qs||decide (ks=qs)):=by simp [inL]
     rw [e1]
     by_cases h1:qs=ks
     ·subst h1;simp
     ·have h2:¬ks=qs:=fun e=>h1 e.symm
      simp [h1,h2]
    ·obtain ⟨es,cc,hmap⟩:=HKM9.out.isMap
     exact (HS.out.2.2.below hm.below).updM HU9.out hmap
   case measure=>show N - ((i:Int)+1).toNat<N - (i:Int).toNat;omega
  ·have hin:i=N:=by omega
   have hki:¬(i:Int)<(N:Int):=by omega
   have HE:Hid (∀_:Unit,L.take i=L):=fun _=>List.take_of_length_le (by rw [hin,HN.out ()];exact Nat.le_refl _)
   go_wp2_with fail
   go_end0
   exact ⟨rfl,by rw [←HE.out ()];exact HS.out.1,HS.out.2.1⟩
theorem lk {w:World} {rb m sb c:Nat} {root:List Int} {p:Pls} (h:RgAt w rb m sb c root p) (hcc:c≤90000) (s:ByteArray) (hs:s.size≤1000) (hM:MaxL w) (slot:Int) (ks:List ByteArray) (hks:ks=segsB s) (e0:Int) (he0:e0=vacE p (isP (bs s)) ks) :
  Calls Tryz.prog 16 #[.pointer (some ⟨rb,0,none⟩),.string s,.int .i64 slot] w fun e w'=>e=.returned (.int .i64 e0)∧RgAt w' rb m sb (c+1) root (if e0=0 then (ks,slot)::p else p)∧UpdS [m] w w':=by
 have hm:=Mem.start w
 have HRL:Hid (root.length=32):=h.rl
 have HRB:Hid (Bytes root):=h.rB
 have HR:Hid (RgAt w rb m sb c root p):=h
 have HKS:Hid (∀_:Unit,PlOk ks):=fun _=>by rw [hks];exact cX s
 have HV:Hid (∀W,Below w.heap.size w W→Calls Tryz.prog 40 #[.pointer (some ⟨rb,0,none⟩),.string s] W fun e w'=>e=.returned (.tuple #[.agg (plv (okPl e0 ks)).toArray,.int .i64 e0])∧Below W.heap.size W w'):=fun W hW=>by
  rw [he0,hks];exact kK (HR.out.below hW) s hs (hM.below hW)
 clear h hM hks he0 hs
 by_cases h0:e0=0
 ·subst h0
  rw [if_pos rfl]
  replace HV:Hid (∀W,Below w.heap.size w W→Calls Tryz.prog 40 #[.pointer (some ⟨rb,0,none⟩),.string s] W fun e w'=>e=.returned (.tuple #[.agg (plv ks).toArray,.int .i64 0])∧Below W.heap.size W w'):=HV
  have HCUR:Hid (RgAt w rb m sb c root p):=HR
  go_enter Tryz.func16,Tryz.ntmps16
  go_wp2_with (first
   | (go_at_call 40;refine (HV.out _ hm.below).mono ?_;rintro e w' ⟨he,hb⟩;subst he;replace hm:=hm.call hb;clear hb)
   | ((with_reducible refine ae (some 7) (.alloc 76) ?_);refine ag _ aR hm ?_;clear hm;intro w1 g7 hm)
   | ((with_reducible refine ae none (.store 76 (.tmp 7) (.tmp 13)) ?_);refine ah 0 (plv ks) hm rfl rfl rfl 3 ax rfl rfl (aB _) ?_;clear hm;intro w2 hm))
  refine aA ?_
  refine aC (T:=fun W=>Row W rb (rgC root sb m) 92∧Row W g7 (plv ks) 76) (by kernel_rfl) hm ?_
  intro wc hbw hmw
  clear hm hbw
  have hm:=hmw
  clear hmw
  have HC9:=HCUR.out.below hm.below
  have HT:Hid (Row wc rb (rgC root sb m) 92∧Row wc g7 (plv ks) 76):=⟨HC9.row,hm.get 0 rfl⟩
  obtain ⟨q9,hq9,km9⟩:=HC9.map
  obtain ⟨es9,c9,hmap9⟩:=km9.isMap
  have hne1:rb≠m:=b6 HT.out.1 hmap9
  have hne2:g7≠m:=b6 HT.out.2 hmap9
  have HQ9:Hid (q9≤c):=hq9
  have HKM9:Hid (KM Tryz.prog 76 wc m q9 (rgK p)):=km9
  obtain ⟨kl9,hkl9⟩:=je (HKS.out ())
  have HKL9:Hid (keyOf Tryz.prog 76 (.agg (plv ks).toArray)=some kl9):=hkl9
  clear HC9 hq9 km9 hmap9 hkl9
  refine aT 0 (v:=.pointer (some ⟨rb,0,none⟩)) rfl (by kernel_rfl) rfl (fun W _=>by go_simp) HT.out ?_
  go_simp
  refine aT 1 (v:=.pointer (some ⟨rb,0,none⟩)) rfl (by kernel_rfl) rfl (fun W _=>by go_simp) HT.out ?_
  go_simp
  refine aT 2 (v:=.pointer (some ⟨rb,33,none⟩)) rfl (by kernel_rfl) rfl (fun W _=>by go_simp) HT.out ?_
  go_simp
  refine aT 3 (v:=.map (some m)) rfl (by kernel_rfl) rfl (fun W hW=>aK 33 (.map (some m)) hW.1 rfl dA (du HRL.out)) HT.out ?_
  go_simp
  refine aT 4 (v:=.agg (plv ks).toArray) rfl (by kernel_rfl) rfl (fun W hW=>au 0 (plv ks) hW.2 rfl _ aI rfl 3 ax (Nat.le_refl 3) rfl) HT.out ?_
  go_simp
  refine aT 5 (v:=.int .i64 slot) rfl (by kernel_rfl) rfl (fun W _=>by go_simp) HT.out ?_
  go_simp
  refine aO 6 (by kernel_rfl) rfl rfl ?_
  intro K hK
  refine ge HKM9.out dD eX (by have:=HQ9.out;omega) HKL9.out rfl rfl rfl ?_
  intro w9 km8 hu9
  have HKM8:Hid (KM Tryz.prog 76 w9 m (q9+1) (putK (rgK p) (.agg (plv ks).toArray) (.int .i64 slot))):=km8
  have HU9:Hid (Upd m wc w9):=hu9
  have HT9:Hid (Row w9 rb (rgC root sb m) 92∧Row w9 g7 (plv ks) 76):=⟨hu9.row HT.out.1 hne1,hu9.row HT.out.2 hne2⟩
  clear km8 hu9
  refine wpList_nil ?_
  refine hK _ _ HT9.out ?_
  clear hK K
  go_simp
  refine wpAnyH_done (by kernel_rfl) ?_ _
  simp only [endsIn]
  go_wp2_with fail
  go_ret
  exact ⟨rfl,⟨HT9.out.1,⟨q9+1,by have:=HQ9.out;omega,HKM8.out.same (rgK_put (HKS.out ()) slot)⟩,HRL.out,HRB.out⟩,(UpdS.of_below hm.below).trans (UpdS.of_upd HU9.out (by simp))⟩
 ·rw [if_neg h0]
  have hne:(e0==0)=false:=by simpa using h0
  go_enter Tryz.func16,Tryz.ntmps16
  go_wp2_with (first
   | (go_at_call 40;refine (HV.out _ hm.below).mono ?_;rintro e w' ⟨he,hb⟩;subst he;replace hm:=hm.call hb;clear hb)
   | ((with_reducible refine ae (some 7) (.alloc 76) ?_);refine ag _ aR hm ?_;clear hm;intro w1 g7 hm)
   | ((with_reducible refine ae none (.store 76 (.tmp 7) (.tmp 13)) ?_);refine ah 0 (plv (okPl e0 ks)) hm rfl rfl rfl 3 ax rfl rfl (aB _) ?_;clear hm;intro w2 hm))
  go_ret
  exact ⟨rfl,(by
   obtain ⟨q,hq,km⟩:=(HR.out.below hm.below).map
   exact ⟨(HR.out.below hm.below).row,⟨q,by omega,km⟩,HRL.out,HRB.out⟩),UpdS.of_below hm.below⟩
theorem forget_r {w:World} {rb m sb c:Nat} {root:List Int} {p:Pls} (h:RgAt w rb m sb c root p) (hcc:c≤90000) (hlp:∀(L:List (List ByteArray)) ks,IsU p ks L→L.length≤100000) (s:ByteArray) (hs:s.size≤1000) (hM:MaxL w) (ks:List ByteArray) (hks:ks=segsB s) (e0:Int) (he0:e0=takE p (isP (bs s)) ks) :
  Calls Tryz.prog 23 #[.pointer (some ⟨rb,0,none⟩),.string s] w fun e w'=>e=.returned (.int .i64 e0)∧((e0=0∧∃L,IsU p ks L∧RgAt w' rb m sb c root (delAll p L)∧UpdS [m] w w')∨(e0≠0∧Below w.heap.size w w')):=by
 have hm:=Mem.start w
 have HR:Hid (RgAt w rb m sb c root p):=h
 have HLP:Hid (∀(L:List (List ByteArray)) ks,IsU p ks L→L.length≤100000):=hlp
 have HKS:Hid (∀_:Unit,PlOk ks):=fun _=>by rw [hks];exact cX s
 have HV:Hid (∀W,Below w.heap.size w W→Calls Tryz.prog 43 #[.pointer (some ⟨rb,0,none⟩),.string s] W fun e w'=>e=.returned (.tuple #[.agg (plv (okPl e0 ks)).toArray,.int .i64 e0])∧Below W.heap.size W w'):=fun W hW=>by
  rw [he0,hks];exact taken_r (HR.out.below hW) s hs (hM.below hW)
 have HUN:Hid (∀W,Below w.heap.size w W→Calls Tryz.prog 31 #[.pointer (some ⟨rb,0,none⟩),.agg (plv ks).toArray] W fun e w'=>∃v L,e=.returned v∧PlSl W.heap.size w' v L∧IsU p ks L∧Below W.heap.size W w'):=fun W hW=>under_r (HR.out.below hW) hcc (HKS.out ())
 clear h hM hks he0 hs hlp
 by_cases h0:e0=0
 ·subst h0
  replace HV:Hid (∀W,Below w.heap.size w W→Calls Tryz.prog 43 #[.pointer (some ⟨rb,0,none⟩),.string s] W fun e w'=>e=.returned (.tuple #[.agg (plv ks).toArray,.int .i64 0])∧Below W.heap.size W w'):=HV
  go_enter Tryz.func23,Tryz.ntmps23
  go_wp2_with (first
   | (go_at_call 43;refine (HV.out _ hm.below).mono ?_;rintro e w' ⟨he,hb⟩;subst he;replace hm:=hm.call hb;clear hb)
   | ((with_reducible refine ae (some 5) (.alloc 76) ?_);refine ag _ aR hm ?_;clear hm;intro w1 g5 hm)
   | ((with_reducible refine ae none (.store 76 (.tmp 5) (.tmp 11)) ?_);refine ah 0 (plv ks) hm rfl rfl rfl 3 ax rfl rfl (aB _) ?_;clear hm;intro w2 hm)
   | ((with_reducible refine ae (some 18) (.load 76 (.tmp 5)) ?_);refine av 0 hm rfl rfl _ aI rfl 3 ax (by rfl) ?_)
   | (go_at_call 31;refine (HUN.out _ hm.below).mono ?_;rintro e w3 ⟨v,L,he,hps,hiu,hb⟩;subst he;have HPS:Hid (PlSl _ w3 v L):=hps;have HIU:Hid (IsU p ks L):=hiu;replace hm:=hm.call hb;clear hb hps hiu)
   | (go_at_call 45;refine (jJ (HR.out.below hm.below) HPS.out (fun x hx=>((HIU.out.mem x).1 hx).1) (HLP.out L ks HIU.out)).mono ?_;rintro e w4 ⟨he,hr4,hu4⟩;subst he;have H4:Hid (RgAt w4 rb m sb c root (delAll p L)∧UpdS [m] w w4):=⟨hr4,(UpdS.of_below hm.below).trans hu4⟩;clear hr4 hu4))
  go_ret
  exact ⟨rfl,Or.inl ⟨(by first|rfl|trivial),L,HIU.out,H4.out.1,H4.out.2⟩⟩
 ·have hne:(e0==0)=false:=by simpa using h0
  go_enter Tryz.func23,Tryz.ntmps23
  go_wp2_with (first
   | (go_at_call 43;refine (HV.out _ hm.below).mono ?_;rintro e w' ⟨he,hb⟩;subst he;replace hm:=hm.call hb;clear hb)
   | ((with_reducible refine ae (some 5) (.alloc 76) ?_);refine ag _ aR hm ?_;clear hm;intro w1 g5 hm)
   | ((with_reducible refine ae none (.store 76 (.tmp 5) (.tmp 11)) ?_);refine ah 0 (plv (okPl e0 ks)) hm rfl rfl rfl 3 ax rfl rfl (aB _) ?_;clear hm;intro w2 hm))
  go_ret
  exact ⟨rfl,Or.inr ⟨h0,hm.below⟩⟩
end Go.Proofs.YtlpnafdkhoimhaaGreatDoor
