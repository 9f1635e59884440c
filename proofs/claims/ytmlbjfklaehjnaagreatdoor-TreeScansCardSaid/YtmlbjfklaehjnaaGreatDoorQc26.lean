import Derived.RangeFuncNested
import Derived.RangeFuncWrites
import Derived.RangeFuncLeaves
import Derived.Shelf.Abstract
import Derived.WalkKit
import Derived.OwnWalkIn
import Derived.TacticsInMore
import Derived.LoopNIn
import Derived.LoopIn
import Derived.RangeFuncCalls
import Derived.Sort.QuietTacIn
import Derived.Sort.BigQuietIn
import Derived.Test.YtmlbjfklaehjnaaGreatDoorQc25
set_option maxRecDepth 100000
set_option maxHeartbeats 4000000
namespace Go.Proofs.YtmlbjfklaehjnaaGreatDoor
open Go Go.RowKit Go.Maps Go.Shelf
attribute [local go_sem] Oper.semAt_some
theorem lM {w:World} {g:Nat} {l:List Value} {t:TypeId} (h:Row w g l t) (i:Nat):w.frozen? ⟨g,i,none⟩=false:=by
 unfold Row at h
 simp [World.frozen?,h]
def wrN (f:Nat→List Int) (at_:Nat) (bs:List Int) (N:Nat) (pre:List Nat):Nat→List Int:=fun j=>if at_≤j∧j<at_+pre.length then (bs.drop (64 * min (pre.getD (j - at_) 0) (N - 1))).take 64 else f j
theorem wrN_nil (f:Nat→List Int) (at_:Nat) (bs:List Int) (N:Nat):wrN f at_ bs N []=f:=by
 funext j
 unfold wrN
 rw [if_neg (by simp)]
theorem wrN_snoc (f:Nat→List Int) (at_:Nat) (bs:List Int) (N:Nat) (pre:List Nat) (x:Nat):wrN f at_ bs N (pre++[x])=upf (wrN f at_ bs N pre) (at_+pre.length) ((bs.drop (64 * min x (N - 1))).take 64):=by
 funext j
 unfold wrN upf
 by_cases h:j=at_+pre.length
 ·subst h
  rw [if_pos (by simp),if_pos rfl,Nat.add_sub_cancel_left]
  simp
 ·rw [if_neg h]
  by_cases h2:at_≤j∧j<at_+pre.length
  ·show _=if at_≤j∧j<at_+pre.length then _ else _
   rw [if_pos (by simp;omega),if_pos h2,List.getD_eq_getElem?_getD,List.getD_eq_getElem?_getD,List.getElem?_append_left (by omega)]
  ·show _=if at_≤j∧j<at_+pre.length then _ else _
   rw [if_neg (by simp;omega),if_neg h2]
theorem wrN_all (f:Nat→List Int) (at_:Nat) (bs:List Int) (N:Nat):wrN f at_ bs N (upN N)=putSecs f at_ bs N:=by
 funext j
 unfold wrN putSecs
 rw [ju]
 by_cases h:at_≤j∧j<at_+N
 ·have e:(upN N).getD (j - at_) 0=j - at_:=by
   unfold upN
   rw [List.getD_eq_getElem?_getD,List.getElem?_range (by omega)]
   rfl
  rw [if_pos h,if_pos h,e,show min (j - at_) (N - 1)=j - at_ by omega]
 ·rw [if_neg h,if_neg h]
theorem over_full {old bs:List Int} (ho:old.length=64) (h:bs.length=64):over old bs=bs:=by
 unfold over
 rw [List.drop_of_length_le (by omega),List.append_nil]
theorem Dk.put_now (d:Dk) (i:Nat) (l:List Int):(d.put i l).now=upf d.now i l:=by
 funext j
 unfold Dk.now Dk.put upf
 by_cases h:j=i
 ·subst h;simp
 ·simp [h]
theorem jL (w:World) (v:Value) (t:TypeId):Row (w.alloc (.cells #[v] t)) w.heap.size [v] t:=heap_alloc_new w _
theorem d8 {w:World} {g:Nat} {l:List Value} {t:TypeId} (h:Row w g l t) (o:Obj):Row (w.alloc o) g l t:=(Below.heap_alloc w o g h.lt).trans h
theorem five_rows (w:World) (v0 v1 v2 v3 v4:Value) (t0 t1 t2 t3 t4:TypeId) :
  Row (((((w.alloc (.cells #[v0] t0)).alloc (.cells #[v1] t1)).alloc (.cells #[v2] t2)).alloc (.cells #[v3] t3)).alloc (.cells #[v4] t4)) w.heap.size [v0] t0
  ∧ Row (((((w.alloc (.cells #[v0] t0)).alloc (.cells #[v1] t1)).alloc (.cells #[v2] t2)).alloc (.cells #[v3] t3)).alloc (.cells #[v4] t4)) (w.heap.size+1) [v1] t1
  ∧ Row (((((w.alloc (.cells #[v0] t0)).alloc (.cells #[v1] t1)).alloc (.cells #[v2] t2)).alloc (.cells #[v3] t3)).alloc (.cells #[v4] t4)) (w.heap.size+1+1) [v2] t2
  ∧ Row (((((w.alloc (.cells #[v0] t0)).alloc (.cells #[v1] t1)).alloc (.cells #[v2] t2)).alloc (.cells #[v3] t3)).alloc (.cells #[v4] t4)) (w.heap.size+1+1+1) [v3] t3
  ∧ Row (((((w.alloc (.cells #[v0] t0)).alloc (.cells #[v1] t1)).alloc (.cells #[v2] t2)).alloc (.cells #[v3] t3)).alloc (.cells #[v4] t4)) (w.heap.size+1+1+1+1) [v4] t4:=by
 have a1:=jL (w.alloc (.cells #[v0] t0)) v1 t1
 have a2:=jL ((w.alloc (.cells #[v0] t0)).alloc (.cells #[v1] t1)) v2 t2
 have a3:=jL (((w.alloc (.cells #[v0] t0)).alloc (.cells #[v1] t1)).alloc (.cells #[v2] t2)) v3 t3
 have a4:=jL ((((w.alloc (.cells #[v0] t0)).alloc (.cells #[v1] t1)).alloc (.cells #[v2] t2)).alloc (.cells #[v3] t3)) v4 t4
 simp only [World.size_alloc] at a1 a2 a3 a4
 exact ⟨d8 (d8 (d8 (d8 (jL w v0 t0) _) _) _) _,d8 (d8 (d8 a1 _) _) _,d8 (d8 a2 _) _,d8 a3 _,a4⟩
theorem eK (W:World) (l:Nat) (o:Obj) (q:Nat) (h:q≠l):(W.putObj l o).heap[q]?=W.heap[q]?:=by
 have hg:=grownBy_putObj' W l o
 rcases Nat.lt_or_ge q W.heap.size with hq|hq
 ·exact hg.block q hq (by simpa using h)
 ·rw [Array.getElem?_eq_none (by simp [World.putObj];omega),Array.getElem?_eq_none (by omega)]
structure WrI (w:World) (g mb:Nat) (kv:Value) (d:Dk) (from_ N k:Nat) (bs:List Int) (pre:List Nat) (W:World):Prop where
 dk:∃dd,DkAt W g mb kv dd∧On dd (k+pre.length)∧dd.n=d.n∧dd.now=wrN d.now from_ bs N pre
 c0:Row W w.heap.size [.pointer (some ⟨g,0,none⟩)] 69
 c1:Row W (w.heap.size+1) [.int .i64 (from_+pre.length:Nat)] 3
 c2:Row W (w.heap.size+1+1) [.int .i64 0] 31
 upd:UpdS (foot g mb kv) w W
 sz:w.heap.size+5≤W.heap.size
theorem WrI.keep {w W W':World} {g mb:Nat} {kv:Value} {d:Dk} {from_ N k:Nat} {bs:List Int} {pre:List Nat} (h:WrI w g mb kv d from_ N k bs pre W) (hf:∀q∈foot g mb kv,q<w.heap.size) (hb:∀q,q<w.heap.size+3→W'.heap[q]?=W.heap[q]?) (hos:W'.os=W.os) (ht:W'.tape=W.tape) (hou:W'.output=W.output) (hsz:W.heap.size≤W'.heap.size):WrI w g mb kv d from_ N k bs pre W':=by
 obtain ⟨dd,h1,h2⟩:=h.dk
 refine ⟨⟨dd,h1.keep (fun q hq=>hb q (by have:=hf q hq;omega)),h2⟩,?_,?_,?_,⟨hos.trans h.upd.os,ht.trans h.upd.tape,hou.trans h.upd.output,Nat.le_trans h.upd.size hsz,fun q hq hn=>(hb q (by omega)).trans (h.upd.block q hq hn)⟩,Nat.le_trans h.sz hsz⟩
 ·unfold Row;rw [hb _ (by omega)];exact h.c0
 ·unfold Row;rw [hb _ (by omega)];exact h.c1
 ·unfold Row;rw [hb _ (by omega)];exact h.c2
theorem ln (n g mb:Nat) (kv:Value) (d:Dk) (from_ N k:Nat) (bs:List Int) (b off cap:Nat) (hbl:bs.length=64 * N) (hN:N≤16) (h0:0<N) (hcap:64 * N≤cap) (hf:from_+N≤d.n) (hon:On d k) (hk:k<10000000) (hbb:Bytes bs) (w:World) (hd:DkAt w g mb kv d) (hs:Seg w b off bs) (hb:b ∉ foot g mb kv) (hn:3≤n) :
  CallsIn Fence.wide n Tryz.prog 175 #[.pointer (some ⟨g,0,none⟩),.int .i64 (from_:Int),.slice (some ⟨b,off,none⟩) (64 * N) cap] w fun e w'=>e=.returned (.int .i64 0)∧(∃d',DkAt w' g mb kv d'∧On d' (k+N)∧d'.n=d.n∧d'.now=putSecs d.now from_ bs N)∧UpdS (foot g mb kv) w w':=by
 have h1:1≤n:=by omega
 have hdn:=hd.ok.n
 have hlt:=hd.lt
 have HD:Hid _:=hd
 have HS:Hid _:=hs
 have HON:Hid _:=hon
 have HBB:Hid _:=hbb
 clear hd hs hon hbb
 refine callsIn_of_wp_marks Tryz.func175 rfl trivial ?_ rfl
 simp only [Tryz.ntmps175,List.size_toArray,List.length_cons,List.length_nil,Nat.reduceAdd,Nat.reduceSub,Array.replicate_succ,Array.replicate_zero,List.push_toArray,List.append_toArray,List.nil_append,List.cons_append]
 gi_wp2_with (refine ⟨trivial,?_⟩;gi_at_call 199;refine (chunk_in Fence.wide (n - 1) trivial rfl _ _ _ _).mono ?_;rintro e w' ⟨rfl,rfl⟩)
 obtain ⟨WB,hWB⟩:∃V,V=((((w.alloc (.cells #[.pointer (some ⟨g,0,none⟩)] 69)).alloc (.cells #[.int .i64 (from_:Int)] 3)).alloc (.cells #[.int .i64 0] 31)).alloc (.cells #[.slice (some ⟨b,off,none⟩) (64 * N) cap] 54)).alloc (.cells #[.int .i64 64] 3):=⟨_,rfl⟩
 have hsz:WB.heap.size=w.heap.size+5:=by rw [hWB];simp
 have hBel:Below w.heap.size w WB:=by
  rw [hWB]
  exact (((((Below.refl _ w).alloc (Nat.le_refl _) _).alloc (by simp) _).alloc (by simp;omega) _).alloc (by simp;omega) _).alloc (by simp;omega) _
 have hrows:Row WB w.heap.size [.pointer (some ⟨g,0,none⟩)] 69∧Row WB (w.heap.size+1) [.int .i64 (from_:Int)] 3∧Row WB (w.heap.size+1+1) [.int .i64 0] 31∧Row WB (w.heap.size+1+1+1) [.slice (some ⟨b,off,none⟩) (64 * N) cap] 54∧Row WB (w.heap.size+1+1+1+1) [.int .i64 64] 3:=by
  rw [hWB]
  exact five_rows w _ _ _ _ _ _ _ _ _ _
 obtain ⟨r0,r1,r2,r3,r4⟩:=hrows
 rw [←hWB]
 clear hWB
 have hI0:WrI w g mb kv d from_ N k bs [] WB:=⟨⟨d,HD.out.below hBel,HON.out,rfl,(wrN_nil _ _ _ _).symm⟩,r0,r1,r2,UpdS.of_below hBel,by omega⟩
 have HI0:Hid _:=hI0
 refine wpIn_rangeFunc_ownG (F:=Fence.wide) rfl h1 (gf:=210) (lb:=#[.pointer (some ⟨w.heap.size+1+1+1,0,none⟩),.pointer (some ⟨w.heap.size+1+1+1+1,0,none⟩)]) rfl trivial (enters_of Tryz.func210 (by kernel_rfl) rfl)
  (chunk_stops Fence.wide (n - 1) trivial rfl (by omega) (w.heap.size+1+1+1) (w.heap.size+1+1+1+1) b off N cap hcap (by omega) WB (by omega) (by omega) ((r3.cell 0).trans rfl) ((r4.cell 0).trans rfl)) KpC.trans
  (fun W l o o' hl ho _ _=>⟨eK W l o' _ (by omega),eK W l o' _ (by omega)⟩) (Below.refl _ _) (fun _=>rfl)
  (fun pre W=>WrI w g mb kv d from_ N k bs pre W) (fun _ _ _=>False)
  (fun s A B row hs hg hr=>hs.keep hlt (fun q hq=>hg.block q (by have:=hs.c2.lt;omega) (fun e=>by have:=(hr q e.symm).1;omega)) hg.os hg.tape hg.output hg.size)
  (fun _ _ _ _ _ hs _ _=>hs) HI0.out
  (fun x=>{tmps:=#[.pointer (some ⟨g,0,none⟩),.int .i64 (from_:Int),.slice (some ⟨b,off,none⟩) (64 * N) cap,.pointer (some ⟨w.heap.size,0,none⟩),.pointer (some ⟨w.heap.size+1,0,none⟩),undef,.pointer (some ⟨w.heap.size+1+1,0,none⟩),(.slice (some ⟨b,off+64 * (min x (N - 1)),none⟩) 64 64),undef,.slice (some ⟨b,off,none⟩) (64 * N) cap,.func (.func 210) #[] #[.pointer (some ⟨w.heap.size+1+1+1,0,none⟩),.pointer (some ⟨w.heap.size+1+1+1+1,0,none⟩)],(.slice (some ⟨b,off+64 * (min x (N - 1)),none⟩) 64 64),undef,undef,undef,undef,undef,undef,undef,undef,undef],defers:=[]}) ?assign ?body ?done ?stop
 case assign =>
  intro l x W K hK
  gi_wp2
  exact hK
 case body =>
  rintro l pre x W hi hpl
  obtain ⟨dd,hdd,hon,hnn,hnow⟩:=hi.dk
  have hq:min x (N - 1)<N:=by omega
  obtain ⟨q,hqe⟩:∃q,q=min x (N - 1):=⟨_,rfl⟩
  rw [←hqe] at hq
  obtain ⟨cs,hcs⟩:∃cs,cs=(bs.drop (64 * q)).take 64:=⟨_,rfl⟩
  have hcl:cs.length=64:=by rw [hcs,List.length_take,List.length_drop,hbl];omega
  have hcb:Bytes cs:=by rw [hcs];exact (Bytes.drop HBB.out _).take _
  have hseg:Seg w b (off+64 * q) cs:=by
   intro j hj
   rw [hcs]
   have:=HS.out (64 * q+j) (by rw [hcl] at hj;omega)
   rw [Nat.add_assoc,this]
   congr 2
   rw [hcl] at hj
   simp [List.getD_eq_getElem?_getD,hj,List.getElem?_drop]
  have hsl:SlA W (foot g mb kv) (.slice (some ⟨b,off+64 * q,none⟩) 64 64) cs:=SlA.upd ⟨_,64,by rw [hcl],by rw [hcl];exact Nat.le_refl _,fun _=>⟨b,_,rfl,hb,hseg⟩⟩ hi.upd
  have c0:W.cell? ⟨w.heap.size,0,none⟩=some (.pointer (some ⟨g,0,none⟩)):=(hi.c0.cell 0).trans rfl
  have c1:W.cell? ⟨w.heap.size+1,0,none⟩=some (.int .i64 (from_+pre.length:Nat)):=(hi.c1.cell 0).trans rfl
  have hnf:∀z,w.heap.size≤z→z ∉ foot g mb kv:=fun z hz hh=>by have:=hlt z hh;omega
  have HI:Hid _:=hi
  have hw9:=lI g mb kv dd (from_+pre.length) cs (.slice (some ⟨b,off+64 * q,none⟩) 64 64) hon.step.off (by rw [hnn];omega) (by omega) hcb (hon.num (by omega)) W hdd hsl
  rw [Int.natCast_add] at hw9
  have HW:Hid _:=hw9
  have HDD:Hid _:=And.intro hdd (And.intro hon (And.intro hnn hnow))
  have HCS:Hid _:=And.intro hcs (And.intro hcl hqe)
  have hpl2:from_+pre.length<4000:=by omega
  rw [←hqe]
  clear hi hdd hon hnn hnow hcs hcl hcb hseg hsl hI0 hqe hw9
  gi_wp2_with (refine ⟨trivial,fun h=>(by cases h),?_⟩;gi_at_call 119;refine (CallsIn.inRound l (callsIn_wide.2 HW.out)).mono ?_;rintro e W1 ⟨rfl,hd1,hu1⟩;have r1':Row W1 (w.heap.size+1) [.int .i64 (from_+pre.length:Nat)] 3:=hu1.row HI.out.c1 (hnf _ (by omega));have c1':W1.cell? ⟨w.heap.size+1,0,none⟩=some (.int .i64 (from_+pre.length:Nat)):=(r1'.cell 0).trans rfl;have f1':=lM r1' 0;have HR1:Hid _:=r1';have HD1:Hid _:=hd1;have HU1:Hid _:=hu1;clear hd1 hu1 r1' HW)
  have hos:=HU1.out
  have hrr:∀z,z≠w.heap.size+1→(W1.setCell ⟨w.heap.size+1,0,none⟩ (.int .i64 ((from_:Int)+(pre.length:Int)+1))).heap[z]?=W1.heap[z]?:=fun z hz=>heap_setCell_other _ _ _ _ hz
  have hr1:Row (W1.setCell ⟨w.heap.size+1,0,none⟩ (.int .i64 ((from_:Int)+(pre.length:Int)+1))) (w.heap.size+1) [.int .i64 (from_+(pre++[x]).length:Nat)] 3:=by
   have h9:=heap_setCell_same W1 (w.heap.size+1) 0 _ _ (.int .i64 ((from_:Int)+(pre.length:Int)+1)) HR1.out
   unfold Row
   rw [h9]
   simp
   omega
  have hsz1:(W1.setCell ⟨w.heap.size+1,0,none⟩ (.int .i64 ((from_:Int)+(pre.length:Int)+1))).heap.size=W1.heap.size:=by simp
  have hW5:=HI.out.sz
  refine ⟨⟨by rw [hsz1];exact hos.size,fun z o hB hz _=>?_⟩,⟨?_,?_⟩,⟨?_,?_,hr1,?_,?_,?_⟩⟩
  ·rw [hrr z (by omega)]
   exact (hos.block z (Array.getElem?_eq_some_iff.1 hz).1 (hnf z (by omega))).trans hz
  ·rw [hrr _ (by omega)]
   exact hos.block _ (by omega) (hnf _ (by omega))
  ·rw [hrr _ (by omega)]
   exact hos.block _ (by omega) (hnf _ (by omega))
  ·refine ⟨_,HD1.out.keep (fun z hz=>hrr z (by have:=hlt z hz;omega)),((On.step HDD.out.2.1).put _ _).mono (by simp;omega),HDD.out.2.2.1,?_⟩
   rw [Dk.put_now,over_full (HDD.out.1.ok.now (by rw [HDD.out.2.2.1];omega)) HCS.out.2.1,wrN_snoc,←HDD.out.2.2.2,←HCS.out.2.2,←HCS.out.1]
   rfl
  ·unfold Row
   rw [hrr _ (by omega)]
   exact hos.row HI.out.c0 (hnf _ (by omega))
  ·unfold Row
   rw [hrr _ (by omega)]
   exact hos.row HI.out.c2 (hnf _ (by omega))
  ·have h8:=HI.out.upd.trans hos
   exact ⟨h8.os,h8.tape,h8.output,by rw [hsz1];exact h8.size,fun z hz hn=>(hrr z (by omega)).trans (h8.block z hz hn)⟩
  ·rw [hsz1]
   exact Nat.le_trans hW5 hos.size
 case done =>
  rintro D ys W hD rfl hi hK
  have c2:W.cell? ⟨w.heap.size+1+1,0,none⟩=some (.int .i64 0):=(hi.c2.cell 0).trans rfl
  have f2:=lM hi.c2 0
  gi_wp2
  have hK2:(W.setCell ⟨w.heap.size+1+1,0,none⟩ (.int .i64 0)).heap[D]?=some (.deferred (some [])):=(KeepsOthers.setCell _ _ _).same D _ hK rfl
  refine ⟨by simp,.inl ⟨_,_,rfl,run_takeDeferred hK2,?_⟩⟩
  obtain ⟨V,hV⟩:∃V,V=(W.setCell ⟨w.heap.size+1+1,0,none⟩ (.int .i64 0)).putObj D (.deferred none):=⟨_,rfl⟩
  have hne:∀z,z<w.heap.size+5→V.heap[z]?=(W.setCell ⟨w.heap.size+1+1,0,none⟩ (.int .i64 0)).heap[z]?:=fun z hz=>by rw [hV];exact eK _ _ _ _ (by omega)
  have hr2:Row V (w.heap.size+1+1) [.int .i64 0] 31:=by
   unfold Row
   rw [hne _ (by omega),heap_setCell_same W (w.heap.size+1+1) 0 _ _ (.int .i64 0) hi.c2]
   rfl
  have hoth:∀z,z<w.heap.size→V.heap[z]?=W.heap[z]?:=fun z hz=>(hne z (by omega)).trans (heap_setCell_other _ _ _ _ (by show z≠w.heap.size+1+1;omega))
  have hc9:V.cell? ⟨w.heap.size+1+1,0,none⟩=some (.int .i64 0):=(hr2.cell 0).trans rfl
  have hsz2:V.heap.size=W.heap.size:=by rw [hV];simp [World.putObj]
  have hos2:V.os=W.os∧V.tape=W.tape∧V.output=W.output:=by rw [hV];exact ⟨rfl,rfl,rfl⟩
  rw [←hV]
  refine ⟨.int .i64 0,?_,rfl,?_,?_⟩
  ·have hld:(loadVar 31 ⟨w.heap.size+1+1,0,none⟩).run Tryz.prog V=.ok (.int .i64 0) V:=by simp [loadVar,go_sem,hc9]
   simp [results,Tryz.results175,asAddr,hld]
  ·obtain ⟨dd,hdd,hon,hnn,hnow⟩:=hi.dk
   rw [ju] at hon
   exact ⟨dd,hdd.keep (fun z hz=>hoth z (hlt z hz)),hon,hnn,by rw [hnow,wrN_all]⟩
  ·exact ⟨hos2.1.trans hi.upd.os,hos2.2.1.trans hi.upd.tape,hos2.2.2.trans hi.upd.output,by rw [hsz2];exact hi.upd.size,fun z hz hn=>(hoth z hz).trans (hi.upd.block z hz hn)⟩
 case stop =>
  rintro D c pre W _ _ h _
  exact h.elim
theorem kr (g mb:Nat) (kv:Value) (d:Dk) (from_ N k:Nat) (bs:List Int) (b off cap:Nat) (hbl:bs.length=64 * N) (hN:N≤16) (h0:0<N) (hcap:64 * N≤cap) (hf:from_+N≤d.n) (hon:On d k) (hk:k<10000000) (hbb:Bytes bs) (w:World) (hd:DkAt w g mb kv d) (hs:Seg w b off bs) (hb:b ∉ foot g mb kv) :
  Calls Tryz.prog 175 #[.pointer (some ⟨g,0,none⟩),.int .i64 (from_:Int),.slice (some ⟨b,off,none⟩) (64 * N) cap] w fun e w'=>e=.returned (.int .i64 0)∧(∃d',DkAt w' g mb kv d'∧On d' (k+N)∧d'.n=d.n∧d'.now=putSecs d.now from_ bs N)∧UpdS (foot g mb kv) w w' :=
 (callsIn_wide (n:=3)).1 (ln 3 g mb kv d from_ N k bs b off cap hbl hN h0 hcap hf hon hk hbb w hd hs hb (Nat.le_refl _))
end Go.Proofs.YtmlbjfklaehjnaaGreatDoor
