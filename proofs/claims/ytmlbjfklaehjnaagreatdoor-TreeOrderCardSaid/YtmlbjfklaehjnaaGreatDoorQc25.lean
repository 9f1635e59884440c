import Derived.RangeFuncNested
import Derived.RangeFuncWrites
import Derived.RangeFuncLeaves
import Derived.Shelf.Abstract
import Derived.WalkKit
import Derived.OwnWalkIn
import Derived.TacticsInMore
import Derived.LoopNIn
import Derived.LoopIn
import Derived.Sort.QuietTacIn
import Derived.Sort.BigQuietIn
import Derived.Test.YtmlbjfklaehjnaaGreatDoorQc19
set_option maxRecDepth 100000
set_option maxHeartbeats 4000000
namespace Go.Proofs.YtmlbjfklaehjnaaGreatDoor
open Go Go.RowKit Go.Maps Go.Shelf
attribute [local go_sem] Oper.semAt_some
theorem grown_drewN (W:World):∀q,W.grownBy (W.drewN q) none:=by
 intro q
 exact ⟨rfl,rfl,rfl,Nat.le_refl _,fun _ _ _=>rfl⟩
theorem wpq_exec {F:Fence} {n:Nat} {P:Program} {ops:Array Oper} {C:World→Prop} {Q:Act→Prop} {a:Act} {o:Oper} {rest:List Oper} (v:Value) (hg:o.guard=none) (ha:o.askedIn F P a C) (he:∀w,(execOp a.eval o).run P w=.ok (.value v) w)
  (h:wpQuietIn F n P ops C Q rest (a.put o.dst v)):wpQuietIn F n P ops C Q (o::rest) a :=
 ⟨ha,by rw [if_pos (by simp [Region.wanted,hg])];exact ⟨v,fun w _=>by unfold Oper.quietAtIn;rw [he w];exact ⟨rfl,rfl⟩,h⟩⟩
def upN (k:Nat):List Nat:=List.range k
theorem upN_succ (k:Nat):upN (k+1)=upN k++[k]:=by simp [upN,List.range_succ]
theorem ju (k:Nat):(upN k).length=k:=by simp [upN]
theorem chunk1_in (F:Fence) (n:Nat) (hf:F.fn 210) (hro:F.round=none) (hn:1≤n) (l b1 b2 b off N cap:Nat) (hcap:64 * N≤cap) (hN:N≤1000) (J Jx:List Nat→World→Prop) (hJd:∀s W q,J s W→J s (W.drewN q))
  (hY:∀pre x W,J pre W→pre.length<N→YieldAt F (n - 1) Tryz.prog l #[.slice (some ⟨b,off+64 * (min x (N - 1)),none⟩) 64 64] W fun e W' =>
   (e=.returned (.bool true)∧J (pre++[x]) W'∧W'.heap[b1]?=W.heap[b1]?∧W'.heap[b2]?=W.heap[b2]?)∨(e=.returned (.bool false)∧Jx (pre++[x]) W'))
  (W:World) (h1:W.cell? ⟨b1,0,none⟩=some (.slice (some ⟨b,off,none⟩) (64 * N) cap)) (h2:W.cell? ⟨b2,0,none⟩=some (.int .i64 64)) (h0:J [] W) :
  CallsIn F n Tryz.prog 210 #[.func (.yield l) #[] #[],.pointer (some ⟨b1,0,none⟩),.pointer (some ⟨b2,0,none⟩)] W fun e W'=>(∃v,e=.returned v) ∧
   ((∃ys,ys=upN N∧J ys W')∨(∃pre,(∃k,k≤N∧pre=upN k)∧Jx pre W')):=by
 refine callsIn_of_wp Tryz.func210 rfl hf ?_ hro
 simp only [Tryz.ntmps210,List.size_toArray,List.length_cons,List.length_nil,Nat.reduceAdd,Nat.reduceSub,Array.replicate_succ,Array.replicate_zero,List.push_toArray,List.append_toArray,List.nil_append,List.cons_append]
 gi_wp2
 gi_loopw [4] (fun i wr=>∃k:Nat,k≤N∧i=.int .i64 ((64 * k:Nat):Int)∧J (upN k) wr∧wr.cell? ⟨b1,0,none⟩=some (.slice (some ⟨b,off,none⟩) (64 * N) cap)∧wr.cell? ⟨b2,0,none⟩=some (.int .i64 64))
  (fun i _=>64 * N - (RowKit.intOf i).toNat)
 case atStart=>exact ⟨0,Nat.zero_le _,rfl,h0,h1,h2⟩
 case round =>
  obtain ⟨k,hk,rfl,hJs,hc1,hc2⟩:=hrel
  by_cases hlt:k<N
  ·gi_wp2
   refine wpIn_region_quiet_lit hro (by kernel_rfl) (by kernel_rfl) ?_
   repeat (quiet_step_in (fail))
   obtain ⟨m,hm⟩:∃m,m=64 * N - 64 * k:=⟨_,rfl⟩
   have hm64:64≤m:=by omega
   have hml:m≤64000:=by omega
   refine wpq_exec (.slice (some ⟨b,off+64 * k,none⟩) m (cap - 64 * k)) rfl (by quiet_asked_in) (fun W=>dI aq av (64 * k) m (by omega) (by omega) (by omega) rfl rfl (by omega)) ?_
   clear hm
   go_simp
   repeat (quiet_step_in (fail))
   rw [if_neg (show ¬(m:Int)<64 by omega)]
   refine wpQuietIn_nil ?_
   intro nq
   replace hJs:=hJd _ _ nq hJs
   obtain ⟨w2,hw2⟩:∃v,v=World.drewN wr nq:=⟨_,rfl⟩
   have hc1':w2.cell? ⟨b1,0,none⟩=some (.slice (some ⟨b,off,none⟩) (64 * N) cap):=by rw [hw2];exact hc1
   have hc2':w2.cell? ⟨b2,0,none⟩=some (.int .i64 64):=by rw [hw2];exact hc2
   rw [←hw2] at hJs ⊢
   clear hc1 hc2 hw2
   obtain ⟨fn,tmps,assign,body,hy,hR⟩:=hY _ k w2 hJs (by rw [ju];exact hlt)
   have hmin:min k (N - 1)=k:=by omega
   rw [hmin] at hy
   gi_wp2
   refine hR.mono ?_
   rintro e W3 (⟨rfl,hJ3,hk1,hk2⟩|⟨rfl,hJx3⟩)
   ·have hd1:W3.cell? ⟨b1,0,none⟩=some (.slice (some ⟨b,off,none⟩) (64 * N) cap):=by rw [World.cell?_of_block (w:=w2) (a:=⟨b1,0,none⟩) hk1];exact hc1'
    have hd2:W3.cell? ⟨b2,0,none⟩=some (.int .i64 64):=by rw [World.cell?_of_block (w:=w2) (a:=⟨b2,0,none⟩) hk2];exact hc2'
    gi_wp2
    go_roundw
    case rel=>exact ⟨k+1,by omega,by go_num,by rw [upN_succ];exact hJ3,hd1,hd2⟩
    case measure=>simp [RowKit.intOf];omega
   ·gi_wp2
    refine bodyPost_ret (results_none rfl _ _ _) rfl ?_
    exact ⟨⟨_,rfl⟩,.inr ⟨_,⟨k+1,by omega,(upN_succ _).symm⟩,hJx3⟩⟩
  ·obtain rfl:k=N:=by omega
   gi_wp2
   go_end0
   exact ⟨⟨_,rfl⟩,.inl ⟨_,rfl,hJs⟩⟩
theorem chunk_in (F:Fence) (n:Nat) (hf:F.fn 199) (hro:F.round=none) (p:Option Addr) (len cap:Nat) (w:World) :
  CallsIn F n Tryz.prog 199 #[.slice p len cap,.int .i64 64] w fun e w'=>e=.returned (.func (.func 210) #[] #[.pointer (some ⟨w.heap.size,0,none⟩),.pointer (some ⟨w.heap.size+1,0,none⟩)])∧w'=(w.alloc (.cells #[.slice p len cap] 54)).alloc (.cells #[.int .i64 64] 3):=by
 refine callsIn_of_wp Tryz.func199 rfl hf ?_ hro
 simp only [Tryz.ntmps199,List.size_toArray,List.length_cons,List.length_nil,Nat.reduceAdd,Nat.reduceSub,Array.replicate_succ,Array.replicate_zero,List.push_toArray,List.append_toArray,List.nil_append,List.cons_append]
 gi_wp2
 go_ret
 exact ⟨rfl,rfl⟩
def KpC (b1 b2:Nat) (W W':World):Prop:=W'.heap[b1]?=W.heap[b1]?∧W'.heap[b2]?=W.heap[b2]?
theorem chunk_stops (F:Fence) (n:Nat) (hf:F.fn 210) (hro:F.round=none) (hn:1≤n) (b1 b2 b off N cap:Nat) (hcap:64 * N≤cap) (hN:N≤1000) (w:World) (hb1:b1<w.heap.size) (hb2:b2<w.heap.size)
  (h1:w.cell? ⟨b1,0,none⟩=some (.slice (some ⟨b,off,none⟩) (64 * N) cap)) (h2:w.cell? ⟨b2,0,none⟩=some (.int .i64 64)) :
  SeqStopsK F n Tryz.prog 210 #[.pointer (some ⟨b1,0,none⟩),.pointer (some ⟨b2,0,none⟩)] (fun x:Nat=>#[Value.slice (some ⟨b,off+64 * (min x (N - 1)),none⟩) 64 64]) (KpC b1 b2) (fun ys=>ys=upN N) (fun pre=>∃k,k≤N∧pre=upN k) N w:=fun l J Jx W hW hJ _ hY h0=>by
 have h1':=(hW.cell (p:=⟨b1,0,none⟩) hb1).trans h1
 have h2':=(hW.cell (p:=⟨b2,0,none⟩) hb2).trans h2
 exact chunk1_in F n hf hro hn l b1 b2 b off N cap hcap hN J Jx (fun s V q hs=>hJ s V _ none hs (grown_drewN V q) (fun r e=>by cases e)) hY W h1' h2' h0
theorem KpC.trans {b1 b2:Nat} {A B C:World} (h:KpC b1 b2 A B) (k:KpC b1 b2 B C):KpC b1 b2 A C:=⟨k.1.trans h.1,k.2.trans h.2⟩
end Go.Proofs.YtmlbjfklaehjnaaGreatDoor
