import Derived.Test.YtmlbjfklaehjnaaGreatDoorQc15
set_option maxRecDepth 100000
set_option maxHeartbeats 4000000
namespace Go.Proofs.YtmlbjfklaehjnaaGreatDoor
open Go Go.RowKit Go.Maps
structure Bk where
 l:Int
 v:Bool
 r:Int
 s:ByteArray
 m:Option Nat
def blC (b:Bk):List Value:=[.int .u64 b.l,.bool b.v,.int .u32 b.r,.string b.s,.map b.m]
def b2C (b c:Bk):List Value:=[.int .u64 b.l,.bool b.v,.int .u32 b.r,.string b.s,.map b.m,.int .u64 c.l,.bool c.v,.int .u32 c.r,.string c.s,.map c.m]
def grC (a:Value) (b c:Bk):List Value:=a::b2C b c
theorem b9:Tryz.prog.underlying 121=some (.array 2 120):=Tryz.underlying121
theorem jT:(Tryz.prog.info? 121).map (·.size)=some 10:=by kernel_rfl
theorem aN:(Tryz.prog.info? 120).map (·.size)=some 5:=by kernel_rfl
theorem un_blk:∃fs,Tryz.prog.underlying 120=some (.struct fs):=⟨_,Tryz.underlying120⟩
theorem bH:(Tryz.prog.info? 123).map (·.size)=some 11:=by kernel_rfl
theorem cM:∃fs,Tryz.prog.underlying 123=some (.struct fs):=⟨_,Tryz.underlying123⟩
theorem cE:∀w,(isAgg 120).run Tryz.prog w=.ok true w:=by intro w;simp [go_sem]
def bk0:Bk:=⟨0,false,0,{data:=#[]},none⟩
theorem info_blk:(Tryz.prog.info? 120).map (fun i=>(i.zero,i.size))=some (some (.agg (blC bk0).toArray),5):=by kernel_rfl
theorem bg:∀w,(zeroValue 120).run Tryz.prog w=.ok (.agg (blC bk0).toArray) w:=(zero_of_info info_blk).1
theorem info_grd:(Tryz.prog.info? 123).map (fun i=>(i.zero,i.size))=some (some (.agg (grC (.slice none 0 0) bk0 bk0).toArray),11):=by kernel_rfl
theorem eU:∀w,(zeroValue 123).run Tryz.prog w=.ok (.agg (grC (.slice none 0 0) bk0 bk0).toArray) w:=(zero_of_info info_grd).1
theorem bz (b:Bk):∀v∈blC b,v.oneCell'=true:=fun v hv=>by
 simp only [blC,List.mem_cons,List.not_mem_nil,or_false] at hv
 rcases hv with rfl|rfl|rfl|rfl|rfl<;>rfl
theorem fP (p:Option Addr) (n c:Nat) (b b':Bk):∀v∈grC (.slice p n c) b b',v.oneCell'=true:=fun v hv=>by
 simp only [grC,b2C,List.mem_cons,List.not_mem_nil,or_false] at hv
 rcases hv with rfl|rfl|rfl|rfl|rfl|rfl|rfl|rfl|rfl|rfl|rfl<;>rfl
theorem newest_tt1 (a:Value) (l0 l1 r0 r1:Int) (s0 s1:ByteArray) (m0 m1:Option Nat) (hlt:l0<l1) (w:World) :
  Calls Tryz.prog 114 #[.agg (grC a (Bk.mk l0 true r0 s0 m0) (Bk.mk l1 true r1 s1 m1)).toArray] w fun e w'=>e=.returned (.int .i64 (1))∧Below w.heap.size w w':=by
 have hm:=Mem.start w
 go_enter Tryz.func114,Tryz.ntmps114
 go_wp2_with (first
  | ((with_reducible refine aa (some 1) (.box 123 (.tmp 0)) ?_);refine ak (grC a (Bk.mk l0 true r0 s0 m0) (Bk.mk l1 true r1 s1 m1)) rfl hm ?_;clear hm;intro w1 gx hm)
  | ((with_reducible refine aa (some 7) (.load 121 (.tmp 6)) ?_);refine dp 0 1 (b2C (Bk.mk l0 true r0 s0 m0) (Bk.mk l1 true r1 s1 m1)) hm rfl rfl _ b9 rfl 10 jT (by simp [grC,b2C]) (rfl) ?_))
 refine wp_loop_rounds 3 ?_
 rw [rounds_succ]
 go_wp2_with (first
  | ((with_reducible refine aa (some 11) (.index 121 (.tmp 7) (.tmp 8)) ?_);go_must (refine bJ 2 b9 5 aN cE (b2C (Bk.mk l0 true r0 s0 m0) (Bk.mk l1 true r1 s1 m1)) (blC (Bk.mk l0 true r0 s0 m0)) 0 (by omega) rfl rfl (by first|rfl|omega) rfl ?_))
  | ((with_reducible refine aa (some 5) (.alloc 120) ?_);refine af _ bg hm ?_;clear hm;intro wa0 gb0 hm)
  | ((with_reducible refine aa none (.store 120 (.tmp 5) (.tmp 11)) ?_);refine ag 0 (blC (Bk.mk l0 true r0 s0 m0)) hm rfl rfl rfl 5 aN rfl rfl (bz _) ?_;clear hm;intro wb0 hm))
 have ca0:wb0.cell? ⟨gb0,0,none⟩=some (.int .u64 l0):=((hm.get 0 rfl).cell 0).trans rfl
 have cb0:wb0.cell? ⟨gb0,1,none⟩=some (.bool true):=((hm.get 0 rfl).cell 1).trans rfl
 have cc0:wb0.cell? ⟨gx,1,none⟩=some (.int .u64 l0):=((hm.get 1 rfl).cell 1).trans rfl
 have cd0:wb0.cell? ⟨gx,6,none⟩=some (.int .u64 l1):=((hm.get 1 rfl).cell 6).trans rfl
 go_quiet (fail)
 obtain ⟨wc0,hwc⟩:∃v,v=World.drewN wb0 nq:=⟨_,rfl⟩
 replace hm:=Mem.drewN hm nq
 rw [←hwc] at hm ⊢
 clear hwc ca0 cb0 cc0 cd0
 go_wp2_with fail
 rw [rounds_succ]
 go_wp2_with (first
  | ((with_reducible refine aa (some 11) (.index 121 (.tmp 7) (.tmp 8)) ?_);go_must (refine bJ 2 b9 5 aN cE (b2C (Bk.mk l0 true r0 s0 m0) (Bk.mk l1 true r1 s1 m1)) (blC (Bk.mk l1 true r1 s1 m1)) 1 (by omega) rfl rfl (by first|rfl|omega) rfl ?_))
  | ((with_reducible refine aa (some 5) (.alloc 120) ?_);refine af _ bg hm ?_;clear hm;intro wa1 gb1 hm)
  | ((with_reducible refine aa none (.store 120 (.tmp 5) (.tmp 11)) ?_);refine ag 0 (blC (Bk.mk l1 true r1 s1 m1)) hm rfl rfl rfl 5 aN rfl rfl (bz _) ?_;clear hm;intro wb1 hm))
 have ca1:wb1.cell? ⟨gb1,0,none⟩=some (.int .u64 l1):=((hm.get 0 rfl).cell 0).trans rfl
 have cb1:wb1.cell? ⟨gb1,1,none⟩=some (.bool true):=((hm.get 0 rfl).cell 1).trans rfl
 have cc1:wb1.cell? ⟨gx,1,none⟩=some (.int .u64 l0):=((hm.get 2 rfl).cell 1).trans rfl
 have cd1:wb1.cell? ⟨gx,6,none⟩=some (.int .u64 l1):=((hm.get 2 rfl).cell 6).trans rfl
 go_quiet (fail)
 obtain ⟨wc1,hwc⟩:∃v,v=World.drewN wb1 nq:=⟨_,rfl⟩
 replace hm:=Mem.drewN hm nq
 rw [←hwc] at hm ⊢
 clear hwc ca1 cb1 cc1 cd1
 go_wp2_with fail
 rw [rounds_succ]
 go_wp2_with fail
 go_ret
 exact ⟨rfl,hm.below⟩
theorem newest_tt0 (a:Value) (l0 l1 r0 r1:Int) (s0 s1:ByteArray) (m0 m1:Option Nat) (hlt:¬l0<l1) (w:World) :
  Calls Tryz.prog 114 #[.agg (grC a (Bk.mk l0 true r0 s0 m0) (Bk.mk l1 true r1 s1 m1)).toArray] w fun e w'=>e=.returned (.int .i64 (0))∧Below w.heap.size w w':=by
 have hm:=Mem.start w
 go_enter Tryz.func114,Tryz.ntmps114
 go_wp2_with (first
  | ((with_reducible refine aa (some 1) (.box 123 (.tmp 0)) ?_);refine ak (grC a (Bk.mk l0 true r0 s0 m0) (Bk.mk l1 true r1 s1 m1)) rfl hm ?_;clear hm;intro w1 gx hm)
  | ((with_reducible refine aa (some 7) (.load 121 (.tmp 6)) ?_);refine dp 0 1 (b2C (Bk.mk l0 true r0 s0 m0) (Bk.mk l1 true r1 s1 m1)) hm rfl rfl _ b9 rfl 10 jT (by simp [grC,b2C]) (rfl) ?_))
 refine wp_loop_rounds 3 ?_
 rw [rounds_succ]
 go_wp2_with (first
  | ((with_reducible refine aa (some 11) (.index 121 (.tmp 7) (.tmp 8)) ?_);go_must (refine bJ 2 b9 5 aN cE (b2C (Bk.mk l0 true r0 s0 m0) (Bk.mk l1 true r1 s1 m1)) (blC (Bk.mk l0 true r0 s0 m0)) 0 (by omega) rfl rfl (by first|rfl|omega) rfl ?_))
  | ((with_reducible refine aa (some 5) (.alloc 120) ?_);refine af _ bg hm ?_;clear hm;intro wa0 gb0 hm)
  | ((with_reducible refine aa none (.store 120 (.tmp 5) (.tmp 11)) ?_);refine ag 0 (blC (Bk.mk l0 true r0 s0 m0)) hm rfl rfl rfl 5 aN rfl rfl (bz _) ?_;clear hm;intro wb0 hm))
 have ca0:wb0.cell? ⟨gb0,0,none⟩=some (.int .u64 l0):=((hm.get 0 rfl).cell 0).trans rfl
 have cb0:wb0.cell? ⟨gb0,1,none⟩=some (.bool true):=((hm.get 0 rfl).cell 1).trans rfl
 have cc0:wb0.cell? ⟨gx,1,none⟩=some (.int .u64 l0):=((hm.get 1 rfl).cell 1).trans rfl
 have cd0:wb0.cell? ⟨gx,6,none⟩=some (.int .u64 l1):=((hm.get 1 rfl).cell 6).trans rfl
 go_quiet (fail)
 obtain ⟨wc0,hwc⟩:∃v,v=World.drewN wb0 nq:=⟨_,rfl⟩
 replace hm:=Mem.drewN hm nq
 rw [←hwc] at hm ⊢
 clear hwc ca0 cb0 cc0 cd0
 go_wp2_with fail
 rw [rounds_succ]
 go_wp2_with (first
  | ((with_reducible refine aa (some 11) (.index 121 (.tmp 7) (.tmp 8)) ?_);go_must (refine bJ 2 b9 5 aN cE (b2C (Bk.mk l0 true r0 s0 m0) (Bk.mk l1 true r1 s1 m1)) (blC (Bk.mk l1 true r1 s1 m1)) 1 (by omega) rfl rfl (by first|rfl|omega) rfl ?_))
  | ((with_reducible refine aa (some 5) (.alloc 120) ?_);refine af _ bg hm ?_;clear hm;intro wa1 gb1 hm)
  | ((with_reducible refine aa none (.store 120 (.tmp 5) (.tmp 11)) ?_);refine ag 0 (blC (Bk.mk l1 true r1 s1 m1)) hm rfl rfl rfl 5 aN rfl rfl (bz _) ?_;clear hm;intro wb1 hm))
 have ca1:wb1.cell? ⟨gb1,0,none⟩=some (.int .u64 l1):=((hm.get 0 rfl).cell 0).trans rfl
 have cb1:wb1.cell? ⟨gb1,1,none⟩=some (.bool true):=((hm.get 0 rfl).cell 1).trans rfl
 have cc1:wb1.cell? ⟨gx,1,none⟩=some (.int .u64 l0):=((hm.get 2 rfl).cell 1).trans rfl
 have cd1:wb1.cell? ⟨gx,6,none⟩=some (.int .u64 l1):=((hm.get 2 rfl).cell 6).trans rfl
 go_quiet (fail)
 obtain ⟨wc1,hwc⟩:∃v,v=World.drewN wb1 nq:=⟨_,rfl⟩
 replace hm:=Mem.drewN hm nq
 rw [←hwc] at hm ⊢
 clear hwc ca1 cb1 cc1 cd1
 go_wp2_with fail
 rw [rounds_succ]
 go_wp2_with fail
 go_ret
 exact ⟨rfl,hm.below⟩
theorem newest_tf (a:Value) (l0 l1 r0 r1:Int) (s0 s1:ByteArray) (m0 m1:Option Nat) (w:World) :
  Calls Tryz.prog 114 #[.agg (grC a (Bk.mk l0 true r0 s0 m0) (Bk.mk l1 false r1 s1 m1)).toArray] w fun e w'=>e=.returned (.int .i64 (0))∧Below w.heap.size w w':=by
 have hm:=Mem.start w
 go_enter Tryz.func114,Tryz.ntmps114
 go_wp2_with (first
  | ((with_reducible refine aa (some 1) (.box 123 (.tmp 0)) ?_);refine ak (grC a (Bk.mk l0 true r0 s0 m0) (Bk.mk l1 false r1 s1 m1)) rfl hm ?_;clear hm;intro w1 gx hm)
  | ((with_reducible refine aa (some 7) (.load 121 (.tmp 6)) ?_);refine dp 0 1 (b2C (Bk.mk l0 true r0 s0 m0) (Bk.mk l1 false r1 s1 m1)) hm rfl rfl _ b9 rfl 10 jT (by simp [grC,b2C]) (rfl) ?_))
 refine wp_loop_rounds 3 ?_
 rw [rounds_succ]
 go_wp2_with (first
  | ((with_reducible refine aa (some 11) (.index 121 (.tmp 7) (.tmp 8)) ?_);go_must (refine bJ 2 b9 5 aN cE (b2C (Bk.mk l0 true r0 s0 m0) (Bk.mk l1 false r1 s1 m1)) (blC (Bk.mk l0 true r0 s0 m0)) 0 (by omega) rfl rfl (by first|rfl|omega) rfl ?_))
  | ((with_reducible refine aa (some 5) (.alloc 120) ?_);refine af _ bg hm ?_;clear hm;intro wa0 gb0 hm)
  | ((with_reducible refine aa none (.store 120 (.tmp 5) (.tmp 11)) ?_);refine ag 0 (blC (Bk.mk l0 true r0 s0 m0)) hm rfl rfl rfl 5 aN rfl rfl (bz _) ?_;clear hm;intro wb0 hm))
 have ca0:wb0.cell? ⟨gb0,0,none⟩=some (.int .u64 l0):=((hm.get 0 rfl).cell 0).trans rfl
 have cb0:wb0.cell? ⟨gb0,1,none⟩=some (.bool true):=((hm.get 0 rfl).cell 1).trans rfl
 have cc0:wb0.cell? ⟨gx,1,none⟩=some (.int .u64 l0):=((hm.get 1 rfl).cell 1).trans rfl
 have cd0:wb0.cell? ⟨gx,6,none⟩=some (.int .u64 l1):=((hm.get 1 rfl).cell 6).trans rfl
 go_quiet (fail)
 obtain ⟨wc0,hwc⟩:∃v,v=World.drewN wb0 nq:=⟨_,rfl⟩
 replace hm:=Mem.drewN hm nq
 rw [←hwc] at hm ⊢
 clear hwc ca0 cb0 cc0 cd0
 go_wp2_with fail
 rw [rounds_succ]
 go_wp2_with (first
  | ((with_reducible refine aa (some 11) (.index 121 (.tmp 7) (.tmp 8)) ?_);go_must (refine bJ 2 b9 5 aN cE (b2C (Bk.mk l0 true r0 s0 m0) (Bk.mk l1 false r1 s1 m1)) (blC (Bk.mk l1 false r1 s1 m1)) 1 (by omega) rfl rfl (by first|rfl|omega) rfl ?_))
  | ((with_reducible refine aa (some 5) (.alloc 120) ?_);refine af _ bg hm ?_;clear hm;intro wa1 gb1 hm)
  | ((with_reducible refine aa none (.store 120 (.tmp 5) (.tmp 11)) ?_);refine ag 0 (blC (Bk.mk l1 false r1 s1 m1)) hm rfl rfl rfl 5 aN rfl rfl (bz _) ?_;clear hm;intro wb1 hm))
 have ca1:wb1.cell? ⟨gb1,0,none⟩=some (.int .u64 l1):=((hm.get 0 rfl).cell 0).trans rfl
 have cb1:wb1.cell? ⟨gb1,1,none⟩=some (.bool false):=((hm.get 0 rfl).cell 1).trans rfl
 have cc1:wb1.cell? ⟨gx,1,none⟩=some (.int .u64 l0):=((hm.get 2 rfl).cell 1).trans rfl
 have cd1:wb1.cell? ⟨gx,6,none⟩=some (.int .u64 l1):=((hm.get 2 rfl).cell 6).trans rfl
 go_quiet (fail)
 obtain ⟨wc1,hwc⟩:∃v,v=World.drewN wb1 nq:=⟨_,rfl⟩
 replace hm:=Mem.drewN hm nq
 rw [←hwc] at hm ⊢
 clear hwc ca1 cb1 cc1 cd1
 go_wp2_with fail
 rw [rounds_succ]
 go_wp2_with fail
 go_ret
 exact ⟨rfl,hm.below⟩
theorem newest_ft (a:Value) (l0 l1 r0 r1:Int) (s0 s1:ByteArray) (m0 m1:Option Nat) (w:World) :
  Calls Tryz.prog 114 #[.agg (grC a (Bk.mk l0 false r0 s0 m0) (Bk.mk l1 true r1 s1 m1)).toArray] w fun e w'=>e=.returned (.int .i64 (1))∧Below w.heap.size w w':=by
 have hm:=Mem.start w
 go_enter Tryz.func114,Tryz.ntmps114
 go_wp2_with (first
  | ((with_reducible refine aa (some 1) (.box 123 (.tmp 0)) ?_);refine ak (grC a (Bk.mk l0 false r0 s0 m0) (Bk.mk l1 true r1 s1 m1)) rfl hm ?_;clear hm;intro w1 gx hm)
  | ((with_reducible refine aa (some 7) (.load 121 (.tmp 6)) ?_);refine dp 0 1 (b2C (Bk.mk l0 false r0 s0 m0) (Bk.mk l1 true r1 s1 m1)) hm rfl rfl _ b9 rfl 10 jT (by simp [grC,b2C]) (rfl) ?_))
 refine wp_loop_rounds 3 ?_
 rw [rounds_succ]
 go_wp2_with (first
  | ((with_reducible refine aa (some 11) (.index 121 (.tmp 7) (.tmp 8)) ?_);go_must (refine bJ 2 b9 5 aN cE (b2C (Bk.mk l0 false r0 s0 m0) (Bk.mk l1 true r1 s1 m1)) (blC (Bk.mk l0 false r0 s0 m0)) 0 (by omega) rfl rfl (by first|rfl|omega) rfl ?_))
  | ((with_reducible refine aa (some 5) (.alloc 120) ?_);refine af _ bg hm ?_;clear hm;intro wa0 gb0 hm)
  | ((with_reducible refine aa none (.store 120 (.tmp 5) (.tmp 11)) ?_);refine ag 0 (blC (Bk.mk l0 false r0 s0 m0)) hm rfl rfl rfl 5 aN rfl rfl (bz _) ?_;clear hm;intro wb0 hm))
 have ca0:wb0.cell? ⟨gb0,0,none⟩=some (.int .u64 l0):=((hm.get 0 rfl).cell 0).trans rfl
 have cb0:wb0.cell? ⟨gb0,1,none⟩=some (.bool false):=((hm.get 0 rfl).cell 1).trans rfl
 have cc0:wb0.cell? ⟨gx,1,none⟩=some (.int .u64 l0):=((hm.get 1 rfl).cell 1).trans rfl
 have cd0:wb0.cell? ⟨gx,6,none⟩=some (.int .u64 l1):=((hm.get 1 rfl).cell 6).trans rfl
 go_quiet (fail)
 obtain ⟨wc0,hwc⟩:∃v,v=World.drewN wb0 nq:=⟨_,rfl⟩
 replace hm:=Mem.drewN hm nq
 rw [←hwc] at hm ⊢
 clear hwc ca0 cb0 cc0 cd0
 go_wp2_with fail
 rw [rounds_succ]
 go_wp2_with (first
  | ((with_reducible refine aa (some 11) (.index 121 (.tmp 7) (.tmp 8)) ?_);go_must (refine bJ 2 b9 5 aN cE (b2C (Bk.mk l0 false r0 s0 m0) (Bk.mk l1 true r1 s1 m1)) (blC (Bk.mk l1 true r1 s1 m1)) 1 (by omega) rfl rfl (by first|rfl|omega) rfl ?_))
  | ((with_reducible refine aa (some 5) (.alloc 120) ?_);refine af _ bg hm ?_;clear hm;intro wa1 gb1 hm)
  | ((with_reducible refine aa none (.store 120 (.tmp 5) (.tmp 11)) ?_);refine ag 0 (blC (Bk.mk l1 true r1 s1 m1)) hm rfl rfl rfl 5 aN rfl rfl (bz _) ?_;clear hm;intro wb1 hm))
 have ca1:wb1.cell? ⟨gb1,0,none⟩=some (.int .u64 l1):=((hm.get 0 rfl).cell 0).trans rfl
 have cb1:wb1.cell? ⟨gb1,1,none⟩=some (.bool true):=((hm.get 0 rfl).cell 1).trans rfl
 have cc1:wb1.cell? ⟨gx,1,none⟩=some (.int .u64 l0):=((hm.get 2 rfl).cell 1).trans rfl
 have cd1:wb1.cell? ⟨gx,6,none⟩=some (.int .u64 l1):=((hm.get 2 rfl).cell 6).trans rfl
 go_quiet (fail)
 obtain ⟨wc1,hwc⟩:∃v,v=World.drewN wb1 nq:=⟨_,rfl⟩
 replace hm:=Mem.drewN hm nq
 rw [←hwc] at hm ⊢
 clear hwc ca1 cb1 cc1 cd1
 go_wp2_with fail
 rw [rounds_succ]
 go_wp2_with fail
 go_ret
 exact ⟨rfl,hm.below⟩
theorem newest_ff (a:Value) (l0 l1 r0 r1:Int) (s0 s1:ByteArray) (m0 m1:Option Nat) (w:World) :
  Calls Tryz.prog 114 #[.agg (grC a (Bk.mk l0 false r0 s0 m0) (Bk.mk l1 false r1 s1 m1)).toArray] w fun e w'=>e=.returned (.int .i64 (-1))∧Below w.heap.size w w':=by
 have hm:=Mem.start w
 go_enter Tryz.func114,Tryz.ntmps114
 go_wp2_with (first
  | ((with_reducible refine aa (some 1) (.box 123 (.tmp 0)) ?_);refine ak (grC a (Bk.mk l0 false r0 s0 m0) (Bk.mk l1 false r1 s1 m1)) rfl hm ?_;clear hm;intro w1 gx hm)
  | ((with_reducible refine aa (some 7) (.load 121 (.tmp 6)) ?_);refine dp 0 1 (b2C (Bk.mk l0 false r0 s0 m0) (Bk.mk l1 false r1 s1 m1)) hm rfl rfl _ b9 rfl 10 jT (by simp [grC,b2C]) (rfl) ?_))
 refine wp_loop_rounds 3 ?_
 rw [rounds_succ]
 go_wp2_with (first
  | ((with_reducible refine aa (some 11) (.index 121 (.tmp 7) (.tmp 8)) ?_);go_must (refine bJ 2 b9 5 aN cE (b2C (Bk.mk l0 false r0 s0 m0) (Bk.mk l1 false r1 s1 m1)) (blC (Bk.mk l0 false r0 s0 m0)) 0 (by omega) rfl rfl (by first|rfl|omega) rfl ?_))
  | ((with_reducible refine aa (some 5) (.alloc 120) ?_);refine af _ bg hm ?_;clear hm;intro wa0 gb0 hm)
  | ((with_reducible refine aa none (.store 120 (.tmp 5) (.tmp 11)) ?_);refine ag 0 (blC (Bk.mk l0 false r0 s0 m0)) hm rfl rfl rfl 5 aN rfl rfl (bz _) ?_;clear hm;intro wb0 hm))
 have ca0:wb0.cell? ⟨gb0,0,none⟩=some (.int .u64 l0):=((hm.get 0 rfl).cell 0).trans rfl
 have cb0:wb0.cell? ⟨gb0,1,none⟩=some (.bool false):=((hm.get 0 rfl).cell 1).trans rfl
 have cc0:wb0.cell? ⟨gx,1,none⟩=some (.int .u64 l0):=((hm.get 1 rfl).cell 1).trans rfl
 have cd0:wb0.cell? ⟨gx,6,none⟩=some (.int .u64 l1):=((hm.get 1 rfl).cell 6).trans rfl
 go_quiet (fail)
 obtain ⟨wc0,hwc⟩:∃v,v=World.drewN wb0 nq:=⟨_,rfl⟩
 replace hm:=Mem.drewN hm nq
 rw [←hwc] at hm ⊢
 clear hwc ca0 cb0 cc0 cd0
 go_wp2_with fail
 rw [rounds_succ]
 go_wp2_with (first
  | ((with_reducible refine aa (some 11) (.index 121 (.tmp 7) (.tmp 8)) ?_);go_must (refine bJ 2 b9 5 aN cE (b2C (Bk.mk l0 false r0 s0 m0) (Bk.mk l1 false r1 s1 m1)) (blC (Bk.mk l1 false r1 s1 m1)) 1 (by omega) rfl rfl (by first|rfl|omega) rfl ?_))
  | ((with_reducible refine aa (some 5) (.alloc 120) ?_);refine af _ bg hm ?_;clear hm;intro wa1 gb1 hm)
  | ((with_reducible refine aa none (.store 120 (.tmp 5) (.tmp 11)) ?_);refine ag 0 (blC (Bk.mk l1 false r1 s1 m1)) hm rfl rfl rfl 5 aN rfl rfl (bz _) ?_;clear hm;intro wb1 hm))
 have ca1:wb1.cell? ⟨gb1,0,none⟩=some (.int .u64 l1):=((hm.get 0 rfl).cell 0).trans rfl
 have cb1:wb1.cell? ⟨gb1,1,none⟩=some (.bool false):=((hm.get 0 rfl).cell 1).trans rfl
 have cc1:wb1.cell? ⟨gx,1,none⟩=some (.int .u64 l0):=((hm.get 2 rfl).cell 1).trans rfl
 have cd1:wb1.cell? ⟨gx,6,none⟩=some (.int .u64 l1):=((hm.get 2 rfl).cell 6).trans rfl
 go_quiet (fail)
 obtain ⟨wc1,hwc⟩:∃v,v=World.drewN wb1 nq:=⟨_,rfl⟩
 replace hm:=Mem.drewN hm nq
 rw [←hwc] at hm ⊢
 clear hwc ca1 cb1 cc1 cd1
 go_wp2_with fail
 rw [rounds_succ]
 go_wp2_with fail
 go_ret
 exact ⟨rfl,hm.below⟩
theorem dv (a:Value) (b c:Bk) (w:World) :
  Calls Tryz.prog 114 #[.agg (grC a b c).toArray] w fun e w'=>e=.returned (.int .i64 (newN b.v c.v b.l c.l))∧Below w.heap.size w w':=by
 obtain ⟨l0,v0,r0,s0,m0⟩:=b
 obtain ⟨l1,v1,r1,s1,m1⟩:=c
 unfold newN
 cases v0<;>cases v1
 ·exact newest_ff a l0 l1 r0 r1 s0 s1 m0 m1 w
 ·exact newest_ft a l0 l1 r0 r1 s0 s1 m0 m1 w
 ·simp only [Bool.false_eq_true,false_and,if_false,if_true]
  exact newest_tf a l0 l1 r0 r1 s0 s1 m0 m1 w
 ·by_cases h:l0<l1
  ·simp only [h,and_self,if_true]
   exact newest_tt1 a l0 l1 r0 r1 s0 s1 m0 m1 h w
  ·simp only [h,and_false,if_true,if_false]
   exact newest_tt0 a l0 l1 r0 r1 s0 s1 m0 m1 h w
theorem next_hit0 (a:Value) (b c:Bk) (hnew:newN b.v c.v b.l c.l=0) (w:World) :
  Calls Tryz.prog 75 #[.agg (grC a b c).toArray] w fun e w'=>e=.returned (.tuple #[.int .i64 1,.int .u64 b.l])∧Below w.heap.size w w':=by
 have HNW:Hid _:=hnew
 have hm:=Mem.start w
 go_enter Tryz.func75,Tryz.ntmps75
 go_wp2_with (first
  | ((with_reducible refine aa (some 1) (.box 123 (.tmp 0)) ?_);refine ak (grC a b c) rfl hm ?_;clear hm;intro w1 gx hm)
  | ((with_reducible refine aa (some 5) (.load 123 (.tmp 1)) ?_);obtain ⟨fs,hfs⟩:=cM;go_must (refine am 0 hm rfl rfl _ hfs rfl 11 bH rfl ?_);clear hfs fs)
  | (go_at_call 114;refine (dv a b c _).mono ?_;rintro e w2 ⟨he,hb⟩;rw [HNW.out] at he;subst he;replace hm:=hm.call hb;clear hb)
  | ((with_reducible refine aa (some 19) (.load 109 (.tmp 18)) ?_);go_must (refine ai 0 6 (.int .u64 c.l) hm rfl rfl aI rfl ?_))
  | ((with_reducible refine aa (some 23) (.load 109 (.tmp 22)) ?_);go_must (refine ai 0 1 (.int .u64 b.l) hm rfl rfl aI rfl ?_)))
 have cc:w2.cell? ⟨gx,1,none⟩=some (.int .u64 b.l):=((hm.get 0 rfl).cell 1).trans rfl
 have cd:w2.cell? ⟨gx,6,none⟩=some (.int .u64 c.l):=((hm.get 0 rfl).cell 6).trans rfl
 go_quiet (fail)
 obtain ⟨wc,hwc⟩:∃v,v=World.drewN w2 nq:=⟨_,rfl⟩
 replace hm:=Mem.drewN hm nq
 rw [←hwc] at hm ⊢
 clear hwc cc cd
 go_wp2_with fail
 go_ret2
 exact ⟨rfl,hm.below⟩
theorem next_hit1 (a:Value) (b c:Bk) (hnew:newN b.v c.v b.l c.l=1) (w:World) :
  Calls Tryz.prog 75 #[.agg (grC a b c).toArray] w fun e w'=>e=.returned (.tuple #[.int .i64 0,.int .u64 c.l])∧Below w.heap.size w w':=by
 have HNW:Hid _:=hnew
 have hm:=Mem.start w
 go_enter Tryz.func75,Tryz.ntmps75
 go_wp2_with (first
  | ((with_reducible refine aa (some 1) (.box 123 (.tmp 0)) ?_);refine ak (grC a b c) rfl hm ?_;clear hm;intro w1 gx hm)
  | ((with_reducible refine aa (some 5) (.load 123 (.tmp 1)) ?_);obtain ⟨fs,hfs⟩:=cM;go_must (refine am 0 hm rfl rfl _ hfs rfl 11 bH rfl ?_);clear hfs fs)
  | (go_at_call 114;refine (dv a b c _).mono ?_;rintro e w2 ⟨he,hb⟩;rw [HNW.out] at he;subst he;replace hm:=hm.call hb;clear hb)
  | ((with_reducible refine aa (some 19) (.load 109 (.tmp 18)) ?_);go_must (refine ai 0 6 (.int .u64 c.l) hm rfl rfl aI rfl ?_))
  | ((with_reducible refine aa (some 23) (.load 109 (.tmp 22)) ?_);go_must (refine ai 0 1 (.int .u64 b.l) hm rfl rfl aI rfl ?_)))
 have cc:w2.cell? ⟨gx,1,none⟩=some (.int .u64 b.l):=((hm.get 0 rfl).cell 1).trans rfl
 have cd:w2.cell? ⟨gx,6,none⟩=some (.int .u64 c.l):=((hm.get 0 rfl).cell 6).trans rfl
 go_quiet (fail)
 obtain ⟨wc,hwc⟩:∃v,v=World.drewN w2 nq:=⟨_,rfl⟩
 replace hm:=Mem.drewN hm nq
 rw [←hwc] at hm ⊢
 clear hwc cc cd
 go_wp2_with fail
 go_ret2
 exact ⟨rfl,hm.below⟩
theorem next_none1 (a:Value) (b c:Bk) (hnew:newN b.v c.v b.l c.l = -1) (hlt:c.l<b.l) (w:World) :
  Calls Tryz.prog 75 #[.agg (grC a b c).toArray] w fun e w'=>e=.returned (.tuple #[.int .i64 1,.int .u64 0])∧Below w.heap.size w w':=by
 have HNW:Hid _:=hnew
 have hm:=Mem.start w
 go_enter Tryz.func75,Tryz.ntmps75
 go_wp2_with (first
  | ((with_reducible refine aa (some 1) (.box 123 (.tmp 0)) ?_);refine ak (grC a b c) rfl hm ?_;clear hm;intro w1 gx hm)
  | ((with_reducible refine aa (some 5) (.load 123 (.tmp 1)) ?_);obtain ⟨fs,hfs⟩:=cM;go_must (refine am 0 hm rfl rfl _ hfs rfl 11 bH rfl ?_);clear hfs fs)
  | (go_at_call 114;refine (dv a b c _).mono ?_;rintro e w2 ⟨he,hb⟩;rw [HNW.out] at he;subst he;replace hm:=hm.call hb;clear hb)
  | ((with_reducible refine aa (some 19) (.load 109 (.tmp 18)) ?_);go_must (refine ai 0 6 (.int .u64 c.l) hm rfl rfl aI rfl ?_))
  | ((with_reducible refine aa (some 23) (.load 109 (.tmp 22)) ?_);go_must (refine ai 0 1 (.int .u64 b.l) hm rfl rfl aI rfl ?_)))
 go_ret2
 exact ⟨rfl,hm.below⟩
theorem next_none0 (a:Value) (b c:Bk) (hnew:newN b.v c.v b.l c.l = -1) (hlt:¬c.l<b.l) (w:World) :
  Calls Tryz.prog 75 #[.agg (grC a b c).toArray] w fun e w'=>e=.returned (.tuple #[.int .i64 0,.int .u64 0])∧Below w.heap.size w w':=by
 have HNW:Hid _:=hnew
 have hm:=Mem.start w
 go_enter Tryz.func75,Tryz.ntmps75
 go_wp2_with (first
  | ((with_reducible refine aa (some 1) (.box 123 (.tmp 0)) ?_);refine ak (grC a b c) rfl hm ?_;clear hm;intro w1 gx hm)
  | ((with_reducible refine aa (some 5) (.load 123 (.tmp 1)) ?_);obtain ⟨fs,hfs⟩:=cM;go_must (refine am 0 hm rfl rfl _ hfs rfl 11 bH rfl ?_);clear hfs fs)
  | (go_at_call 114;refine (dv a b c _).mono ?_;rintro e w2 ⟨he,hb⟩;rw [HNW.out] at he;subst he;replace hm:=hm.call hb;clear hb)
  | ((with_reducible refine aa (some 19) (.load 109 (.tmp 18)) ?_);go_must (refine ai 0 6 (.int .u64 c.l) hm rfl rfl aI rfl ?_))
  | ((with_reducible refine aa (some 23) (.load 109 (.tmp 22)) ?_);go_must (refine ai 0 1 (.int .u64 b.l) hm rfl rfl aI rfl ?_)))
 go_ret2
 exact ⟨rfl,hm.below⟩
theorem next_any (a:Value) (b c:Bk) (w:World) :
  Calls Tryz.prog 75 #[.agg (grC a b c).toArray] w fun e w'=>e=.returned (.tuple #[.int .i64 (nextP b.v c.v b.l c.l:Nat),.int .u64 (knownN b.v c.v b.l c.l)])∧Below w.heap.size w w':=by
 unfold nextP knownN
 cases hb:b.v with
 | true =>
  rw [if_pos rfl,if_pos rfl]
  by_cases h:c.v=true∧b.l<c.l
  ·rw [if_pos h,if_pos h]
   exact next_hit1 a b c (by unfold newN;rw [hb,if_pos rfl,if_pos h]) w
  ·rw [if_neg h,if_neg h]
   exact next_hit0 a b c (by unfold newN;rw [hb,if_pos rfl,if_neg h]) w
 | false =>
  rw [if_neg (show ¬(false=true) by simp),if_neg (show ¬(false=true) by simp)]
  cases hc:c.v with
  | true =>
   rw [if_pos rfl,if_pos rfl]
   exact next_hit1 a b c (by unfold newN;rw [hb,hc,if_neg (show ¬(false=true) by simp),if_pos rfl]) w
  | false =>
   rw [if_neg (show ¬(false=true) by simp),if_neg (show ¬(false=true) by simp)]
   have hn:newN b.v c.v b.l c.l = -1:=by unfold newN;rw [hb,hc,if_neg (show ¬(false=true) by simp),if_neg (show ¬(false=true) by simp)]
   by_cases h:c.l<b.l
   ·rw [if_pos h]
    exact next_none1 a b c hn h w
   ·rw [if_neg h]
    exact next_none0 a b c hn h w
theorem limit_tt (a:Value) (l0 l1 r0 r1:Int) (s0 s1:ByteArray) (m0 m1:Option Nat) (h0:0≤l0∧l0<1152921504606846976) (h1:0≤l1∧l1<1152921504606846976) (w:World) :
  Calls Tryz.prog 46 #[.agg (grC a (Bk.mk l0 true r0 s0 m0) (Bk.mk l1 true r1 s1 m1)).toArray] w fun e w'=>e=.returned (.int .u64 (max (l0+1) (l1+1)))∧Below w.heap.size w w':=by
 obtain ⟨h00,h01⟩:=h0
 obtain ⟨h10,h11⟩:=h1
 obtain ⟨M,hM⟩:∃M,M=max (l0+1) (l1+1):=⟨_,rfl⟩
 have HX0:Hid ((if (1:Int)<l0+1 then l0+1 else 1)=l0+1):=by show _=_;split<;>omega
 have HX1:Hid ((if l0+1<l1+1 then l1+1 else l0+1)=M):=by show _=_;rw [hM];split<;>omega
 have HW0:IntKind.u64.wrap (l0+1)=l0+1:=by simp [IntKind.wrap,IntKind.bits,IntKind.signed];omega
 have HW1:IntKind.u64.wrap (l1+1)=l1+1:=by simp [IntKind.wrap,IntKind.bits,IntKind.signed];omega
 rw [←hM]
 clear hM
 have hm:=Mem.start w
 go_enter Tryz.func46,Tryz.ntmps46
 go_wp2_with (first
  | ((with_reducible refine aa (some 1) (.box 123 (.tmp 0)) ?_);refine ak (grC a (Bk.mk l0 true r0 s0 m0) (Bk.mk l1 true r1 s1 m1)) rfl hm ?_;clear hm;intro w1 gx hm)
  | ((with_reducible refine aa (some 7) (.load 121 (.tmp 6)) ?_);refine dp 0 1 (b2C (Bk.mk l0 true r0 s0 m0) (Bk.mk l1 true r1 s1 m1)) hm rfl rfl _ b9 rfl 10 jT (by simp [grC,b2C]) (rfl) ?_))
 refine wp_loop_rounds 3 ?_
 rw [rounds_succ]
 go_wp2_with (first
  | ((with_reducible refine aa (some 10) (.index 121 (.tmp 7) (.tmp 8)) ?_);go_must (refine bJ 2 b9 5 aN cE (b2C (Bk.mk l0 true r0 s0 m0) (Bk.mk l1 true r1 s1 m1)) (blC (Bk.mk l0 true r0 s0 m0)) 0 (by omega) rfl rfl (by first|rfl|omega) rfl ?_))
  | ((with_reducible refine aa (some 5) (.alloc 120) ?_);refine af _ bg hm ?_;clear hm;intro wa0 gb0 hm)
  | ((with_reducible refine aa none (.store 120 (.tmp 5) (.tmp 10)) ?_);refine ag 0 (blC (Bk.mk l0 true r0 s0 m0)) hm rfl rfl rfl 5 aN rfl rfl (bz _) ?_;clear hm;intro wb0 hm)
  | ((with_reducible refine aa (some 12) (.load 4 (.tmp 11)) ?_);go_must (refine ai 0 1 (.bool true) hm rfl rfl dm rfl ?_))
  | ((with_reducible refine aM (some 15) (.load 109 (.tmp 14)) (some (2,false)) ?_);go_must (refine ae (.int .u64 l0) rfl (aF (.int .u64 l0) (((hm.get 0 rfl).cell 0).trans rfl) rfl aI) ?_))
  | ((with_reducible refine aa (some 20) (.load 109 (.tmp 19)) ?_);go_must (refine ai 0 0 (.int .u64 l0) hm rfl rfl aI rfl ?_))
  | ((with_reducible refine aa (some 22) (.call {callee:=.builtin .max,args:=#[.tmp 18,.tmp 21],argTypes:=#[109,109]}) ?_);go_must (refine ae (.int .u64 (l0+1)) rfl (cz _ rfl rfl HX0.out) ?_)))
 rw [rounds_succ]
 go_wp2_with (first
  | ((with_reducible refine aa (some 10) (.index 121 (.tmp 7) (.tmp 8)) ?_);go_must (refine bJ 2 b9 5 aN cE (b2C (Bk.mk l0 true r0 s0 m0) (Bk.mk l1 true r1 s1 m1)) (blC (Bk.mk l1 true r1 s1 m1)) 1 (by omega) rfl rfl (by first|rfl|omega) rfl ?_))
  | ((with_reducible refine aa (some 5) (.alloc 120) ?_);refine af _ bg hm ?_;clear hm;intro wa1 gb1 hm)
  | ((with_reducible refine aa none (.store 120 (.tmp 5) (.tmp 10)) ?_);refine ag 0 (blC (Bk.mk l1 true r1 s1 m1)) hm rfl rfl rfl 5 aN rfl rfl (bz _) ?_;clear hm;intro wb1 hm)
  | ((with_reducible refine aa (some 12) (.load 4 (.tmp 11)) ?_);go_must (refine ai 0 1 (.bool true) hm rfl rfl dm rfl ?_))
  | ((with_reducible refine aM (some 15) (.load 109 (.tmp 14)) (some (2,false)) ?_);go_must (refine ae (.int .u64 l1) rfl (aF (.int .u64 l1) (((hm.get 0 rfl).cell 0).trans rfl) rfl aI) ?_))
  | ((with_reducible refine aa (some 20) (.load 109 (.tmp 19)) ?_);go_must (refine ai 0 0 (.int .u64 l1) hm rfl rfl aI rfl ?_))
  | ((with_reducible refine aa (some 22) (.call {callee:=.builtin .max,args:=#[.tmp 18,.tmp 21],argTypes:=#[109,109]}) ?_);go_must (refine ae (.int .u64 M) rfl (cz _ rfl rfl HX1.out) ?_)))
 rw [rounds_succ]
 go_wp2_with fail
 go_ret
 exact ⟨rfl,hm.below⟩
theorem limit_tf (a:Value) (l0 l1 r0 r1:Int) (s0 s1:ByteArray) (m0 m1:Option Nat) (h0:0≤l0∧l0<1152921504606846976) (h1:0≤l1∧l1<1152921504606846976) (w:World) :
  Calls Tryz.prog 46 #[.agg (grC a (Bk.mk l0 true r0 s0 m0) (Bk.mk l1 false r1 s1 m1)).toArray] w fun e w'=>e=.returned (.int .u64 (max (l0+1) (l1+1)))∧Below w.heap.size w w':=by
 obtain ⟨h00,h01⟩:=h0
 obtain ⟨h10,h11⟩:=h1
 obtain ⟨M,hM⟩:∃M,M=max (l0+1) (l1+1):=⟨_,rfl⟩
 have HX0:Hid ((if (1:Int)<l0+1 then l0+1 else 1)=l0+1):=by show _=_;split<;>omega
 have HX1:Hid ((if l0+1<l1+1 then l1+1 else l0+1)=M):=by show _=_;rw [hM];split<;>omega
 have HW0:IntKind.u64.wrap (l0+1)=l0+1:=by simp [IntKind.wrap,IntKind.bits,IntKind.signed];omega
 have HW1:IntKind.u64.wrap (l1+1)=l1+1:=by simp [IntKind.wrap,IntKind.bits,IntKind.signed];omega
 rw [←hM]
 clear hM
 have hm:=Mem.start w
 go_enter Tryz.func46,Tryz.ntmps46
 go_wp2_with (first
  | ((with_reducible refine aa (some 1) (.box 123 (.tmp 0)) ?_);refine ak (grC a (Bk.mk l0 true r0 s0 m0) (Bk.mk l1 false r1 s1 m1)) rfl hm ?_;clear hm;intro w1 gx hm)
  | ((with_reducible refine aa (some 7) (.load 121 (.tmp 6)) ?_);refine dp 0 1 (b2C (Bk.mk l0 true r0 s0 m0) (Bk.mk l1 false r1 s1 m1)) hm rfl rfl _ b9 rfl 10 jT (by simp [grC,b2C]) (rfl) ?_))
 refine wp_loop_rounds 3 ?_
 rw [rounds_succ]
 go_wp2_with (first
  | ((with_reducible refine aa (some 10) (.index 121 (.tmp 7) (.tmp 8)) ?_);go_must (refine bJ 2 b9 5 aN cE (b2C (Bk.mk l0 true r0 s0 m0) (Bk.mk l1 false r1 s1 m1)) (blC (Bk.mk l0 true r0 s0 m0)) 0 (by omega) rfl rfl (by first|rfl|omega) rfl ?_))
  | ((with_reducible refine aa (some 5) (.alloc 120) ?_);refine af _ bg hm ?_;clear hm;intro wa0 gb0 hm)
  | ((with_reducible refine aa none (.store 120 (.tmp 5) (.tmp 10)) ?_);refine ag 0 (blC (Bk.mk l0 true r0 s0 m0)) hm rfl rfl rfl 5 aN rfl rfl (bz _) ?_;clear hm;intro wb0 hm)
  | ((with_reducible refine aa (some 12) (.load 4 (.tmp 11)) ?_);go_must (refine ai 0 1 (.bool true) hm rfl rfl dm rfl ?_))
  | ((with_reducible refine aM (some 15) (.load 109 (.tmp 14)) (some (2,false)) ?_);go_must (refine ae (.int .u64 l0) rfl (aF (.int .u64 l0) (((hm.get 0 rfl).cell 0).trans rfl) rfl aI) ?_))
  | ((with_reducible refine aa (some 20) (.load 109 (.tmp 19)) ?_);go_must (refine ai 0 0 (.int .u64 l0) hm rfl rfl aI rfl ?_))
  | ((with_reducible refine aa (some 22) (.call {callee:=.builtin .max,args:=#[.tmp 18,.tmp 21],argTypes:=#[109,109]}) ?_);go_must (refine ae (.int .u64 (l0+1)) rfl (cz _ rfl rfl HX0.out) ?_)))
 rw [rounds_succ]
 go_wp2_with (first
  | ((with_reducible refine aa (some 10) (.index 121 (.tmp 7) (.tmp 8)) ?_);go_must (refine bJ 2 b9 5 aN cE (b2C (Bk.mk l0 true r0 s0 m0) (Bk.mk l1 false r1 s1 m1)) (blC (Bk.mk l1 false r1 s1 m1)) 1 (by omega) rfl rfl (by first|rfl|omega) rfl ?_))
  | ((with_reducible refine aa (some 5) (.alloc 120) ?_);refine af _ bg hm ?_;clear hm;intro wa1 gb1 hm)
  | ((with_reducible refine aa none (.store 120 (.tmp 5) (.tmp 10)) ?_);refine ag 0 (blC (Bk.mk l1 false r1 s1 m1)) hm rfl rfl rfl 5 aN rfl rfl (bz _) ?_;clear hm;intro wb1 hm)
  | ((with_reducible refine aa (some 12) (.load 4 (.tmp 11)) ?_);go_must (refine ai 0 1 (.bool false) hm rfl rfl dm rfl ?_))
  | ((with_reducible refine aM (some 15) (.load 109 (.tmp 14)) (some (2,false)) ?_);go_must (refine ae (.int .u64 l1) rfl (aF (.int .u64 l1) (((hm.get 0 rfl).cell 0).trans rfl) rfl aI) ?_))
  | ((with_reducible refine aa (some 20) (.load 109 (.tmp 19)) ?_);go_must (refine ai 0 0 (.int .u64 l1) hm rfl rfl aI rfl ?_))
  | ((with_reducible refine aa (some 22) (.call {callee:=.builtin .max,args:=#[.tmp 18,.tmp 21],argTypes:=#[109,109]}) ?_);go_must (refine ae (.int .u64 M) rfl (cz _ rfl rfl HX1.out) ?_)))
 rw [rounds_succ]
 go_wp2_with fail
 go_ret
 exact ⟨rfl,hm.below⟩
theorem limit_ft (a:Value) (l0 l1 r0 r1:Int) (s0 s1:ByteArray) (m0 m1:Option Nat) (h0:0≤l0∧l0<1152921504606846976) (h1:0≤l1∧l1<1152921504606846976) (w:World) :
  Calls Tryz.prog 46 #[.agg (grC a (Bk.mk l0 false r0 s0 m0) (Bk.mk l1 true r1 s1 m1)).toArray] w fun e w'=>e=.returned (.int .u64 (max (l0+1) (l1+1)))∧Below w.heap.size w w':=by
 obtain ⟨h00,h01⟩:=h0
 obtain ⟨h10,h11⟩:=h1
 obtain ⟨M,hM⟩:∃M,M=max (l0+1) (l1+1):=⟨_,rfl⟩
 have HX0:Hid ((if (1:Int)<l0+1 then l0+1 else 1)=l0+1):=by show _=_;split<;>omega
 have HX1:Hid ((if l0+1<l1+1 then l1+1 else l0+1)=M):=by show _=_;rw [hM];split<;>omega
 have HW0:IntKind.u64.wrap (l0+1)=l0+1:=by simp [IntKind.wrap,IntKind.bits,IntKind.signed];omega
 have HW1:IntKind.u64.wrap (l1+1)=l1+1:=by simp [IntKind.wrap,IntKind.bits,IntKind.signed];omega
 rw [←hM]
 clear hM
 have hm:=Mem.start w
 go_enter Tryz.func46,Tryz.ntmps46
 go_wp2_with (first
  | ((with_reducible refine aa (some 1) (.box 123 (.tmp 0)) ?_);refine ak (grC a (Bk.mk l0 false r0 s0 m0) (Bk.mk l1 true r1 s1 m1)) rfl hm ?_;clear hm;intro w1 gx hm)
  | ((with_reducible refine aa (some 7) (.load 121 (.tmp 6)) ?_);refine dp 0 1 (b2C (Bk.mk l0 false r0 s0 m0) (Bk.mk l1 true r1 s1 m1)) hm rfl rfl _ b9 rfl 10 jT (by simp [grC,b2C]) (rfl) ?_))
 refine wp_loop_rounds 3 ?_
 rw [rounds_succ]
 go_wp2_with (first
  | ((with_reducible refine aa (some 10) (.index 121 (.tmp 7) (.tmp 8)) ?_);go_must (refine bJ 2 b9 5 aN cE (b2C (Bk.mk l0 false r0 s0 m0) (Bk.mk l1 true r1 s1 m1)) (blC (Bk.mk l0 false r0 s0 m0)) 0 (by omega) rfl rfl (by first|rfl|omega) rfl ?_))
  | ((with_reducible refine aa (some 5) (.alloc 120) ?_);refine af _ bg hm ?_;clear hm;intro wa0 gb0 hm)
  | ((with_reducible refine aa none (.store 120 (.tmp 5) (.tmp 10)) ?_);refine ag 0 (blC (Bk.mk l0 false r0 s0 m0)) hm rfl rfl rfl 5 aN rfl rfl (bz _) ?_;clear hm;intro wb0 hm)
  | ((with_reducible refine aa (some 12) (.load 4 (.tmp 11)) ?_);go_must (refine ai 0 1 (.bool false) hm rfl rfl dm rfl ?_))
  | ((with_reducible refine aM (some 15) (.load 109 (.tmp 14)) (some (2,false)) ?_);go_must (refine ae (.int .u64 l0) rfl (aF (.int .u64 l0) (((hm.get 0 rfl).cell 0).trans rfl) rfl aI) ?_))
  | ((with_reducible refine aa (some 20) (.load 109 (.tmp 19)) ?_);go_must (refine ai 0 0 (.int .u64 l0) hm rfl rfl aI rfl ?_))
  | ((with_reducible refine aa (some 22) (.call {callee:=.builtin .max,args:=#[.tmp 18,.tmp 21],argTypes:=#[109,109]}) ?_);go_must (refine ae (.int .u64 (l0+1)) rfl (cz _ rfl rfl HX0.out) ?_)))
 rw [rounds_succ]
 go_wp2_with (first
  | ((with_reducible refine aa (some 10) (.index 121 (.tmp 7) (.tmp 8)) ?_);go_must (refine bJ 2 b9 5 aN cE (b2C (Bk.mk l0 false r0 s0 m0) (Bk.mk l1 true r1 s1 m1)) (blC (Bk.mk l1 true r1 s1 m1)) 1 (by omega) rfl rfl (by first|rfl|omega) rfl ?_))
  | ((with_reducible refine aa (some 5) (.alloc 120) ?_);refine af _ bg hm ?_;clear hm;intro wa1 gb1 hm)
  | ((with_reducible refine aa none (.store 120 (.tmp 5) (.tmp 10)) ?_);refine ag 0 (blC (Bk.mk l1 true r1 s1 m1)) hm rfl rfl rfl 5 aN rfl rfl (bz _) ?_;clear hm;intro wb1 hm)
  | ((with_reducible refine aa (some 12) (.load 4 (.tmp 11)) ?_);go_must (refine ai 0 1 (.bool true) hm rfl rfl dm rfl ?_))
  | ((with_reducible refine aM (some 15) (.load 109 (.tmp 14)) (some (2,false)) ?_);go_must (refine ae (.int .u64 l1) rfl (aF (.int .u64 l1) (((hm.get 0 rfl).cell 0).trans rfl) rfl aI) ?_))
  | ((with_reducible refine aa (some 20) (.load 109 (.tmp 19)) ?_);go_must (refine ai 0 0 (.int .u64 l1) hm rfl rfl aI rfl ?_))
  | ((with_reducible refine aa (some 22) (.call {callee:=.builtin .max,args:=#[.tmp 18,.tmp 21],argTypes:=#[109,109]}) ?_);go_must (refine ae (.int .u64 M) rfl (cz _ rfl rfl HX1.out) ?_)))
 rw [rounds_succ]
 go_wp2_with fail
 go_ret
 exact ⟨rfl,hm.below⟩
theorem limit_ff (a:Value) (l0 l1 r0 r1:Int) (s0 s1:ByteArray) (m0 m1:Option Nat) (h0:0≤l0∧l0<1152921504606846976) (h1:0≤l1∧l1<1152921504606846976) (w:World) :
  Calls Tryz.prog 46 #[.agg (grC a (Bk.mk l0 false r0 s0 m0) (Bk.mk l1 false r1 s1 m1)).toArray] w fun e w'=>e=.returned (.int .u64 (max (l0+1) (l1+1)))∧Below w.heap.size w w':=by
 obtain ⟨h00,h01⟩:=h0
 obtain ⟨h10,h11⟩:=h1
 obtain ⟨M,hM⟩:∃M,M=max (l0+1) (l1+1):=⟨_,rfl⟩
 have HX0:Hid ((if (1:Int)<l0+1 then l0+1 else 1)=l0+1):=by show _=_;split<;>omega
 have HX1:Hid ((if l0+1<l1+1 then l1+1 else l0+1)=M):=by show _=_;rw [hM];split<;>omega
 have HW0:IntKind.u64.wrap (l0+1)=l0+1:=by simp [IntKind.wrap,IntKind.bits,IntKind.signed];omega
 have HW1:IntKind.u64.wrap (l1+1)=l1+1:=by simp [IntKind.wrap,IntKind.bits,IntKind.signed];omega
 rw [←hM]
 clear hM
 have hm:=Mem.start w
 go_enter Tryz.func46,Tryz.ntmps46
 go_wp2_with (first
  | ((with_reducible refine aa (some 1) (.box 123 (.tmp 0)) ?_);refine ak (grC a (Bk.mk l0 false r0 s0 m0) (Bk.mk l1 false r1 s1 m1)) rfl hm ?_;clear hm;intro w1 gx hm)
  | ((with_reducible refine aa (some 7) (.load 121 (.tmp 6)) ?_);refine dp 0 1 (b2C (Bk.mk l0 false r0 s0 m0) (Bk.mk l1 false r1 s1 m1)) hm rfl rfl _ b9 rfl 10 jT (by simp [grC,b2C]) (rfl) ?_))
 refine wp_loop_rounds 3 ?_
 rw [rounds_succ]
 go_wp2_with (first
  | ((with_reducible refine aa (some 10) (.index 121 (.tmp 7) (.tmp 8)) ?_);go_must (refine bJ 2 b9 5 aN cE (b2C (Bk.mk l0 false r0 s0 m0) (Bk.mk l1 false r1 s1 m1)) (blC (Bk.mk l0 false r0 s0 m0)) 0 (by omega) rfl rfl (by first|rfl|omega) rfl ?_))
  | ((with_reducible refine aa (some 5) (.alloc 120) ?_);refine af _ bg hm ?_;clear hm;intro wa0 gb0 hm)
  | ((with_reducible refine aa none (.store 120 (.tmp 5) (.tmp 10)) ?_);refine ag 0 (blC (Bk.mk l0 false r0 s0 m0)) hm rfl rfl rfl 5 aN rfl rfl (bz _) ?_;clear hm;intro wb0 hm)
  | ((with_reducible refine aa (some 12) (.load 4 (.tmp 11)) ?_);go_must (refine ai 0 1 (.bool false) hm rfl rfl dm rfl ?_))
  | ((with_reducible refine aM (some 15) (.load 109 (.tmp 14)) (some (2,false)) ?_);go_must (refine ae (.int .u64 l0) rfl (aF (.int .u64 l0) (((hm.get 0 rfl).cell 0).trans rfl) rfl aI) ?_))
  | ((with_reducible refine aa (some 20) (.load 109 (.tmp 19)) ?_);go_must (refine ai 0 0 (.int .u64 l0) hm rfl rfl aI rfl ?_))
  | ((with_reducible refine aa (some 22) (.call {callee:=.builtin .max,args:=#[.tmp 18,.tmp 21],argTypes:=#[109,109]}) ?_);go_must (refine ae (.int .u64 (l0+1)) rfl (cz _ rfl rfl HX0.out) ?_)))
 rw [rounds_succ]
 go_wp2_with (first
  | ((with_reducible refine aa (some 10) (.index 121 (.tmp 7) (.tmp 8)) ?_);go_must (refine bJ 2 b9 5 aN cE (b2C (Bk.mk l0 false r0 s0 m0) (Bk.mk l1 false r1 s1 m1)) (blC (Bk.mk l1 false r1 s1 m1)) 1 (by omega) rfl rfl (by first|rfl|omega) rfl ?_))
  | ((with_reducible refine aa (some 5) (.alloc 120) ?_);refine af _ bg hm ?_;clear hm;intro wa1 gb1 hm)
  | ((with_reducible refine aa none (.store 120 (.tmp 5) (.tmp 10)) ?_);refine ag 0 (blC (Bk.mk l1 false r1 s1 m1)) hm rfl rfl rfl 5 aN rfl rfl (bz _) ?_;clear hm;intro wb1 hm)
  | ((with_reducible refine aa (some 12) (.load 4 (.tmp 11)) ?_);go_must (refine ai 0 1 (.bool false) hm rfl rfl dm rfl ?_))
  | ((with_reducible refine aM (some 15) (.load 109 (.tmp 14)) (some (2,false)) ?_);go_must (refine ae (.int .u64 l1) rfl (aF (.int .u64 l1) (((hm.get 0 rfl).cell 0).trans rfl) rfl aI) ?_))
  | ((with_reducible refine aa (some 20) (.load 109 (.tmp 19)) ?_);go_must (refine ai 0 0 (.int .u64 l1) hm rfl rfl aI rfl ?_))
  | ((with_reducible refine aa (some 22) (.call {callee:=.builtin .max,args:=#[.tmp 18,.tmp 21],argTypes:=#[109,109]}) ?_);go_must (refine ae (.int .u64 M) rfl (cz _ rfl rfl HX1.out) ?_)))
 rw [rounds_succ]
 go_wp2_with fail
 go_ret
 exact ⟨rfl,hm.below⟩
theorem limit_any (a:Value) (b c:Bk) (h0:0≤b.l∧b.l<1152921504606846976) (h1:0≤c.l∧c.l<1152921504606846976) (w:World) :
  Calls Tryz.prog 46 #[.agg (grC a b c).toArray] w fun e w'=>e=.returned (.int .u64 (max (b.l+1) (c.l+1)))∧Below w.heap.size w w':=by
 obtain ⟨l0,v0,r0,s0,m0⟩:=b
 obtain ⟨l1,v1,r1,s1,m1⟩:=c
 cases v0<;>cases v1
 ·exact limit_ff a l0 l1 r0 r1 s0 s1 m0 m1 h0 h1 w
 ·exact limit_ft a l0 l1 r0 r1 s0 s1 m0 m1 h0 h1 w
 ·exact limit_tf a l0 l1 r0 r1 s0 s1 m0 m1 h0 h1 w
 ·exact limit_tt a l0 l1 r0 r1 s0 s1 m0 m1 h0 h1 w
end Go.Proofs.YtmlbjfklaehjnaaGreatDoor
