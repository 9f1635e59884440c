import Derived.Test.YtdkkdkgdaambiaaGreatDoorQa13
import Derived.Test.YtdkkdkgdaambiaaGreatDoorQa12
import Derived.Shelf.SlMaps.Clone
import Derived.Laws.Cover3
set_option maxRecDepth 100000
namespace Go.Proofs.YtdkkdkgdaambiaaGreatDoor
open Go Go.RowKit Go.Maps
theorem exec_built {P:Program} {a:Act} {w:World} {dst:Option Tmp} {typ:TypeId} {pos:String} {aft:Array Edge} {gd:Option (Nat×Bool)} {t:TypeId} {xs:Array (Nat×Operand)} (l:List Value) (vs:List (Nat×Value)) (hv:(xs.map fun q=>(q.1,a.eval q.2)).toList=vs) (hb:P.built t vs=some l.toArray) :
  (execOp a.eval {dst:=dst,op:=.build t xs,type:=typ,pos:=pos,after:=aft,guard:=gd}).run P w=.ok (.value (.agg l.toArray)) w:=by
 have e:(xs.map fun (i,x)=>(i,a.eval x)).toList=vs:=hv
 unfold execOp
 simp only [Sem.run_bind,run_build w t _ l.toArray (by rw [e];exact hb),Result.andThen_ok,Sem.run_pure]
def stC (s:Nat):List Value:=[.int .u64 (s:Int)]
theorem stC_one (s:Nat):∀v∈stC s,v.oneCell'=true:=by
 intro v hv
 simp only [stC,List.mem_cons,List.not_mem_nil,or_false] at hv
 subst hv
 rfl
theorem built_sta:Tryz.prog.built 83 []=some (stC 0).toArray:=by kernel_rfl
theorem zero_staL:∀w,(zeroValue 83).run Tryz.prog w=.ok (.agg (stC 0).toArray) w:=zero_sta
theorem exec_ldx {a:Act} {w:World} {dst:Option Tmp} {typ:TypeId} {pos:String} {aft:Array Edge} {gd:Option (Nat×Bool)} {ty:TypeId} {x:Operand} {b j:Nat} (v:Value) (hc:w.cell? ⟨b,j,none⟩=some v) (hx:a.eval x=.pointer (some ⟨b,j,none⟩)) (ha:∀w,(isAgg ty).run Tryz.prog w=.ok false w) :
  (execOp a.eval {dst:=dst,op:=.load ty x,type:=typ,pos:=pos,after:=aft,guard:=gd}).run Tryz.prog w=.ok (.value v) w:=by
 have hl:(Instr.loadAt ty (.pointer (some ⟨b,j,none⟩))).run Tryz.prog w=.ok v w:=by
  simp [Instr.loadAt,Instr.sureAddr,loadVar,ha,hc]
 unfold execOp
 simp only [hx,hl,Sem.run_bind,Sem.run_pure,Result.andThen_ok]
set_option maxHeartbeats 1000000 in
theorem root_any (gp g mb:Nat) (kv:Value) (ml mu:Nat) (P:Pg) (d:Dk) (w:World) (hp:PgAt w gp g mb kv ml mu P d) :
  Calls Tryz.prog 21 #[.pointer (some ⟨gp,0,none⟩)] w fun e w'=>e=.returned (.int .u32 P.root)∧w'=w:=by
 have hc:w.cell? ⟨gp,97+3,none⟩=some (.int .u32 P.root):=(hp.cell 3).trans rfl
 clear hp
 go_enter Tryz.func21,Tryz.ntmps21
 go_wp2
 go_ret
 exact ⟨rfl,rfl⟩
set_option maxHeartbeats 1000000 in
theorem meta_any (gp g mb:Nat) (kv:Value) (ml mu:Nat) (P:Pg) (d:Dk) (w:World) (hp:PgAt w gp g mb kv ml mu P d) :
  Calls Tryz.prog 22 #[.pointer (some ⟨gp,0,none⟩)] w fun e w'=>e=.returned (.string P.mt)∧w'=w:=by
 have hc:w.cell? ⟨gp,97+4,none⟩=some (.string P.mt):=(hp.cell 4).trans rfl
 clear hp
 go_enter Tryz.func22,Tryz.ntmps22
 go_wp2
 go_ret
 exact ⟨rfl,rfl⟩
set_option maxHeartbeats 1000000 in
theorem plen_any (gp g mb:Nat) (kv:Value) (ml mu:Nat) (P:Pg) (d:Dk) (pg:Nat) (hn:d.n=32+8 * pg) (hpg:pg≤400) (w:World) (hp:PgAt w gp g mb kv ml mu P d) :
  Calls Tryz.prog 26 #[.pointer (some ⟨gp,0,none⟩)] w fun e w'=>e=.returned (.int .i64 (pg:Int))∧w'=w:=by
 have hc:=hp.cell0
 have HP:Hid _:=hp
 clear hp
 go_enter Tryz.func26,Tryz.ntmps26
 go_wp2_with (go_at_call 54;refine (pagesOf_any g mb kv d pg hn hpg _ (PgAt.dk HP.out)).mono ?_;rintro e w1 ⟨rfl,rfl⟩)
 go_ret
 exact ⟨rfl,rfl⟩
set_option maxHeartbeats 1000000 in
theorem taken_any (gp g mb:Nat) (kv:Value) (ml mu:Nat) (P:Pg) (d:Dk) (i:Nat) (hi:i<4294967296) (w:World) (hp:PgAt w gp g mb kv ml mu P d) :
  Calls Tryz.prog 30 #[.pointer (some ⟨gp,0,none⟩),idxV i] w fun e w'=>e=.returned (.bool ((P.used i).isSome||(P.last i).isSome))∧Below w.heap.size w w':=by
 have HP:Hid _:=hp
 have HI:Hid _:=hi
 have hm:=Mem.start w
 obtain ⟨b1,hb1⟩:∃b,b=(P.used i).isSome:=⟨_,rfl⟩
 obtain ⟨b2,hb2⟩:∃b,b=(P.last i).isSome:=⟨_,rfl⟩
 have HB1:Hid ((P.used i).isSome=b1):=hb1.symm
 have HB2:Hid ((P.last i).isSome=b2):=hb2.symm
 rw [←hb1,←hb2]
 clear hp hb1 hb2
 go_enter Tryz.func30,Tryz.ntmps30
 go_wp2_with (first
  | ((with_reducible refine at_op (some 3) (.box 79 (.tmp 1)) ?_);refine wpl_box (u8s (four (i:Int))) rfl hm ?_;clear hm;intro w1 gi hm))
 refine wp_ends0 ?_
 refine anyH_start (T:=fun W=>Mem w [] W [(gi,u8s (four (i:Int)),79)]) (by kernel_rfl) hm ?_
 clear hm
 intro wa hm
 refine aT 0 (v:=.pointer (some ⟨gp,0,none⟩)) rfl (by kernel_rfl) rfl (fun W _=>by go_simp) hm ?_
 go_simp
 refine aT 1 (v:=.pointer (some ⟨gp,0,none⟩)) rfl (by kernel_rfl) rfl (fun W _=>by go_simp) hm ?_
 go_simp
 refine aT 2 (v:=.pointer (some ⟨gp,103,none⟩)) rfl (by kernel_rfl) rfl (fun W _=>by go_simp) hm ?_
 go_simp
 refine aT 3 (v:=.map (some mu)) rfl (by kernel_rfl) rfl (fun W hW=>exec_ldx (.map (some mu)) ((PgAt.cell (PgAt.mem HP.out hW) 6).trans rfl) rfl ag_smap) hm ?_
 go_simp
 refine aT 4 (v:=idxV i) rfl (by kernel_rfl) rfl (fun W hW=>exec_ldsG 0 (u8s (four (i:Int))) (Mem.get hW 0 rfl) rfl _ un_idx rfl 4 sz_idx (by rw [u8s_length];exact Nat.le_refl _) rfl) hm ?_
 go_simp
 refine aT 5 (v:=.tuple #[stV (((P.used) i).getD 0),.bool ((P.used) i).isSome]) rfl (by kernel_rfl) rfl (fun W hW=>exec_stlook (PgAt.used (PgAt.mem HP.out hW)) i HI.out rfl rfl) hm ?_
 go_simp
 refine aT 6 (v:=.tuple #[stV (((P.used) i).getD 0),.bool ((P.used) i).isSome]) rfl (by kernel_rfl) rfl (fun W _=>by go_simp) hm ?_
 go_simp
 refine aT 7 (v:=stV (((P.used) i).getD 0)) rfl (by kernel_rfl) rfl (fun W _=>by go_simp) hm ?_
 go_simp
 refine aT 8 (v:=.bool ((P.used) i).isSome) rfl (by kernel_rfl) rfl (fun W _=>by go_simp) hm ?_
 go_simp
 refine aO 9 (by kernel_rfl) rfl rfl ?_
 intro K hK
 refine wpl_alloc _ zero_staL hm ?_
 clear hm
 intro waa wag hm
 refine wpList_nil ?_
 refine hK _ _ hm.tail ?_
 clear hK K
 refine aO 10 (by kernel_rfl) rfl rfl ?_
 intro K hK
 refine wpl_stw 0 (stC (((P.used) i).getD 0)) hm rfl rfl rfl 1 sz_sta rfl rfl (stC_one _) ?_
 clear hm
 intro wab hm
 refine wpList_nil ?_
 refine hK _ _ hm.tail ?_
 clear hK K
 refine aT 11 (v:=.bool (P.used i).isSome) rfl (by kernel_rfl) rfl (fun W _=>by go_simp) hm.tail ?_
 go_simp
 refine wpAnyH_done (by kernel_rfl) ?_ _
 simp only [endsIn]
 replace hm:=hm.tail
 rw [HB1.out]
 go_wp2_with fail
 refine wp_ends0 ?_
 refine anyH_start (T:=fun W=>Mem w [] W [(gi,u8s (four (i:Int)),79)]) (by kernel_rfl) hm ?_
 clear hm
 intro wb hm
 refine aT 0 (v:=.pointer (some ⟨gp,0,none⟩)) rfl (by kernel_rfl) rfl (fun W _=>by go_simp) hm ?_
 go_simp
 refine aT 1 (v:=.pointer (some ⟨gp,0,none⟩)) rfl (by kernel_rfl) rfl (fun W _=>by go_simp) hm ?_
 go_simp
 refine aT 2 (v:=.pointer (some ⟨gp,100,none⟩)) rfl (by kernel_rfl) rfl (fun W _=>by go_simp) hm ?_
 go_simp
 refine aT 3 (v:=.pointer (some ⟨gp,102,none⟩)) rfl (by kernel_rfl) rfl (fun W _=>by go_simp) hm ?_
 go_simp
 refine aT 4 (v:=.map (some ml)) rfl (by kernel_rfl) rfl (fun W hW=>exec_ldx (.map (some ml)) ((PgAt.cell (PgAt.mem HP.out hW) 5).trans rfl) rfl ag_smap) hm ?_
 go_simp
 refine aT 5 (v:=idxV i) rfl (by kernel_rfl) rfl (fun W hW=>exec_ldsG 0 (u8s (four (i:Int))) (Mem.get hW 0 rfl) rfl _ un_idx rfl 4 sz_idx (by rw [u8s_length];exact Nat.le_refl _) rfl) hm ?_
 go_simp
 refine aT 6 (v:=.tuple #[stV (((P.last) i).getD 0),.bool ((P.last) i).isSome]) rfl (by kernel_rfl) rfl (fun W hW=>exec_stlook (PgAt.last (PgAt.mem HP.out hW)) i HI.out rfl rfl) hm ?_
 go_simp
 refine aT 7 (v:=.tuple #[stV (((P.last) i).getD 0),.bool ((P.last) i).isSome]) rfl (by kernel_rfl) rfl (fun W _=>by go_simp) hm ?_
 go_simp
 refine aT 8 (v:=stV (((P.last) i).getD 0)) rfl (by kernel_rfl) rfl (fun W _=>by go_simp) hm ?_
 go_simp
 refine aT 9 (v:=.bool ((P.last) i).isSome) rfl (by kernel_rfl) rfl (fun W _=>by go_simp) hm ?_
 go_simp
 refine aO 10 (by kernel_rfl) rfl rfl ?_
 intro K hK
 refine wpl_alloc _ zero_staL hm ?_
 clear hm
 intro wba wbg hm
 refine wpList_nil ?_
 refine hK _ _ hm.tail ?_
 clear hK K
 refine aO 11 (by kernel_rfl) rfl rfl ?_
 intro K hK
 refine wpl_stw 0 (stC (((P.last) i).getD 0)) hm rfl rfl rfl 1 sz_sta rfl rfl (stC_one _) ?_
 clear hm
 intro wbb hm
 refine wpList_nil ?_
 refine hK _ _ hm.tail ?_
 clear hK K
 refine aT 12 (v:=.bool (P.last i).isSome) rfl (by kernel_rfl) rfl (fun W _=>by go_simp) hm.tail ?_
 go_simp
 refine wpAnyH_done (by kernel_rfl) ?_ _
 simp only [endsIn]
 rw [HB2.out]
 cases b1<;>cases b2<;>(go_wp2_with fail;go_ret;exact ⟨rfl,hm.below⟩)
set_option maxHeartbeats 1000000 in
theorem fresh_any (gp g mb:Nat) (kv:Value) (ml mu:Nat) (P:Pg) (d:Dk) (i:Nat) (hi:i<4294967296) (w:World) (hp:PgAt w gp g mb kv ml mu P d) :
  Calls Tryz.prog 31 #[.pointer (some ⟨gp,0,none⟩),idxV i] w fun e w'=>e=.returned (.bool ((P.used i).isSome && !(P.last i).isSome))∧Below w.heap.size w w':=by
 have HP:Hid _:=hp
 have HI:Hid _:=hi
 have hm:=Mem.start w
 obtain ⟨b1,hb1⟩:∃b,b=(P.used i).isSome:=⟨_,rfl⟩
 obtain ⟨b2,hb2⟩:∃b,b=(P.last i).isSome:=⟨_,rfl⟩
 have HB1:Hid ((P.used i).isSome=b1):=hb1.symm
 have HB2:Hid ((P.last i).isSome=b2):=hb2.symm
 rw [←hb1,←hb2]
 clear hp hb1 hb2
 go_enter Tryz.func31,Tryz.ntmps31
 go_wp2_with (first
  | ((with_reducible refine at_op (some 3) (.box 79 (.tmp 1)) ?_);refine wpl_box (u8s (four (i:Int))) rfl hm ?_;clear hm;intro w1 gi hm))
 refine wp_ends0 ?_
 refine anyH_start (T:=fun W=>Mem w [] W [(gi,u8s (four (i:Int)),79)]) (by kernel_rfl) hm ?_
 clear hm
 intro wa hm
 refine aT 0 (v:=.pointer (some ⟨gp,0,none⟩)) rfl (by kernel_rfl) rfl (fun W _=>by go_simp) hm ?_
 go_simp
 refine aT 1 (v:=.pointer (some ⟨gp,0,none⟩)) rfl (by kernel_rfl) rfl (fun W _=>by go_simp) hm ?_
 go_simp
 refine aT 2 (v:=.pointer (some ⟨gp,103,none⟩)) rfl (by kernel_rfl) rfl (fun W _=>by go_simp) hm ?_
 go_simp
 refine aT 3 (v:=.map (some mu)) rfl (by kernel_rfl) rfl (fun W hW=>exec_ldx (.map (some mu)) ((PgAt.cell (PgAt.mem HP.out hW) 6).trans rfl) rfl ag_smap) hm ?_
 go_simp
 refine aT 4 (v:=idxV i) rfl (by kernel_rfl) rfl (fun W hW=>exec_ldsG 0 (u8s (four (i:Int))) (Mem.get hW 0 rfl) rfl _ un_idx rfl 4 sz_idx (by rw [u8s_length];exact Nat.le_refl _) rfl) hm ?_
 go_simp
 refine aT 5 (v:=.tuple #[stV (((P.used) i).getD 0),.bool ((P.used) i).isSome]) rfl (by kernel_rfl) rfl (fun W hW=>exec_stlook (PgAt.used (PgAt.mem HP.out hW)) i HI.out rfl rfl) hm ?_
 go_simp
 refine aT 6 (v:=.tuple #[stV (((P.used) i).getD 0),.bool ((P.used) i).isSome]) rfl (by kernel_rfl) rfl (fun W _=>by go_simp) hm ?_
 go_simp
 refine aT 7 (v:=stV (((P.used) i).getD 0)) rfl (by kernel_rfl) rfl (fun W _=>by go_simp) hm ?_
 go_simp
 refine aT 8 (v:=.bool ((P.used) i).isSome) rfl (by kernel_rfl) rfl (fun W _=>by go_simp) hm ?_
 go_simp
 refine aO 9 (by kernel_rfl) rfl rfl ?_
 intro K hK
 refine wpl_alloc _ zero_staL hm ?_
 clear hm
 intro waa wag hm
 refine wpList_nil ?_
 refine hK _ _ hm.tail ?_
 clear hK K
 refine aO 10 (by kernel_rfl) rfl rfl ?_
 intro K hK
 refine wpl_stw 0 (stC (((P.used) i).getD 0)) hm rfl rfl rfl 1 sz_sta rfl rfl (stC_one _) ?_
 clear hm
 intro wab hm
 refine wpList_nil ?_
 refine hK _ _ hm.tail ?_
 clear hK K
 refine aT 11 (v:=.bool (P.used i).isSome) rfl (by kernel_rfl) rfl (fun W _=>by go_simp) hm.tail ?_
 go_simp
 refine wpAnyH_done (by kernel_rfl) ?_ _
 simp only [endsIn]
 replace hm:=hm.tail
 rw [HB1.out]
 go_wp2_with fail
 refine wp_ends0 ?_
 refine anyH_start (T:=fun W=>Mem w [] W [(gi,u8s (four (i:Int)),79)]) (by kernel_rfl) hm ?_
 clear hm
 intro wb hm
 refine aT 0 (v:=.pointer (some ⟨gp,0,none⟩)) rfl (by kernel_rfl) rfl (fun W _=>by go_simp) hm ?_
 go_simp
 refine aT 1 (v:=.pointer (some ⟨gp,0,none⟩)) rfl (by kernel_rfl) rfl (fun W _=>by go_simp) hm ?_
 go_simp
 refine aT 2 (v:=.pointer (some ⟨gp,100,none⟩)) rfl (by kernel_rfl) rfl (fun W _=>by go_simp) hm ?_
 go_simp
 refine aT 3 (v:=.pointer (some ⟨gp,102,none⟩)) rfl (by kernel_rfl) rfl (fun W _=>by go_simp) hm ?_
 go_simp
 refine aT 4 (v:=.map (some ml)) rfl (by kernel_rfl) rfl (fun W hW=>exec_ldx (.map (some ml)) ((PgAt.cell (PgAt.mem HP.out hW) 5).trans rfl) rfl ag_smap) hm ?_
 go_simp
 refine aT 5 (v:=idxV i) rfl (by kernel_rfl) rfl (fun W hW=>exec_ldsG 0 (u8s (four (i:Int))) (Mem.get hW 0 rfl) rfl _ un_idx rfl 4 sz_idx (by rw [u8s_length];exact Nat.le_refl _) rfl) hm ?_
 go_simp
 refine aT 6 (v:=.tuple #[stV (((P.last) i).getD 0),.bool ((P.last) i).isSome]) rfl (by kernel_rfl) rfl (fun W hW=>exec_stlook (PgAt.last (PgAt.mem HP.out hW)) i HI.out rfl rfl) hm ?_
 go_simp
 refine aT 7 (v:=.tuple #[stV (((P.last) i).getD 0),.bool ((P.last) i).isSome]) rfl (by kernel_rfl) rfl (fun W _=>by go_simp) hm ?_
 go_simp
 refine aT 8 (v:=stV (((P.last) i).getD 0)) rfl (by kernel_rfl) rfl (fun W _=>by go_simp) hm ?_
 go_simp
 refine aT 9 (v:=.bool ((P.last) i).isSome) rfl (by kernel_rfl) rfl (fun W _=>by go_simp) hm ?_
 go_simp
 refine aO 10 (by kernel_rfl) rfl rfl ?_
 intro K hK
 refine wpl_alloc _ zero_staL hm ?_
 clear hm
 intro wba wbg hm
 refine wpList_nil ?_
 refine hK _ _ hm.tail ?_
 clear hK K
 refine aO 11 (by kernel_rfl) rfl rfl ?_
 intro K hK
 refine wpl_stw 0 (stC (((P.last) i).getD 0)) hm rfl rfl rfl 1 sz_sta rfl rfl (stC_one _) ?_
 clear hm
 intro wbb hm
 refine wpList_nil ?_
 refine hK _ _ hm.tail ?_
 clear hK K
 refine aT 12 (v:=.bool (P.last i).isSome) rfl (by kernel_rfl) rfl (fun W _=>by go_simp) hm.tail ?_
 go_simp
 refine wpAnyH_done (by kernel_rfl) ?_ _
 simp only [endsIn]
 rw [HB2.out]
 cases b1<;>cases b2<;>(go_wp2_with fail;go_ret;exact ⟨rfl,hm.below⟩)
set_option maxHeartbeats 1000000 in
theorem free_no (gp g mb:Nat) (kv:Value) (ml mu:Nat) (P:Pg) (d:Dk) (i:Nat) (hi:i<4294967296) (hoff:P.off=false) (hs:(P.used i).isSome=false) (w:World) (hp:PgAt w gp g mb kv ml mu P d) :
  Calls Tryz.prog 18 #[.pointer (some ⟨gp,0,none⟩),.int .u32 (i:Int)] w fun e w'=>e=.returned (.int .i64 71)∧Below w.heap.size w w':=by
 have HP:Hid _:=hp
 have HI:Hid _:=hi
 have hc:w.cell? ⟨gp,97+7,none⟩=some (.bool false):=by rw [hp.cell 7,←hoff];rfl
 have HGM:Hid (gp≠mu):=(PgAt.apart hp).2.2.2.2
 have HMU:Hid (∃es c,w.heap[mu]?=some (.map es c)):=hp.used.isMap
 have HS:Hid _:=hs
 have hm:=Mem.start w
 clear hp hs
 go_enter Tryz.func18,Tryz.ntmps18
 go_wp2_with (first
  | (go_at_call 29;refine (indexOf_any (i:Int) _).mono ?_;rintro e w1 ⟨rfl,hb⟩;replace hm:=hm.call hb;clear hb)
  | ((with_reducible refine at_op (some 5) (.alloc 79) ?_);refine wpl_alloc _ zero_idx hm ?_;clear hm;intro w2 gi hm)
  | ((with_reducible refine at_op none (.store 79 (.tmp 5) (.tmp 13)) ?_);refine wpl_stw 0 (u8s (four (i:Int))) hm rfl rfl rfl 4 sz_idx (by simp [u8s_length]) (rfl) (u8s_one _) ?_;clear hm;intro w3 hm))
 refine wp_ends0 ?_
 refine anyH_start (T:=fun W=>Mem w [] W [(gi,u8s (four (i:Int)),79)]) (by kernel_rfl) hm ?_
 clear hm
 intro wa hm
 refine aT 0 (v:=.pointer (some ⟨gp,0,none⟩)) rfl (by kernel_rfl) rfl (fun W _=>by go_simp) hm ?_
 go_simp
 refine aT 1 (v:=.pointer (some ⟨gp,0,none⟩)) rfl (by kernel_rfl) rfl (fun W _=>by go_simp) hm ?_
 go_simp
 refine aT 2 (v:=.pointer (some ⟨gp,103,none⟩)) rfl (by kernel_rfl) rfl (fun W _=>by go_simp) hm ?_
 go_simp
 refine aT 3 (v:=.map (some mu)) rfl (by kernel_rfl) rfl (fun W hW=>exec_ldx (.map (some mu)) ((PgAt.cell (PgAt.mem HP.out hW) 6).trans rfl) rfl ag_smap) hm ?_
 go_simp
 refine aT 4 (v:=idxV i) rfl (by kernel_rfl) rfl (fun W hW=>exec_ldsG 0 (u8s (four (i:Int))) (Mem.get hW 0 rfl) rfl _ un_idx rfl 4 sz_idx (by rw [u8s_length];exact Nat.le_refl _) rfl) hm ?_
 go_simp
 refine aT 5 (v:=.tuple #[stV (((P.used) i).getD 0),.bool ((P.used) i).isSome]) rfl (by kernel_rfl) rfl (fun W hW=>exec_stlook (PgAt.used (PgAt.mem HP.out hW)) i HI.out rfl rfl) hm ?_
 go_simp
 refine aT 6 (v:=.tuple #[stV (((P.used) i).getD 0),.bool ((P.used) i).isSome]) rfl (by kernel_rfl) rfl (fun W _=>by go_simp) hm ?_
 go_simp
 refine aT 7 (v:=stV (((P.used) i).getD 0)) rfl (by kernel_rfl) rfl (fun W _=>by go_simp) hm ?_
 go_simp
 refine aT 8 (v:=.bool ((P.used) i).isSome) rfl (by kernel_rfl) rfl (fun W _=>by go_simp) hm ?_
 go_simp
 refine aO 9 (by kernel_rfl) rfl rfl ?_
 intro K hK
 refine wpl_alloc _ zero_staL hm ?_
 clear hm
 intro waa wag hm
 refine wpList_nil ?_
 refine hK _ _ hm.tail ?_
 clear hK K
 refine aO 10 (by kernel_rfl) rfl rfl ?_
 intro K hK
 refine wpl_stw 0 (stC (((P.used) i).getD 0)) hm rfl rfl rfl 1 sz_sta rfl rfl (stC_one _) ?_
 clear hm
 intro wab hm
 refine wpList_nil ?_
 refine hK _ _ hm.tail ?_
 clear hK K
 refine aT 11 (v:=.bool (P.used i).isSome) rfl (by kernel_rfl) rfl (fun W _=>by go_simp) hm.tail ?_
 go_simp
 refine wpAnyH_done (by kernel_rfl) ?_ _
 simp only [endsIn]
 replace hm:Mem w [] wab [(gi,u8s (four (i:Int)),79)]:=hm.tail
 rw [HS.out]
 go_wp2_with fail
 go_ret
 exact ⟨rfl,hm.below⟩
theorem Mem.but {w0 w:World} {S:List Nat} {rows:List (Nat×List Value×TypeId)} (h:Mem w0 [] w rows):Mem w0 S w rows :=
 ⟨h.os,h.tape,h.output,h.size,fun k hk _=>h.block k hk (by simp),h.row,h.nodup,fun r hr=>(h.fresh r hr).elim (fun e=>absurd e (by simp)) Or.inr⟩
set_option maxHeartbeats 1000000 in
theorem free_ok (gp g mb:Nat) (kv:Value) (ml mu:Nat) (P:Pg) (d:Dk) (i:Nat) (hi:i<4294967296) (hoff:P.off=false) (hs:(P.used i).isSome=true) (w:World) (hp:PgAt w gp g mb kv ml mu P d) :
  Calls Tryz.prog 18 #[.pointer (some ⟨gp,0,none⟩),.int .u32 (i:Int)] w fun e w'=>e=.returned (.int .i64 0)∧PgAt w' gp g mb kv ml mu {P with used:=upf P.used i none} d∧UpdS (footP gp g mb kv ml mu) w w':=by
 have HP:Hid _:=hp
 have HI:Hid _:=hi
 have hc:w.cell? ⟨gp,97+7,none⟩=some (.bool false):=by rw [hp.cell 7,←hoff];rfl
 have HGM:Hid (gp≠mu):=(PgAt.apart hp).2.2.2.2
 have HMU:Hid (∃es c,w.heap[mu]?=some (.map es c)):=hp.used.isMap
 have HS:Hid _:=hs
 have hm:=Mem.start w
 clear hp hs
 go_enter Tryz.func18,Tryz.ntmps18
 go_wp2_with (first
  | (go_at_call 29;refine (indexOf_any (i:Int) _).mono ?_;rintro e w1 ⟨rfl,hb⟩;replace hm:=hm.call hb;clear hb)
  | ((with_reducible refine at_op (some 5) (.alloc 79) ?_);refine wpl_alloc _ zero_idx hm ?_;clear hm;intro w2 gi hm)
  | ((with_reducible refine at_op none (.store 79 (.tmp 5) (.tmp 13)) ?_);refine wpl_stw 0 (u8s (four (i:Int))) hm rfl rfl rfl 4 sz_idx (by simp [u8s_length]) (rfl) (u8s_one _) ?_;clear hm;intro w3 hm))
 refine wp_ends0 ?_
 refine anyH_start (T:=fun W=>Mem w [] W [(gi,u8s (four (i:Int)),79)]) (by kernel_rfl) hm ?_
 clear hm
 intro wa hm
 refine aT 0 (v:=.pointer (some ⟨gp,0,none⟩)) rfl (by kernel_rfl) rfl (fun W _=>by go_simp) hm ?_
 go_simp
 refine aT 1 (v:=.pointer (some ⟨gp,0,none⟩)) rfl (by kernel_rfl) rfl (fun W _=>by go_simp) hm ?_
 go_simp
 refine aT 2 (v:=.pointer (some ⟨gp,103,none⟩)) rfl (by kernel_rfl) rfl (fun W _=>by go_simp) hm ?_
 go_simp
 refine aT 3 (v:=.map (some mu)) rfl (by kernel_rfl) rfl (fun W hW=>exec_ldx (.map (some mu)) ((PgAt.cell (PgAt.mem HP.out hW) 6).trans rfl) rfl ag_smap) hm ?_
 go_simp
 refine aT 4 (v:=idxV i) rfl (by kernel_rfl) rfl (fun W hW=>exec_ldsG 0 (u8s (four (i:Int))) (Mem.get hW 0 rfl) rfl _ un_idx rfl 4 sz_idx (by rw [u8s_length];exact Nat.le_refl _) rfl) hm ?_
 go_simp
 refine aT 5 (v:=.tuple #[stV (((P.used) i).getD 0),.bool ((P.used) i).isSome]) rfl (by kernel_rfl) rfl (fun W hW=>exec_stlook (PgAt.used (PgAt.mem HP.out hW)) i HI.out rfl rfl) hm ?_
 go_simp
 refine aT 6 (v:=.tuple #[stV (((P.used) i).getD 0),.bool ((P.used) i).isSome]) rfl (by kernel_rfl) rfl (fun W _=>by go_simp) hm ?_
 go_simp
 refine aT 7 (v:=stV (((P.used) i).getD 0)) rfl (by kernel_rfl) rfl (fun W _=>by go_simp) hm ?_
 go_simp
 refine aT 8 (v:=.bool ((P.used) i).isSome) rfl (by kernel_rfl) rfl (fun W _=>by go_simp) hm ?_
 go_simp
 refine aO 9 (by kernel_rfl) rfl rfl ?_
 intro K hK
 refine wpl_alloc _ zero_staL hm ?_
 clear hm
 intro waa wag hm
 refine wpList_nil ?_
 refine hK _ _ hm.tail ?_
 clear hK K
 refine aO 10 (by kernel_rfl) rfl rfl ?_
 intro K hK
 refine wpl_stw 0 (stC (((P.used) i).getD 0)) hm rfl rfl rfl 1 sz_sta rfl rfl (stC_one _) ?_
 clear hm
 intro wab hm
 refine wpList_nil ?_
 refine hK _ _ hm.tail ?_
 clear hK K
 refine aT 11 (v:=.bool (P.used i).isSome) rfl (by kernel_rfl) rfl (fun W _=>by go_simp) hm.tail ?_
 go_simp
 refine wpAnyH_done (by kernel_rfl) ?_ _
 simp only [endsIn]
 replace hm:Mem w [] wab [(gi,u8s (four (i:Int)),79)]:=hm.tail
 rw [HS.out]
 go_wp2_with fail
 have HROW:Hid (∀W,Mem w [mu] W [(gi,u8s (four (i:Int)),79)]→Row W gp (hdP g P.kP P.kS P.kN++tlP P.gn P.root P.mt (some ml) (some mu) P.off) 77):=fun W hW=>by
  unfold Row
  rw [hW.block gp HP.out.row.lt (by simpa using HGM.out)]
  exact HP.out.row
 refine wp_ends0 ?_
 refine anyH_start (T:=fun W=>Mem w [mu] W [(gi,u8s (four (i:Int)),79)]) (by kernel_rfl) hm ?_
 clear hm
 intro wc hm
 refine aT 0 (v:=.pointer (some ⟨gp,0,none⟩)) rfl (by kernel_rfl) rfl (fun W _=>by go_simp) hm.but ?_
 go_simp
 refine aT 1 (v:=.pointer (some ⟨gp,0,none⟩)) rfl (by kernel_rfl) rfl (fun W _=>by go_simp) hm.but ?_
 go_simp
 refine aT 2 (v:=.pointer (some ⟨gp,103,none⟩)) rfl (by kernel_rfl) rfl (fun W _=>by go_simp) hm.but ?_
 go_simp
 refine aT 3 (v:=.map (some mu)) rfl (by kernel_rfl) rfl (fun W hW=>exec_ldx (.map (some mu)) (by rw [(HROW.out W hW).cell];exact (tl_get (PgAt.hlen HP.out) 6).trans rfl) rfl ag_smap) hm.but ?_
 go_simp
 refine aT 4 (v:=idxV i) rfl (by kernel_rfl) rfl (fun W hW=>exec_ldsG 0 (u8s (four (i:Int))) (Mem.get hW 0 rfl) rfl _ un_idx rfl 4 sz_idx (by rw [u8s_length];exact Nat.le_refl _) rfl) hm.but ?_
 go_simp
 refine aO 5 (by kernel_rfl) rfl rfl ?_
 intro K hK
 refine wpl_stdel (PgAt.used (PgAt.mem HP.out hm)) i HI.out rfl rfl ?_
 intro wd hs hu
 refine wpList_nil ?_
 have HPD:Hid _:=(PgAt.mem HP.out hm).setUsed hs hu
 have HUD:Hid (UpdS (footP gp g mb kv ml mu) w wd):=(UpdS.of_below hm.below).trans (UpdS.of_upd hu (by simp [footP]))
 obtain ⟨es,c,hmap⟩:=(PgAt.used (PgAt.mem HP.out hm)).isMap
 replace hm:=(Mem.but (S:=[mu]) hm).updO hmap (Or.inl (by simp)) hu
 clear hs hu hmap
 refine hK _ _ hm ?_
 clear hK K
 refine wpAnyH_done (by kernel_rfl) ?_ _
 simp only [endsIn]
 go_wp2_with fail
 go_ret
 exact ⟨rfl,HPD.out,HUD.out⟩
set_option maxHeartbeats 1000000 in
theorem alloc_ok (gp g mb:Nat) (kv:Value) (ml mu:Nat) (P:Pg) (d:Dk) (pg:Nat) (hn:d.n=32+8 * pg) (hpg:pg≤400) (hoff:P.off=false) (i:Nat) (hi:i<pg) (hfree:((P.used i).isSome||(P.last i).isSome)=false) (hlow:∀j,j<i→((P.used j).isSome||(P.last j).isSome)=true) (w:World) (hp:PgAt w gp g mb kv ml mu P d) :
  Calls Tryz.prog 8 #[.pointer (some ⟨gp,0,none⟩)] w fun e w'=>e=.returned (.tuple #[.int .u32 (i:Int),.int .i64 0])∧PgAt w' gp g mb kv ml mu {P with used:=upf P.used i (some 0)} d∧UpdS (footP gp g mb kv ml mu) w w':=by
 have HP:Hid _:=hp
 have hc:w.cell? ⟨gp,97+7,none⟩=some (.bool false):=by rw [hp.cell 7,←hoff];rfl
 have HGM:Hid (gp≠mu):=(PgAt.apart hp).2.2.2.2
 have HF:Hid _:=hfree
 have HL:Hid _:=hlow
 have hm:=Mem.start w
 clear hp hfree hlow
 go_enter Tryz.func8,Tryz.ntmps8
 go_wp2_with (first
  | (go_at_call 26;refine (plen_any gp g mb kv ml mu P d pg hn hpg _ HP.out).mono ?_;rintro e w1 ⟨rfl,rfl⟩))
 go_loopw [13] (fun vi wr=>∃k:Nat,k≤i∧vi=.int .u32 (k:Int)∧Mem w1 [] wr []) (fun vi _=>pg - (RowKit.intOf vi).toNat)
 case atStart=>exact ⟨0,by omega,rfl,hm⟩
 case round =>
  clear hm hc
  obtain ⟨k,hk,rfl,hm⟩:=hrel
  have hkp:(k:Int)<(pg:Int):=by omega
  by_cases hlt:k<i
  ·have HT:Hid _:=HL.out k hlt
   go_wp2_with (first
    | (go_at_call 29;refine (indexOf_any (k:Int) _).mono ?_;rintro e w2 ⟨rfl,hb⟩;replace hm:=hm.call hb;clear hb)
    | ((with_reducible refine at_op (some 5) (.alloc 79) ?_);refine wpl_alloc _ zero_idx hm ?_;clear hm;intro w3 gi hm)
    | ((with_reducible refine at_op none (.store 79 (.tmp 5) (.tmp 17)) ?_);refine wpl_stw 0 (u8s (four (k:Int))) hm rfl rfl rfl 4 sz_idx (by simp [u8s_length]) (rfl) (u8s_one _) ?_;clear hm;intro w4 hm)
    | ((with_reducible refine at_op (some 19) (.load 79 (.tmp 5)) ?_);refine wpl_ldw 0 hm rfl rfl _ un_idx rfl 4 sz_idx (rfl) ?_)
    | (go_at_call 30;refine (taken_any gp g mb kv ml mu P d k (by omega) _ (PgAt.mem HP.out hm)).mono ?_;rintro e w5 ⟨he,hb⟩;rw [HT.out] at he;subst he;replace hm:=hm.call hb;clear hb))
   go_roundw
   case rel=>exact ⟨k+1,by omega,by go_num,hm.tail⟩
   case measure=>simp [RowKit.intOf];omega
  ·obtain rfl:k=i:=by omega
   go_wp2_with (first
    | (go_at_call 29;refine (indexOf_any (k:Int) _).mono ?_;rintro e w2 ⟨rfl,hb⟩;replace hm:=hm.call hb;clear hb)
    | ((with_reducible refine at_op (some 5) (.alloc 79) ?_);refine wpl_alloc _ zero_idx hm ?_;clear hm;intro w3 gi hm)
    | ((with_reducible refine at_op none (.store 79 (.tmp 5) (.tmp 17)) ?_);refine wpl_stw 0 (u8s (four (k:Int))) hm rfl rfl rfl 4 sz_idx (by simp [u8s_length]) (rfl) (u8s_one _) ?_;clear hm;intro w4 hm)
    | ((with_reducible refine at_op (some 19) (.load 79 (.tmp 5)) ?_);refine wpl_ldw 0 hm rfl rfl _ un_idx rfl 4 sz_idx (rfl) ?_)
    | (go_at_call 30;refine (taken_any gp g mb kv ml mu P d k (by omega) _ (PgAt.mem HP.out hm)).mono ?_;rintro e w5 ⟨he,hb⟩;rw [HF.out] at he;subst he;replace hm:=hm.call hb;clear hb))
   replace hm:Mem w1 [] w5 [(gi,u8s (four (k:Int)),79)]:=hm
   have HROW:Hid (∀W,Mem w1 [mu] W [(gi,u8s (four (k:Int)),79)]→Row W gp (hdP g P.kP P.kS P.kN++tlP P.gn P.root P.mt (some ml) (some mu) P.off) 77):=fun W hW=>by
    unfold Row
    rw [hW.block gp HP.out.row.lt (by simpa using HGM.out)]
    exact HP.out.row
   refine wp_ends0 ?_
   refine anyH_start (T:=fun W=>Mem w1 [mu] W [(gi,u8s (four (k:Int)),79)]) (by kernel_rfl) hm ?_
   clear hm
   intro wc hm
   refine aT 0 (v:=.pointer (some ⟨gp,0,none⟩)) rfl (by kernel_rfl) rfl (fun W _=>by go_simp) hm.but ?_
   go_simp
   refine aT 1 (v:=.pointer (some ⟨gp,0,none⟩)) rfl (by kernel_rfl) rfl (fun W _=>by go_simp) hm.but ?_
   go_simp
   refine aT 2 (v:=.pointer (some ⟨gp,103,none⟩)) rfl (by kernel_rfl) rfl (fun W _=>by go_simp) hm.but ?_
   go_simp
   refine aT 3 (v:=.map (some mu)) rfl (by kernel_rfl) rfl (fun W hW=>exec_ldx (.map (some mu)) (by rw [(HROW.out W hW).cell];exact (tl_get (PgAt.hlen HP.out) 6).trans rfl) rfl ag_smap) hm.but ?_
   go_simp
   refine aT 4 (v:=idxV k) rfl (by kernel_rfl) rfl (fun W hW=>exec_ldsG 0 (u8s (four (k:Int))) (Mem.get hW 0 rfl) rfl _ un_idx rfl 4 sz_idx (by rw [u8s_length];exact Nat.le_refl _) rfl) hm.but ?_
   go_simp
   refine aT 5 (v:=stV 0) rfl (by kernel_rfl) rfl (fun W _=>exec_built (stC 0) [] (by simp) built_sta) hm.but ?_
   go_simp
   refine aO 6 (by kernel_rfl) rfl rfl ?_
   intro K hK
   refine wpl_stput (PgAt.used (PgAt.mem HP.out hm)) k (by omega) 0 rfl rfl rfl ?_
   intro wd hs hu
   refine wpList_nil ?_
   have HPD:Hid _:=(PgAt.mem HP.out hm).setUsed hs hu
   have HUD:Hid (UpdS (footP gp g mb kv ml mu) w1 wd):=(UpdS.of_below hm.below).trans (UpdS.of_upd hu (by simp [footP]))
   obtain ⟨es,c,hmap⟩:=(PgAt.used (PgAt.mem HP.out hm)).isMap
   replace hm:=(Mem.but (S:=[mu]) hm).updO hmap (Or.inl (by simp)) hu
   clear hs hu hmap
   refine hK _ _ hm ?_
   clear hK K
   refine wpAnyH_done (by kernel_rfl) ?_ _
   simp only [endsIn]
   go_wp2_with fail
   go_ret2
   exact ⟨rfl,HPD.out,HUD.out⟩
set_option maxHeartbeats 1000000 in
theorem alloc_full (gp g mb:Nat) (kv:Value) (ml mu:Nat) (P:Pg) (d:Dk) (pg:Nat) (hn:d.n=32+8 * pg) (hpg:pg≤400) (hoff:P.off=false) (hfull:∀j,j<pg→((P.used j).isSome||(P.last j).isSome)=true) (w:World) (hp:PgAt w gp g mb kv ml mu P d) :
  Calls Tryz.prog 8 #[.pointer (some ⟨gp,0,none⟩)] w fun e w'=>e=.returned (.tuple #[.int .u32 0,.int .i64 70])∧Below w.heap.size w w':=by
 have HP:Hid _:=hp
 have hc:w.cell? ⟨gp,97+7,none⟩=some (.bool false):=by rw [hp.cell 7,←hoff];rfl
 have HL:Hid _:=hfull
 have hm:=Mem.start w
 clear hp hfull
 go_enter Tryz.func8,Tryz.ntmps8
 go_wp2_with (first
  | (go_at_call 26;refine (plen_any gp g mb kv ml mu P d pg hn hpg _ HP.out).mono ?_;rintro e w1 ⟨rfl,rfl⟩))
 go_loopw [13] (fun vi wr=>∃k:Nat,k≤pg∧vi=.int .u32 (k:Int)∧Mem w1 [] wr []) (fun vi _=>pg - (RowKit.intOf vi).toNat)
 case atStart=>exact ⟨0,by omega,rfl,hm⟩
 case round =>
  clear hm hc
  obtain ⟨k,hk,rfl,hm⟩:=hrel
  by_cases hlt:k<pg
  ·have hkp:(k:Int)<(pg:Int):=by omega
   have HT:Hid _:=HL.out k hlt
   go_wp2_with (first
    | (go_at_call 29;refine (indexOf_any (k:Int) _).mono ?_;rintro e w2 ⟨rfl,hb⟩;replace hm:=hm.call hb;clear hb)
    | ((with_reducible refine at_op (some 5) (.alloc 79) ?_);refine wpl_alloc _ zero_idx hm ?_;clear hm;intro w3 gi hm)
    | ((with_reducible refine at_op none (.store 79 (.tmp 5) (.tmp 17)) ?_);refine wpl_stw 0 (u8s (four (k:Int))) hm rfl rfl rfl 4 sz_idx (by simp [u8s_length]) (rfl) (u8s_one _) ?_;clear hm;intro w4 hm)
    | ((with_reducible refine at_op (some 19) (.load 79 (.tmp 5)) ?_);refine wpl_ldw 0 hm rfl rfl _ un_idx rfl 4 sz_idx (rfl) ?_)
    | (go_at_call 30;refine (taken_any gp g mb kv ml mu P d k (by omega) _ (PgAt.mem HP.out hm)).mono ?_;rintro e w5 ⟨he,hb⟩;rw [HT.out] at he;subst he;replace hm:=hm.call hb;clear hb))
   go_roundw
   case rel=>exact ⟨k+1,by omega,by go_num,hm.tail⟩
   case measure=>simp [RowKit.intOf];omega
  ·obtain rfl:k=pg:=by omega
   have hni:¬(k:Int)<(k:Int):=by omega
   go_wp2_with fail
   go_ret2
   exact ⟨rfl,hm.below⟩
open Go Go.RowKit Go.Maps
open Go.Shelf
theorem StM.cloned {w:World} {m:Nat} {p:Sts} (h:StM w m p):∃es c,w.heap[m]?=some (.map es c)∧StM (w.alloc (.map es c)) w.heap.size p:=by
 obtain ⟨q,D,⟨es,c,hb,F,hs,hD⟩,pm⟩:=h
 exact ⟨es,c,hb,q,D,⟨es,c,heap_alloc_new w _,F,hs,hD⟩,pm⟩
set_option maxHeartbeats 2000000 in
theorem cloneS_raw (mb:Nat) (es:Array MapEntry) (clock:Nat) (w:World) (hb:w.heap[mb]?=some (.map es clock)) :
  Calls Tryz.prog 51 #[.map (some mb)] w fun e w'=>e=.returned (.map (some w.heap.size))∧w'=w.alloc (.map es clock):=by
 have hq:=fun w=>run_eql_map_nil_sl (P:=Tryz.prog) w 73 _ _ (some mb) un_smap
 go_enter Tryz.func51,Tryz.ntmps51
 go_wp2_with fail
 rw [run_callFunc_extern Tryz.func85 (by kernel_rfl) (by kernel_rfl) (by kernel_rfl) (e:=Extern.MapsClone.clone) (by kernel_rfl),run_maps_clone_sl w 73 hb]
 simp only [Result.andThen]
 rw [Oper.upon_value]
 go_wp2_with fail
 rw [run_typeAssert_map_sl _ 73 _ _ _ _ un_smap]
 simp only [Result.andThen]
 rw [Oper.upon_value]
 go_wp2_with fail
 go_ret
 exact ⟨rfl,rfl⟩
theorem cloneS (m:Nat) (p:Sts) (w:World) (h:StM w m p) :
  Calls Tryz.prog 51 #[.map (some m)] w fun e w'=>∃m',e=.returned (.map (some m'))∧w.heap.size≤m'∧StM w' m' p∧Below w.heap.size w w':=by
 obtain ⟨es,c,hb,hs⟩:=h.cloned
 refine (cloneS_raw m es c w hb).mono ?_
 rintro e w' ⟨rfl,rfl⟩
 exact ⟨_,rfl,Nat.le_refl _,hs,(Below.refl _ _).alloc (Nat.le_refl _) _⟩
theorem kl_ex:∃kl:Nat→Lit,∀i,i<4294967296→IsK i (kl i):=by
 refine ⟨fun i=>(keyOf Tryz.prog 79 (idxV i)).getD (.bool true),fun i hi=>?_⟩
 obtain ⟨k,hk⟩:=IsK.ex i hi
 refine ⟨hi,?_⟩
 simp [hk.2]
def gone (kl:Nat→Lit) (left:Lit→Bool) (p:Sts):Sts:=fun i=>if left (kl i)=true then none else p i
theorem gone_step {kl:Nat→Lit} {left:Lit→Bool} {p:Sts} {D:DataW Value} {i:Nat} {k:Lit} {s:Nat} (hkl:∀i,i<4294967296→IsK i (kl i)) (pm:SM D p) (hik:IsK i k) (hps:p i=some s):upf (gone kl left p) i (some s)=gone kl (fun z=>left z && !z.sameKey k) p:=by
 have hk9:kl i=k:=(hkl i hik.1).uni hik
 funext j
 show (if j=i then some s else if left (kl j)=true then none else p j)=if (left (kl j) && !(kl j).sameKey k)=true then none else p j
 by_cases hj:j=i
 ·subst hj
  rw [if_pos rfl,hk9,if_neg (by rw [WideAt.sameKey_self hik.lit];simp),hps]
 ·rw [if_neg hj]
  by_cases hjl:j<4294967296
  ·have hne9:kl j≠k:=fun e=>hj ((hkl j hjl).inj (e▸hik))
   rw [sameKey_ne hne9]
   simp
  ·cases hp:p j with
   | none=>simp
   | some t=>exact absurd (pm.dom j t hp) (by omega)
set_option maxHeartbeats 2000000 in
theorem copyS (m1 m2:Nat) (p:Sts) (hne:m1≠m2) (w:World) (h1:StM w m1 (fun _=>none)) (h2:StM w m2 p) :
  Calls Tryz.prog 78 #[.map (some m1),.map (some m2)] w fun e w'=>e=.returned (.tuple #[])∧StM w' m1 p∧UpdS [m1] w w':=by
 obtain ⟨kl,hkl⟩:=kl_ex
 have HKL:Hid (∀i,i<4294967296→IsK i (kl i)):=hkl
 obtain ⟨qn,D,ho,pm⟩:=h2
 have HOW:Hid (w.ownsMap Tryz.prog 79 rdV m2 qn D):=ho
 have HPM:Hid (SM D p):=pm
 have HS1:Hid (StM w m1 (fun _=>none)):=h1
 have HLT1:Hid (m1<w.heap.size):=h1.lt
 clear ho pm h1 hkl
 go_enter Tryz.func78,Tryz.ntmps78
 go_wp2_with (first
  | ((with_reducible refine at_op (some 7) (.range 73 (.tmp 6)) ?_);go_must (refine wpList_range_own _ rfl _ _ rfl 79 83 idx_law un_smap rdV m2 qn D rfl HOW.out ?_);intro w2 hrg0 hg0 hs0))
 have hb2:Below w.heap.size w w2:=⟨hg0.os,hg0.tape,hg0.output,hg0.size,fun k hk=>hg0.block k hk (by simp)⟩
 have HST:Hid (StM w2 m1 (gone kl (Maps.has D) p)∧UpdS [m1] w w2):=by
  refine ⟨?_,UpdS.of_below hb2⟩
  have e:gone kl (Maps.has D) p=fun _=>none:=by
   funext i
   unfold gone
   by_cases hi:i<4294967296
   ·rw [HPM.out.has i (kl i) (HKL.out i hi)]
    cases hp:p i<;>simp
   ·split
    ·rfl
    ·cases hp:p i with
     | none=>rfl
     | some s=>exact absurd (HPM.out.dom i s hp) (by omega)
  rw [e]
  exact HS1.out.below hb2
 have HRG:Hid (w2.ranges Tryz.prog 79 rdV m2 w.heap.size qn D (Maps.has D) (Maps.size D)):=hrg0
 clear hrg0 hg0 hs0 hb2 HOW
 go_frame
 go_loopw [8] (fun _ wr=>∃(left:Lit→Bool) (cnt:Nat),wr.ranges Tryz.prog 79 rdV m2 w.heap.size qn D left cnt∧StM wr m1 (gone kl left p)∧UpdS [m1] w wr)
  (fun _ wr=>wr.rangeLeft m2 w.heap.size)
 case atStart=>exact ⟨_,_,HRG.out,HST.out.1,HST.out.2⟩
 case round =>
  obtain ⟨left,cnt,hrg,hdr,hur⟩:=hrel
  have HR:Hid (StM wr m1 (gone kl left p)):=hdr
  have HUR:Hid (UpdS [m1] w wr):=hur
  have HRR:Hid (wr.ranges Tryz.prog 79 rdV m2 w.heap.size qn D left cnt):=hrg
  clear hdr hur HRG HST hrg
  go_wp2_with (first
   | (at_next;refine wpList_next_ranges _ rfl _ rfl 79 idx_law rdV idxV id (fun key kl hk=>by obtain ⟨i,_,hi⟩:=IsK.of hk;exact ⟨i,hi⟩) (fun v _ _=>⟨v,rfl⟩) m2 w.heap.size qn D _ _ rfl HRR.out ?_ ?_)
   | go_in)
  ·intro _ hl0
   have HL0:Hid (∀kl,left kl=false):=hl0
   clear hl0
   go_wp2_with fail
   go_end0
   refine ⟨rfl,?_,HUR.out⟩
   have e:gone kl left p=p:=by
    funext i
    unfold gone
    rw [HL0.out]
    rfl
   rw [←e]
   exact HR.out
  ·intro x c k yd yp w3 cnt3 hkey hlk hv hat hrg3 hlt hg3 hs3 hen
   obtain ⟨i,hik,hxi⟩:=IsK.of hkey
   rw [hxi] at hen ⊢
   clear hxi hkey
   have hhas:Maps.has D k=true:=has_true_of_atKey hat
   rw [HPM.out.has i k hik] at hhas
   obtain ⟨s,hps⟩:=Option.isSome_iff_exists.1 hhas
   have hc:c=stV s:=by
    have h1:=HPM.out.val i k s hik hps (.held c)
    rw [hat] at h1
    have h2:=rdV_inj hv
    rw [h2] at h1
    simpa using h1
   subst hc
   have hi4:=HPM.out.dom i s hps
   have HRG3:Hid (w3.ranges Tryz.prog 79 rdV m2 w.heap.size qn D (fun z=>left z && !z.sameKey k) cnt3):=hrg3
   have HLT:Hid (cnt3<cnt):=hlt
   have HRL:Hid (wr.rangeLeft m2 w.heap.size=cnt):=HRR.out.left_eq
   have HM1:Hid (StM w3 m1 (gone kl left p)):=HR.out.keep (hg3.block m1 HR.out.lt (fun e=>by have:=HLT1.out;simp only [Option.some.injEq] at e;omega))
   have HU3:Hid (UpdS [m1] w w3):=by
    refine ⟨hg3.os.trans HUR.out.os,hg3.tape.trans HUR.out.tape,hg3.output.trans HUR.out.output,Nat.le_trans HUR.out.size hg3.size,fun z hz hn=>?_⟩
    refine (hg3.block z (Nat.lt_of_lt_of_le hz HUR.out.size) (fun e=>?_)).trans (HUR.out.block z hz hn)
    simp only [Option.some.injEq] at e
    omega
   have HGO:Hid (∀_:Unit,upf (gone kl left p) i (some s)=gone kl (fun z=>left z && !z.sameKey k) p):=fun _=>gone_step HKL.out HPM.out hik hps
   have hm:=Mem.start w3
   clear hlk hv hat hg3 hs3 hhas hps HR HUR hrg3 HRR hlt
   go_wp2_with (first
    | ((with_reducible refine at_op (some 4) (.alloc 79) ?_);refine wpl_alloc _ zero_idx hm ?_;clear hm;intro w4 ga hm)
    | ((with_reducible refine at_op (some 5) (.alloc 83) ?_);refine wpl_alloc _ zero_staL hm ?_;clear hm;intro w5 gb hm)
    | ((with_reducible refine at_op none (.store 79 (.tmp 4) (.tmp 11)) ?_);refine wpl_stw 1 (u8s (four (i:Int))) hm rfl rfl rfl 4 sz_idx (by simp [u8s_length]) (rfl) (u8s_one _) ?_;clear hm;intro w6 hm)
    | ((with_reducible refine at_op none (.store 83 (.tmp 5) (.tmp 12)) ?_);refine wpl_stw 0 (stC s) hm rfl rfl rfl 1 sz_sta rfl rfl (stC_one _) ?_;clear hm;intro w7 hm)
    | ((with_reducible refine at_op (some 14) (.load 79 (.tmp 4)) ?_);refine wpl_ldw 1 hm rfl rfl _ un_idx rfl 4 sz_idx (rfl) ?_)
    | ((with_reducible refine at_op (some 15) (.load 83 (.tmp 5)) ?_);obtain ⟨fs,hfs⟩:=un_sta;go_must (refine wpl_ldw 0 hm rfl rfl _ hfs rfl 1 sz_sta rfl ?_);clear hfs fs)
    | ((with_reducible refine at_op none (.mapUpdate 73 (.tmp 13) (.tmp 14) (.tmp 15)) ?_);go_must (refine wpl_stput (HM1.out.below hm.below) i hi4 s rfl rfl rfl ?_);intro w8 hs8 hu8;have HS8:Hid _:=hs8;have HU8:Hid _:=hu8;clear hs8 hu8))
   have hrg8:=World.ranges.kept (World.ranges.kept HRG3.out (grown_of_below hm.below) (by simp) (by simp)) (grown_of_upd HU8.out) (by intro e;exact hne (Option.some.inj e).symm) (by intro e;have h9:=Option.some.inj e;have:=HLT1.out;omega)
   have HRG8:Hid (w8.ranges Tryz.prog 79 rdV m2 w.heap.size qn D (fun z=>left z && !z.sameKey k) cnt3):=hrg8
   have HRL8:Hid (w8.rangeLeft m2 w.heap.size=cnt3):=hrg8.left_eq
   have HUF:Hid (UpdS [m1] w w8):=(HU3.out.trans (UpdS.of_below hm.below)).trans (UpdS.of_upd HU8.out (by simp))
   clear hrg8
   go_frame
   go_roundw
   case rel=>exact ⟨_,_,HRG8.out,by rw [←HGO.out ()];exact HS8.out,HUF.out⟩
   case measure=>rw [HRL8.out,HRL.out];exact HLT.out
set_option maxHeartbeats 1000000 in
theorem copyS_nil (m1:Nat) (w:World) :
  Calls Tryz.prog 78 #[.map (some m1),.map none] w fun e w'=>e=.returned (.tuple #[])∧Below w.heap.size w w':=by
 have hr:=fun W=>run_range_nilMap (P:=Tryz.prog) W 73 79 83 un_smap
 go_enter Tryz.func78,Tryz.ntmps78
 go_wp2_with fail
 have hnx:=fun ty=>run_next_nilMap (P:=Tryz.prog) w ty 0 0 #[]
 refine wp_loop_rounds 1 ?_
 rw [rounds_succ]
 go_wp2_with fail
 go_end0
 exact ⟨rfl,(Below.refl _ _).alloc (Nat.le_refl _) _⟩
end Go.Proofs.YtdkkdkgdaambiaaGreatDoor
