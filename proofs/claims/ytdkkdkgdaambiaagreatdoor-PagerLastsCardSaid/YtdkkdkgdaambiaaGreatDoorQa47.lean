import Derived.Test.YtdkkdkgdaambiaaGreatDoorQa46
set_option maxRecDepth 100000
namespace Go.Proofs.YtdkkdkgdaambiaaGreatDoor
open Go Go.RowKit Go.Maps
theorem begun_rs (w:World) (ht:Tab w) (hq:QTab w) (hw2:2≤w.heap.size) :
  Calls Tryz.prog 7 #[.int .i64 8] w fun e w'=>∃gp g mb kv gm q1 q2,e=.returned (.tuple #[.pointer (some ⟨g,0,none⟩),.pointer (some ⟨gp,0,none⟩),.pointer (some ⟨gm,0,none⟩),.bool true])∧PgS w w' gp g mb kv (deriveOf kNine labPage 0) 8 132 (fun _=>none) (fun _=>none) 0 {data:=#[]}∧Row w' gm (modC q1 q2 8) 67∧Row w' q1 (zPg 8) 118∧w.heap.size≤q1:=by
 refine Calls.mono (begun_r 8 (by omega) (by omega) w ht hq hw2) ?_
 rintro e w' ⟨gp,g,mb,kv,ml,mu,d',gm,q1,q2,he,hp,hon,hdn,hlo,hr,hr1,hq1,hge,hb⟩
 exact ⟨gp,g,mb,kv,gm,q1,q2,he,⟨ml,mu,_,d',hp,rfl,hon,hdn,rfl,rfl,rfl,⟨by omega,by omega⟩,by decide,⟨by show 1≤3;omega,by show 3≤1000;omega,by show 3≤3;omega,by show 3≤4;omega,by show 8 * 3≤8 * 3+132;omega,by show 4≤3+1+132;omega⟩,hlo,fun _=>trivial,fun _=>trivial,ht.bel hb,hq.bel hb,fun q hq=>hge q (List.mem_cons_of_mem _ hq),hw2,hb⟩,hr,hr1,hq1⟩
def lB (bs:List Int) (j:Nat):Option (List Int):=if j=0 then some bs else none
theorem uB_is (bs:List Int) (j:Nat):upf (upf (fun _=>none) 0 (some none)) 0 (some (some bs)) j=(lB bs j).map some:=by
 unfold upf lB
 split<;>rfl
theorem lB_some (bs:List Int) (j:Nat):(lB bs j).isSome=decide (j=0):=by
 unfold lB
 split
 ·next h=>simp [h]
 ·next h=>simp [h]
theorem five_bytes:Bytes (strB {data:=#[102,105,118,101]}):=by
 intro x hx
 have e:strB {data:=#[102,105,118,101]}=[102,105,118,101]:=rfl
 rw [e] at hx
 simp only [List.mem_cons,List.not_mem_nil,or_false] at hx
 rcases hx with rfl | rfl | rfl | rfl<;>omega
theorem Stp.Good.old {x:Stp} {w W:World} (h:x.Good w) (hb:Below w.heap.size w W):SlOld W (.slice x.pb x.bs.length x.cb) x.bs:=SlOld.below h.sb hb
theorem step_not {w:World} {q:Nat} {l:List Value} (hr:Row w q l 51):¬Mine w q:=by
 rintro (⟨es,c,h⟩ | ⟨l',h⟩ | ⟨l',h⟩ | ⟨l',h⟩)
 ·exact row_ne_map hr h rfl
 all_goals
  unfold Row at h hr
  rw [hr] at h
  simp only [Option.some.injEq,Obj.cells.injEq] at h
  exact absurd h.2.1 (by decide)
theorem row_fr {w w':World} {q:Nat} {l:List Value} (hr:Row w q l 51) (hf:Fr w w'):Row w' q l 51:=by
 have h:=hf q hr.lt (step_not hr)
 unfold Row at hr ⊢
 rw [h]
 exact hr
theorem up_0 {U:Nat→Option (Option (List Int))} {m:Nat} {x y:Option (Option (List Int))} (hm:1≤m) (h:U 0=y):upf U m x 0=y:=by
 unfold upf
 rw [if_neg (by omega)]
 exact h
theorem up_isS {U:Nat→Option (Option (List Int))} {m:Nat} {x:Option (List Int)} (h:∀j,(U j).isSome=decide (j<m)):∀j,(upf U m (some x) j).isSome=decide (j<m+1):=fun j=>by
 unfold upf
 split
 ·next e=>subst e;simp
 ·next e =>
  rw [h j]
  simp only [decide_eq_decide]
  omega
theorem up_isS2 {U:Nat→Option (Option (List Int))} {m:Nat} {x y:Option (List Int)} (h:∀j,(U j).isSome=decide (j<m)):∀j,(upf (upf U m (some x)) m (some y) j).isSome=decide (j<m+1):=fun j=>by
 have h2:=up_isS (x:=x) h j
 unfold upf at h2 ⊢
 split
 ·next e=>subst e;simp
 ·next e =>
  rw [if_neg e] at h2
  exact h2
theorem row_frP {w w':World} {q:Nat} {l:List Value} (hr:Row w q l 118) (hf:Fr w w'):Row w' q l 118:=by
 have h:=hf q hr.lt (page_not hr)
 unfold Row at hr ⊢
 rw [h]
 exact hr
theorem row_frM {w w':World} {q:Nat} {l:List Value} (hr:Row w q l 67) (hf:Fr w w'):Row w' q l 67:=by
 have hn:¬Mine w q:=by
  rintro (⟨es,c,h⟩ | ⟨l',h⟩ | ⟨l',h⟩ | ⟨l',h⟩)
  ·exact row_ne_map hr h rfl
  all_goals
   unfold Row at h hr
   rw [hr] at h
   simp only [Option.some.injEq,Obj.cells.injEq] at h
   exact absurd h.2.1 (by decide)
 have h:=hf q hr.lt hn
 unfold Row at hr ⊢
 rw [h]
 exact hr
theorem ag_intL:∀w,(isAgg 3).run Tryz.prog w=.ok false w:=by intro w;simp [go_sem]
set_option maxHeartbeats 1000000 in
theorem plasts_few (p pb:Option Addr) (len cap n cb:Nat) (hl:20<len∨480<n) (w:World) (ht:Tab w) (hq:QTab w) (hw2:2≤w.heap.size) :
  Calls Tryz.prog 5 #[.slice p len cap,.slice pb n cb] w fun e w'=>e=.returned (.bool true)∧Below w.heap.size w w':=by
 have HT:Hid (Tab w):=ht
 have HQ:Hid (QTab w):=hq
 clear ht hq
 by_cases h20:20<len
 ·have e20:(20:Int)<(len:Int):=by omega
  clear hl h20
  go_enter Tryz.func5,Tryz.ntmps5
  go_wp2_with (first
   | (go_at_call 6;refine (known7_any _ HT.out HQ.out hw2).mono ?_;rintro e w1 ⟨rfl,hb⟩;have HB1:Hid (Below w.heap.size w w1):=hb;clear hb))
  go_ret
  exact ⟨rfl,HB1.out⟩
 ·have e20:¬(20:Int)<(len:Int):=by omega
  have e480:(480:Int)<(n:Int):=by omega
  clear hl h20
  go_enter Tryz.func5,Tryz.ntmps5
  go_wp2_with (first
   | (go_at_call 6;refine (known7_any _ HT.out HQ.out hw2).mono ?_;rintro e w1 ⟨rfl,hb⟩;have HB1:Hid (Below w.heap.size w w1):=hb;clear hb))
  go_ret
  exact ⟨rfl,HB1.out⟩
set_option maxHeartbeats 4000000 in
theorem plasts_many (len cap b o cb:Nat) (p pb:Option Addr) (X:Nat→Stp) (bs:List Int) (hp:0<len→p=some ⟨b,o,none⟩) (hl20:len≤20) (hbl:bs.length≤480) (hbb:Bytes bs) (w:World) (hvb:SlOld w (.slice pb bs.length cb) bs) (hel:∀i,i<len→(∀j u,(X i).row[j]?=some u→w.cell? ⟨b,o+i * 6+j,none⟩=some u)∧(X i).Good w) (ht:Tab w) (hq:QTab w) (hw2:2≤w.heap.size) :
  Calls Tryz.prog 5 #[.slice p len cap,.slice pb bs.length cb] w fun e w'=>e=.returned (.bool true)∧Below w.heap.size w w':=by
 have HT:Hid (Tab w):=ht
 have HQ:Hid (QTab w):=hq
 clear ht hq
 have e20:¬(20:Int)<(len:Int):=by omega
 have e480:¬(480:Int)<(bs.length:Int):=by omega
 have e20b:decide ((20:Int)<(len:Int))=false:=by simp;omega
 have e480b:decide ((480:Int)<(bs.length:Int))=false:=by simp;omega
 obtain ⟨kP,hkP⟩:∃x,x=deriveOf kNine labPage 0:=⟨_,rfl⟩
 have HKP:Hid (∀_:Unit,deriveOf kNine labPage 0=kP):=fun _=>hkP.symm
 have HBB:Hid (Bytes bs):=hbb
 have HE0:Hid (∀i,i<len→(∀j u,(X i).row[j]?=some u→w.cell? ⟨b,o+i * 6+j,none⟩=some u)∧(X i).Good w):=hel
 have HV0:Hid (SlOld w (.slice pb bs.length cb) bs):=hvb
 have HPP:Hid (0<len→p=some ⟨b,o,none⟩):=hp
 clear hkP hel hbb hvb hp
 go_enter Tryz.func5,Tryz.ntmps5
 go_wp2_with (first
  | (go_at_call 6;refine (known7_any _ HT.out HQ.out hw2).mono ?_;rintro e w1 ⟨rfl,hb⟩;have HB1:Hid (Below w.heap.size w w1):=hb;clear hb)
  | (go_at_call 7;refine (begun_rs w1 (HT.out.bel HB1.out) (HQ.out.bel HB1.out) (Nat.le_trans hw2 HB1.out.size)).mono ?_;rintro e w2 ⟨gp,g,mb,kv,gm,q1,q2,rfl,hs,hrm,hr1,hq1⟩;rw [HKP.out ()] at hs;have HS:Hid (PgS w1 w2 gp g mb kv kP 8 (132) (fun _=>none) (fun _=>none) 0 {data:=#[]}):=hs;have HRM:Hid (Row w2 gm (modC q1 q2 8) 67∧Row w2 q1 (zPg 8) 118∧w1.heap.size≤q1):=⟨hrm,hr1,hq1⟩;clear hs hrm hr1 hq1))
 have HEL:Hid (∀i,i<len→∀W,Below w1.heap.size w1 W→(∀j u,(X i).row[j]?=some u→W.cell? ⟨b,o+i * 6+j,none⟩=some u)∧SlN w1 W (.slice (X i).pb (X i).bs.length (X i).cb) (X i).bs):=fun i hi W hW=>by
  have hb:=HB1.out.trans (hW.mono HB1.out.size)
  exact ⟨fun j u hu=>cell_old ((HE0.out i hi).1 j u hu) hb,sln_old (HE0.out i hi).2.sb hb HB1.out.size⟩
 have HXB:Hid (∀i,i<len→Bytes (X i).bs):=fun i hi=>(HE0.out i hi).2.bb
 have HVB:Hid (∀W,Below w1.heap.size w1 W→SlN w1 W (.slice pb bs.length cb) bs∧SlOld W (.slice pb bs.length cb) bs):=fun W hW=>by
  have hb:=HB1.out.trans (hW.mono HB1.out.size)
  exact ⟨sln_old HV0.out hb HB1.out.size,SlOld.below HV0.out hb⟩
 have HFIN:Hid (∀W,Below w1.heap.size w1 W→Below w.heap.size w W):=fun W hW=>HB1.out.trans (hW.mono HB1.out.size)
 clear HE0 HKP HV0
 refine (alloc_s (by omega) 0 (by omega) rfl (fun j hj=>by omega) _ HS.out).mono ?_
 rintro e w3 ⟨rfl,hs,hf⟩
 replace HS:Hid (PgS w1 w3 gp g mb kv kP 8 (132) (upf (fun _=>none) 0 (some none)) (fun _=>none) 0 {data:=#[]}):=hs
 have HR3:Hid (Row w3 gm (modC q1 q2 8) 67∧Row w3 q1 (zPg 8) 118):=⟨row_frM HRM.out.1 hf,row_frP HRM.out.2.1 hf⟩
 clear hs hf
 go_wp2_with (first
  | (go_at_call 9;refine (write_s 0 bs _ (by omega) (by omega) rfl hbl HBB.out (by omega) _ (HVB.out _ (PgS.bl HS.out)).1 HS.out).mono ?_;rintro e w4 ⟨rfl,hs,hf⟩;replace HS:Hid (PgS w1 w4 gp g mb kv kP 8 (132+74) (upf (upf (fun _=>none) 0 (some none)) 0 (some (some bs))) (fun _=>none) 0 {data:=#[]}):=hs;replace HR3:Hid (Row w4 gm (modC q1 q2 8) 67∧Row w4 q1 (zPg 8) 118):=⟨row_frM HR3.out.1 hf,row_frP HR3.out.2 hf⟩;clear hs hf)
  | (go_at_call 10;refine (commit_s 5 {data:=#[102,105,118,101]} (lB bs) (uB_is bs) (by omega) ⟨by omega,by omega⟩ (by decide) five_bytes (by omega) _ HS.out).mono ?_;rintro e w5 ⟨rfl,hs,hf⟩;replace HS:Hid (PgS w1 w5 gp g mb kv kP 8 (132+74+66) (upf (upf (fun _=>none) 0 (some none)) 0 (some (some bs))) (lB bs) 5 {data:=#[102,105,118,101]}):=hs;replace HR3:Hid (Row w5 gm (modC q1 q2 8) 67∧Row w5 q1 (zPg 8) 118):=⟨row_frM HR3.out.1 hf,row_frP HR3.out.2 hf⟩;clear hs hf)
  | (go_at_call 17;refine (malloc_one gm q1 q2 _ HR3.out.1 HR3.out.2).mono ?_;rintro e w6 ⟨rfl,hu⟩;replace HS:Hid (PgS w1 w6 gp g mb kv kP 8 (132+74+66) (upf (upf (fun _=>none) 0 (some none)) 0 (some (some bs))) (lB bs) 5 {data:=#[102,105,118,101]}):=PgS.upd1 HS.out hu HRM.out.2.2 (page_not HR3.out.2);clear hu HR3 HRM))
 go_loopw [11] (fun vi wr=>∃(i m:Nat) (U:Nat→Option (Option (List Int))),i≤len∧1≤m∧m≤8∧vi=.int .i64 (i:Int)∧Hid (PgS w1 wr gp g mb kv kP 8 (132+74+66+74 * i) U (lB bs) 5 {data:=#[102,105,118,101]})∧Hid (U 0=some (some bs))∧Hid (∀j,(U j).isSome=decide (j<m))) (fun vi _=>len - (RowKit.intOf vi).toNat)
 case atStart=>exact ⟨0,1,_,by omega,by omega,by omega,rfl,HS,rfl,fun j=>by rw [uB_is,Option.isSome_map,lB_some];by_cases h:j=0<;>simp [h]⟩
 case round =>
  clear HS
  obtain ⟨i,m,U,hi,hm1,hm8,rfl,HS,HU0,HUM⟩:=hrel
  by_cases hlt:i<len
  ·have hki:(i:Int)<(len:Int):=by omega
   have hpe:=HPP.out (by omega)
   subst hpe
   have hm:=Mem.start wr
   by_cases h5:5≤(X i).wh
   ·have h5i:(5:Int)≤(X i).wh:=h5
    go_wp2_with (first
     | ((with_reducible refine at_op (some 67) (.indexAddr 47 (.tmp 65) (.tmp 66)) ?_);go_must (refine wpl_execG (.pointer (some ⟨b,o+i * 6,none⟩)) rfl (exec_ixS i rfl rfl rfl hlt) ?_))
     | ((with_reducible refine at_op (some 68) (.load 51 (.tmp 67)) ?_);go_must (refine wpl_execG (.agg (List.toArray (X i).row)) rfl (exec_ld6 (o+i * 6) (X i).row rfl (HEL.out i hlt _ (PgS.bl HS.out)).1 rfl) ?_))
     | ((with_reducible refine at_op (some 12) (.alloc 51) ?_);go_must (refine wpl_alloc _ zero_stp hm ?_);clear hm;intro w3 gs hm)
     | ((with_reducible refine at_op none (.store 51 (.tmp 12) (.tmp 68)) ?_);go_must (refine wpl_stw 0 (X i).row hm rfl rfl rfl 6 sz_stp rfl rfl (by intro u hu;simp only [Stp.row,List.mem_cons,List.not_mem_nil,or_false] at hu;rcases hu with rfl | rfl | rfl | rfl | rfl | rfl<;>rfl) ?_);clear hm;intro w4 hm;replace hm:Mem wr [] w4 [(gs,(X i).row,51)]:=hm;have HR4:Hid (Row w4 gs (X i).row 51):=hm.get 0 rfl;replace HS:Hid (PgS w1 w4 gp g mb kv kP 8 (132+74+66+74 * i) U (lB bs) 5 {data:=#[102,105,118,101]}):=PgS.below HS.out hm.below;clear hm)
     | ((with_reducible refine at_op (some 70) (.load 3 (.tmp 69)) ?_);go_must (refine wpl_execG (.int .i64 (X i).wh) rfl (exec_ldx (.int .i64 (X i).wh) ((HR4.out.cell 0).trans rfl) rfl ag_intL) ?_))
     | ((with_reducible refine at_opG (some 74) (.load 22 (.tmp 73)) (some (3,false)) ?_);go_must (refine wpl_execG (.slice (X i).pb (X i).bs.length (X i).cb) rfl (exec_ldx (.slice (X i).pb (X i).bs.length (X i).cb) ((HR4.out.cell 2).trans rfl) rfl ag_bs) ?_)))
    refine ⟨⟨i+1,m,U,by omega,hm1,hm8,by go_num,PgS.ofle HS.out (by omega),HU0,HUM⟩,by simp [RowKit.intOf];omega⟩
   ·have h5i:¬(5:Int)≤(X i).wh:=h5
    have h5b:decide ((5:Int)≤(X i).wh)=false:=by simp;omega
    by_cases h6:600<(X i).bs.length
    ·have h6i:(600:Int)<((X i).bs.length:Int):=by omega
     go_wp2_with (first
      | ((with_reducible refine at_op (some 67) (.indexAddr 47 (.tmp 65) (.tmp 66)) ?_);go_must (refine wpl_execG (.pointer (some ⟨b,o+i * 6,none⟩)) rfl (exec_ixS i rfl rfl rfl hlt) ?_))
      | ((with_reducible refine at_op (some 68) (.load 51 (.tmp 67)) ?_);go_must (refine wpl_execG (.agg (List.toArray (X i).row)) rfl (exec_ld6 (o+i * 6) (X i).row rfl (HEL.out i hlt _ (PgS.bl HS.out)).1 rfl) ?_))
      | ((with_reducible refine at_op (some 12) (.alloc 51) ?_);go_must (refine wpl_alloc _ zero_stp hm ?_);clear hm;intro w3 gs hm)
      | ((with_reducible refine at_op none (.store 51 (.tmp 12) (.tmp 68)) ?_);go_must (refine wpl_stw 0 (X i).row hm rfl rfl rfl 6 sz_stp rfl rfl (by intro u hu;simp only [Stp.row,List.mem_cons,List.not_mem_nil,or_false] at hu;rcases hu with rfl | rfl | rfl | rfl | rfl | rfl<;>rfl) ?_);clear hm;intro w4 hm;replace hm:Mem wr [] w4 [(gs,(X i).row,51)]:=hm;have HR4:Hid (Row w4 gs (X i).row 51):=hm.get 0 rfl;replace HS:Hid (PgS w1 w4 gp g mb kv kP 8 (132+74+66+74 * i) U (lB bs) 5 {data:=#[102,105,118,101]}):=PgS.below HS.out hm.below;clear hm)
      | ((with_reducible refine at_op (some 70) (.load 3 (.tmp 69)) ?_);go_must (refine wpl_execG (.int .i64 (X i).wh) rfl (exec_ldx (.int .i64 (X i).wh) ((HR4.out.cell 0).trans rfl) rfl ag_intL) ?_))
      | ((with_reducible refine at_opG (some 74) (.load 22 (.tmp 73)) (some (3,false)) ?_);go_must (refine wpl_execG (.slice (X i).pb (X i).bs.length (X i).cb) rfl (exec_ldx (.slice (X i).pb (X i).bs.length (X i).cb) ((HR4.out.cell 2).trans rfl) rfl ag_bs) ?_)))
     refine ⟨⟨i+1,m,U,by omega,hm1,hm8,by go_num,PgS.ofle HS.out (by omega),HU0,HUM⟩,by simp [RowKit.intOf];omega⟩
    ·have h6i:¬(600:Int)<((X i).bs.length:Int):=by omega
     have h6b:decide ((600:Int)<((X i).bs.length:Int))=false:=by simp;omega
     by_cases hfull:m<8
     ·go_wp2_with (first
       | ((with_reducible refine at_op (some 67) (.indexAddr 47 (.tmp 65) (.tmp 66)) ?_);go_must (refine wpl_execG (.pointer (some ⟨b,o+i * 6,none⟩)) rfl (exec_ixS i rfl rfl rfl hlt) ?_))
       | ((with_reducible refine at_op (some 68) (.load 51 (.tmp 67)) ?_);go_must (refine wpl_execG (.agg (List.toArray (X i).row)) rfl (exec_ld6 (o+i * 6) (X i).row rfl (HEL.out i hlt _ (PgS.bl HS.out)).1 rfl) ?_))
       | ((with_reducible refine at_op (some 12) (.alloc 51) ?_);go_must (refine wpl_alloc _ zero_stp hm ?_);clear hm;intro w3 gs hm)
       | ((with_reducible refine at_op none (.store 51 (.tmp 12) (.tmp 68)) ?_);go_must (refine wpl_stw 0 (X i).row hm rfl rfl rfl 6 sz_stp rfl rfl (by intro u hu;simp only [Stp.row,List.mem_cons,List.not_mem_nil,or_false] at hu;rcases hu with rfl | rfl | rfl | rfl | rfl | rfl<;>rfl) ?_);clear hm;intro w4 hm;replace hm:Mem wr [] w4 [(gs,(X i).row,51)]:=hm;have HR4:Hid (Row w4 gs (X i).row 51):=hm.get 0 rfl;replace HS:Hid (PgS w1 w4 gp g mb kv kP 8 (132+74+66+74 * i) U (lB bs) 5 {data:=#[102,105,118,101]}):=PgS.below HS.out hm.below;clear hm)
       | ((with_reducible refine at_op (some 70) (.load 3 (.tmp 69)) ?_);go_must (refine wpl_execG (.int .i64 (X i).wh) rfl (exec_ldx (.int .i64 (X i).wh) ((HR4.out.cell 0).trans rfl) rfl ag_intL) ?_))
       | ((with_reducible refine at_opG (some 74) (.load 22 (.tmp 73)) (some (3,false)) ?_);go_must (refine wpl_execG (.slice (X i).pb (X i).bs.length (X i).cb) rfl (exec_ldx (.slice (X i).pb (X i).bs.length (X i).cb) ((HR4.out.cell 2).trans rfl) rfl ag_bs) ?_))
       | (go_at_call 8;refine (alloc_s (by omega) m hfull (by rw [HUM.out,lB_some];simp;omega) (fun j hj=>by rw [HUM.out];simp [hj]) _ HS.out).mono ?_;rintro e w5 ⟨rfl,hs,hf⟩;replace HS:Hid (PgS w1 w5 gp g mb kv kP 8 (132+74+66+74 * i) (upf U m (some none)) (lB bs) 5 {data:=#[102,105,118,101]}):=hs;have HR5:Hid (Row w5 gs (X i).row 51):=row_fr HR4.out hf;clear hs hf HR4))
      have hm0:¬(m:Int)=0:=by omega
      have HUW:Hid (((upf U m (some none) m).isSome && !(lB bs m).isSome)=true):=by show _=_;rw [lB_some];unfold upf;simp;omega
      by_cases hlong:480<(X i).bs.length
      ·have hli:¬((X i).bs.length:Int)≤480:=by omega
       have hm:=Mem.start w5
       refine wp_ends0 ?_
       refine anyH_startB (T:=fun W=>W.cell? ⟨gs,2,none⟩=some (.slice (X i).pb (X i).bs.length (X i).cb)) (by kernel_rfl) hm ?_
       clear hm
       intro w6 hb6 hm6
       clear hm6
       replace HS:Hid (PgS w1 w6 gp g mb kv kP 8 (132+74+66+74 * i) (upf U m (some none)) (lB bs) 5 {data:=#[102,105,118,101]}):=PgS.below HS.out hb6
       have HR6:Hid (Row w6 gs (X i).row 51):=Row.below' HR5.out hb6
       have HC6:Hid (w6.cell? ⟨gs,2,none⟩=some (.slice (X i).pb (X i).bs.length (X i).cb)):=(HR6.out.cell 2).trans rfl
       clear hb6
       refine aT 0 (v:=.int .i64 0) rfl (by kernel_rfl) rfl (fun W _=>by go_simp) HC6.out ?_
       go_simp
       refine aT 1 (v:=.bool true) rfl (by kernel_rfl) rfl (fun W _=>by go_simp) HC6.out ?_
       go_simp
       refine aT 2 (v:=.bool true) rfl (by kernel_rfl) rfl (fun W _=>by go_simp) HC6.out ?_
       go_simp
       refine aG 3 (v:=.int .u32 (m:Int)) rfl (by kernel_rfl) rfl (fun W _=>by go_simp) HC6.out ?_
       go_simp
       refine aG 4 (v:=.int .u32 0) rfl (by kernel_rfl) rfl (fun W _=>by go_simp) HC6.out ?_
       go_simp
       refine aG 5 (v:=.bool false) rfl (by kernel_rfl) rfl (fun W _=>by go_simp;omega) HC6.out ?_
       go_simp
       refine aG 6 (v:=.bool false) rfl (by kernel_rfl) rfl (fun W _=>by go_simp) HC6.out ?_
       go_simp
       refine aG 7 (v:=.pointer (some ⟨gp,0,none⟩)) rfl (by kernel_rfl) rfl (fun W _=>by go_simp) HC6.out ?_
       go_simp
       refine aG 8 (v:=.int .u32 (m:Int)) rfl (by kernel_rfl) rfl (fun W _=>by go_simp) HC6.out ?_
       go_simp
       refine aG 9 (v:=.pointer (some ⟨gs,2,none⟩)) rfl (by kernel_rfl) rfl (fun W _=>by go_simp) HC6.out ?_
       go_simp
       refine aG 10 (v:=.slice (X i).pb (X i).bs.length (X i).cb) rfl (by kernel_rfl) rfl (fun W hW=>exec_ldx (.slice (X i).pb (X i).bs.length (X i).cb) hW rfl ag_bs) HC6.out ?_
       go_simp
       refine aG 13 (v:=.pointer (some ⟨gs,2,none⟩)) rfl (by kernel_rfl) rfl (fun W _=>by go_simp) HC6.out ?_
       go_simp
       refine aG 14 (v:=.slice (X i).pb (X i).bs.length (X i).cb) rfl (by kernel_rfl) rfl (fun W hW=>exec_ldx (.slice (X i).pb (X i).bs.length (X i).cb) hW rfl ag_bs) HC6.out ?_
       go_simp
       refine aG 15 (v:=.int .i64 ((X i).bs.length:Int)) rfl (by kernel_rfl) rfl (fun W _=>by go_simp) HC6.out ?_
       go_simp
       refine aG 16 (v:=.bool false) rfl (by kernel_rfl) rfl (fun W _=>by go_simp) HC6.out ?_
       go_simp
       refine aO 11 (by kernel_rfl) rfl rfl ?_
       intro K hK
       go_wp2_with (go_at_call 9;refine (write_s_long m _ _ _ (by omega) hlong HUW.out _ HS.out).mono ?_;rintro e w7 ⟨rfl,hs,hf⟩;replace HS:Hid (PgS w1 w7 gp g mb kv kP 8 (132+74+66+74 * i) (upf U m (some none)) (lB bs) 5 {data:=#[102,105,118,101]}):=hs;have HR7:Hid (Row w7 gs (X i).row 51):=row_fr HR6.out hf;clear hs hf)
       have HC7:Hid (w7.cell? ⟨gs,2,none⟩=some (.slice (X i).pb (X i).bs.length (X i).cb)):=(HR7.out.cell 2).trans rfl
       refine hK _ _ HC7.out ?_
       clear hK K
       refine aG 12 (v:=.bool false) rfl (by kernel_rfl) rfl (fun W _=>by go_simp) HC7.out ?_
       go_simp
       refine aG 17 (v:=.bool false) rfl (by kernel_rfl) rfl (fun W _=>by go_simp) HC7.out ?_
       go_simp
       refine aG 18 (v:=.bool false) rfl (by kernel_rfl) rfl (fun W _=>by go_simp) HC7.out ?_
       go_simp
       refine aT 19 (v:=.bool false) rfl (by kernel_rfl) rfl (fun W _=>by go_simp) HC7.out ?_
       go_simp
       refine wpAnyH_done (by kernel_rfl) ?_ _
       simp only [endsIn]
       replace HU0:Hid (upf U m (some none) 0=some (some bs)):=up_0 hm1 HU0.out
       replace HUM:Hid (∀j,(upf U m (some none) j).isSome=decide (j<m+1)):=up_isS HUM.out
       go_wp2_with (first
        | (go_at_call 16;refine (read_s (by omega) 0 bs HU0.out _ HS.out).mono ?_;rintro e w8 ⟨v',he,hv,hs,_⟩;obtain ⟨pv,cv,hv9,hc9,hs9⟩:=hv;subst hv9;subst he;have HV:Hid (SlOld w8 (.slice pv bs.length cv) bs):=⟨pv,cv,rfl,hc9,hs9⟩;replace HS:Hid (PgS w1 w8 gp g mb kv kP 8 (132+74+66+74 * i) (upf U m (some none)) (lB bs) 5 {data:=#[102,105,118,101]}):=hs;clear hs hc9 hs9)
        | ((with_reducible refine at_opG (some 113) (.convert 22 9 (.tmp 112)) (some (2,false)) ?_);go_must (refine wpl_execG (.string (strOf bs)) rfl (exec_tostr un_bs un_u8 un_strT _ rfl HV.out) ?_))
        | ((with_reducible refine at_opG (some 115) (.convert 22 9 (.tmp 114)) (some (2,false)) ?_);go_must (refine wpl_execG (.string (strOf bs)) rfl (exec_tostr un_bs un_u8 un_strT _ rfl (HVB.out _ (PgS.bl HS.out)).2) ?_)))
       refine ⟨⟨i+1,(m+1),(upf U m (some none)),by omega,by omega,by omega,by go_num,PgS.ofle HS.out (by omega),HU0,HUM⟩,by simp [RowKit.intOf];omega⟩
      ·have hli:((X i).bs.length:Int)≤480:=by omega
       have hm:=Mem.start w5
       refine wp_ends0 ?_
       refine anyH_startB (T:=fun W=>W.cell? ⟨gs,2,none⟩=some (.slice (X i).pb (X i).bs.length (X i).cb)) (by kernel_rfl) hm ?_
       clear hm
       intro w6 hb6 hm6
       clear hm6
       replace HS:Hid (PgS w1 w6 gp g mb kv kP 8 (132+74+66+74 * i) (upf U m (some none)) (lB bs) 5 {data:=#[102,105,118,101]}):=PgS.below HS.out hb6
       have HR6:Hid (Row w6 gs (X i).row 51):=Row.below' HR5.out hb6
       have HC6:Hid (w6.cell? ⟨gs,2,none⟩=some (.slice (X i).pb (X i).bs.length (X i).cb)):=(HR6.out.cell 2).trans rfl
       clear hb6
       refine aT 0 (v:=.int .i64 0) rfl (by kernel_rfl) rfl (fun W _=>by go_simp) HC6.out ?_
       go_simp
       refine aT 1 (v:=.bool true) rfl (by kernel_rfl) rfl (fun W _=>by go_simp) HC6.out ?_
       go_simp
       refine aT 2 (v:=.bool true) rfl (by kernel_rfl) rfl (fun W _=>by go_simp) HC6.out ?_
       go_simp
       refine aG 3 (v:=.int .u32 (m:Int)) rfl (by kernel_rfl) rfl (fun W _=>by go_simp) HC6.out ?_
       go_simp
       refine aG 4 (v:=.int .u32 0) rfl (by kernel_rfl) rfl (fun W _=>by go_simp) HC6.out ?_
       go_simp
       refine aG 5 (v:=.bool false) rfl (by kernel_rfl) rfl (fun W _=>by go_simp;omega) HC6.out ?_
       go_simp
       refine aG 6 (v:=.bool false) rfl (by kernel_rfl) rfl (fun W _=>by go_simp) HC6.out ?_
       go_simp
       refine aG 7 (v:=.pointer (some ⟨gp,0,none⟩)) rfl (by kernel_rfl) rfl (fun W _=>by go_simp) HC6.out ?_
       go_simp
       refine aG 8 (v:=.int .u32 (m:Int)) rfl (by kernel_rfl) rfl (fun W _=>by go_simp) HC6.out ?_
       go_simp
       refine aG 9 (v:=.pointer (some ⟨gs,2,none⟩)) rfl (by kernel_rfl) rfl (fun W _=>by go_simp) HC6.out ?_
       go_simp
       refine aG 10 (v:=.slice (X i).pb (X i).bs.length (X i).cb) rfl (by kernel_rfl) rfl (fun W hW=>exec_ldx (.slice (X i).pb (X i).bs.length (X i).cb) hW rfl ag_bs) HC6.out ?_
       go_simp
       refine aG 13 (v:=.pointer (some ⟨gs,2,none⟩)) rfl (by kernel_rfl) rfl (fun W _=>by go_simp) HC6.out ?_
       go_simp
       refine aG 14 (v:=.slice (X i).pb (X i).bs.length (X i).cb) rfl (by kernel_rfl) rfl (fun W hW=>exec_ldx (.slice (X i).pb (X i).bs.length (X i).cb) hW rfl ag_bs) HC6.out ?_
       go_simp
       refine aG 15 (v:=.int .i64 ((X i).bs.length:Int)) rfl (by kernel_rfl) rfl (fun W _=>by go_simp) HC6.out ?_
       go_simp
       refine aG 16 (v:=.bool true) rfl (by kernel_rfl) rfl (fun W _=>by go_simp) HC6.out ?_
       go_simp
       refine aO 11 (by kernel_rfl) rfl rfl ?_
       intro K hK
       go_wp2_with (go_at_call 9;refine (write_s m (X i).bs _ (by omega) hfull HUW.out (by omega) (HXB.out i hlt) (by omega) _ (HEL.out i hlt _ (PgS.bl HS.out)).2 HS.out).mono ?_;rintro e w7 ⟨rfl,hs,hf⟩;replace HS:Hid (PgS w1 w7 gp g mb kv kP 8 (132+74+66+74 * i+74) (upf (upf U m (some none)) m (some (some (X i).bs))) (lB bs) 5 {data:=#[102,105,118,101]}):=hs;have HR7:Hid (Row w7 gs (X i).row 51):=row_fr HR6.out hf;clear hs hf)
       have HC7:Hid (w7.cell? ⟨gs,2,none⟩=some (.slice (X i).pb (X i).bs.length (X i).cb)):=(HR7.out.cell 2).trans rfl
       refine hK _ _ HC7.out ?_
       clear hK K
       refine aG 12 (v:=.bool true) rfl (by kernel_rfl) rfl (fun W _=>by go_simp) HC7.out ?_
       go_simp
       refine aG 17 (v:=.bool false) rfl (by kernel_rfl) rfl (fun W _=>by go_simp) HC7.out ?_
       go_simp
       refine aG 18 (v:=.bool false) rfl (by kernel_rfl) rfl (fun W _=>by go_simp) HC7.out ?_
       go_simp
       refine aT 19 (v:=.bool false) rfl (by kernel_rfl) rfl (fun W _=>by go_simp) HC7.out ?_
       go_simp
       refine wpAnyH_done (by kernel_rfl) ?_ _
       simp only [endsIn]
       replace HU0:Hid (upf (upf U m (some none)) m (some (some (X i).bs)) 0=some (some bs)):=up_0 hm1 (up_0 hm1 HU0.out)
       replace HUM:Hid (∀j,(upf (upf U m (some none)) m (some (some (X i).bs)) j).isSome=decide (j<m+1)):=up_isS2 HUM.out
       go_wp2_with (first
        | (go_at_call 16;refine (read_s (by omega) 0 bs HU0.out _ HS.out).mono ?_;rintro e w8 ⟨v',he,hv,hs,_⟩;obtain ⟨pv,cv,hv9,hc9,hs9⟩:=hv;subst hv9;subst he;have HV:Hid (SlOld w8 (.slice pv bs.length cv) bs):=⟨pv,cv,rfl,hc9,hs9⟩;replace HS:Hid (PgS w1 w8 gp g mb kv kP 8 (132+74+66+74 * i+74) (upf (upf U m (some none)) m (some (some (X i).bs))) (lB bs) 5 {data:=#[102,105,118,101]}):=hs;clear hs hc9 hs9)
        | ((with_reducible refine at_opG (some 113) (.convert 22 9 (.tmp 112)) (some (2,false)) ?_);go_must (refine wpl_execG (.string (strOf bs)) rfl (exec_tostr un_bs un_u8 un_strT _ rfl HV.out) ?_))
        | ((with_reducible refine at_opG (some 115) (.convert 22 9 (.tmp 114)) (some (2,false)) ?_);go_must (refine wpl_execG (.string (strOf bs)) rfl (exec_tostr un_bs un_u8 un_strT _ rfl (HVB.out _ (PgS.bl HS.out)).2) ?_)))
       refine ⟨⟨i+1,(m+1),(upf (upf U m (some none)) m (some (some (X i).bs))),by omega,by omega,by omega,by go_num,PgS.ofle HS.out (by omega),HU0,HUM⟩,by simp [RowKit.intOf];omega⟩
     ·go_wp2_with (first
       | ((with_reducible refine at_op (some 67) (.indexAddr 47 (.tmp 65) (.tmp 66)) ?_);go_must (refine wpl_execG (.pointer (some ⟨b,o+i * 6,none⟩)) rfl (exec_ixS i rfl rfl rfl hlt) ?_))
       | ((with_reducible refine at_op (some 68) (.load 51 (.tmp 67)) ?_);go_must (refine wpl_execG (.agg (List.toArray (X i).row)) rfl (exec_ld6 (o+i * 6) (X i).row rfl (HEL.out i hlt _ (PgS.bl HS.out)).1 rfl) ?_))
       | ((with_reducible refine at_op (some 12) (.alloc 51) ?_);go_must (refine wpl_alloc _ zero_stp hm ?_);clear hm;intro w3 gs hm)
       | ((with_reducible refine at_op none (.store 51 (.tmp 12) (.tmp 68)) ?_);go_must (refine wpl_stw 0 (X i).row hm rfl rfl rfl 6 sz_stp rfl rfl (by intro u hu;simp only [Stp.row,List.mem_cons,List.not_mem_nil,or_false] at hu;rcases hu with rfl | rfl | rfl | rfl | rfl | rfl<;>rfl) ?_);clear hm;intro w4 hm;replace hm:Mem wr [] w4 [(gs,(X i).row,51)]:=hm;have HR4:Hid (Row w4 gs (X i).row 51):=hm.get 0 rfl;replace HS:Hid (PgS w1 w4 gp g mb kv kP 8 (132+74+66+74 * i) U (lB bs) 5 {data:=#[102,105,118,101]}):=PgS.below HS.out hm.below;clear hm)
       | ((with_reducible refine at_op (some 70) (.load 3 (.tmp 69)) ?_);go_must (refine wpl_execG (.int .i64 (X i).wh) rfl (exec_ldx (.int .i64 (X i).wh) ((HR4.out.cell 0).trans rfl) rfl ag_intL) ?_))
       | ((with_reducible refine at_opG (some 74) (.load 22 (.tmp 73)) (some (3,false)) ?_);go_must (refine wpl_execG (.slice (X i).pb (X i).bs.length (X i).cb) rfl (exec_ldx (.slice (X i).pb (X i).bs.length (X i).cb) ((HR4.out.cell 2).trans rfl) rfl ag_bs) ?_))
       | (go_at_call 8;refine (full_s (by omega) (fun j hj=>by rw [HUM.out];simp;omega) _ HS.out).mono ?_;rintro e w5 ⟨rfl,hs,hf⟩;replace HS:Hid (PgS w1 w5 gp g mb kv kP 8 (132+74+66+74 * i) U (lB bs) 5 {data:=#[102,105,118,101]}):=hs;clear hs hf HR4))
      have hm:=Mem.start w5
      refine wp_ends0 ?_
      refine anyH_startB (T:=fun W=>Mem w5 [] W []) (by kernel_rfl) hm ?_
      clear hm
      intro w6 hb6 hm
      replace HS:Hid (PgS w1 w6 gp g mb kv kP 8 (132+74+66+74 * i) U (lB bs) 5 {data:=#[102,105,118,101]}):=PgS.below HS.out hb6
      clear hb6
      refine aT 0 (v:=.int .i64 70) rfl (by kernel_rfl) rfl (fun W _=>by go_simp) hm ?_
      go_simp
      refine aT 1 (v:=.bool false) rfl (by kernel_rfl) rfl (fun W _=>by go_simp) hm ?_
      go_simp
      refine aT 2 (v:=.bool false) rfl (by kernel_rfl) rfl (fun W _=>by go_simp) hm ?_
      go_simp
      refine anyH_skip 3 rfl (by kernel_rfl) (by kernel_rfl) (by kernel_rfl) rfl hm ?_
      go_simp
      refine anyH_skip 4 rfl (by kernel_rfl) (by kernel_rfl) (by kernel_rfl) rfl hm ?_
      go_simp
      refine anyH_skip 5 rfl (by kernel_rfl) (by kernel_rfl) (by kernel_rfl) rfl hm ?_
      go_simp
      refine anyH_skip 6 rfl (by kernel_rfl) (by kernel_rfl) (by kernel_rfl) rfl hm ?_
      go_simp
      refine anyH_skip 7 rfl (by kernel_rfl) (by kernel_rfl) (by kernel_rfl) rfl hm ?_
      go_simp
      refine anyH_skip 8 rfl (by kernel_rfl) (by kernel_rfl) (by kernel_rfl) rfl hm ?_
      go_simp
      refine anyH_skip 9 rfl (by kernel_rfl) (by kernel_rfl) (by kernel_rfl) rfl hm ?_
      go_simp
      refine anyH_skip 10 rfl (by kernel_rfl) (by kernel_rfl) (by kernel_rfl) rfl hm ?_
      go_simp
      refine anyH_skip 11 rfl (by kernel_rfl) (by kernel_rfl) (by kernel_rfl) rfl hm ?_
      go_simp
      refine anyH_skip 12 rfl (by kernel_rfl) (by kernel_rfl) (by kernel_rfl) rfl hm ?_
      go_simp
      refine anyH_skip 13 rfl (by kernel_rfl) (by kernel_rfl) (by kernel_rfl) rfl hm ?_
      go_simp
      refine anyH_skip 14 rfl (by kernel_rfl) (by kernel_rfl) (by kernel_rfl) rfl hm ?_
      go_simp
      refine anyH_skip 15 rfl (by kernel_rfl) (by kernel_rfl) (by kernel_rfl) rfl hm ?_
      go_simp
      refine anyH_skip 16 rfl (by kernel_rfl) (by kernel_rfl) (by kernel_rfl) rfl hm ?_
      go_simp
      refine anyH_skip 17 rfl (by kernel_rfl) (by kernel_rfl) (by kernel_rfl) rfl hm ?_
      go_simp
      refine anyH_skip 18 rfl (by kernel_rfl) (by kernel_rfl) (by kernel_rfl) rfl hm ?_
      go_simp
      refine aT 19 (v:=.bool false) rfl (by kernel_rfl) rfl (fun W _=>by go_simp) hm ?_
      go_simp
      refine wpAnyH_done (by kernel_rfl) ?_ _
      simp only [endsIn]
      clear hm
      go_wp2_with (first
       | (go_at_call 16;refine (read_s (by omega) 0 bs HU0.out _ HS.out).mono ?_;rintro e w8 ⟨v',he,hv,hs,_⟩;obtain ⟨pv,cv,hv9,hc9,hs9⟩:=hv;subst hv9;subst he;have HV:Hid (SlOld w8 (.slice pv bs.length cv) bs):=⟨pv,cv,rfl,hc9,hs9⟩;replace HS:Hid (PgS w1 w8 gp g mb kv kP 8 (132+74+66+74 * i) U (lB bs) 5 {data:=#[102,105,118,101]}):=hs;clear hs hc9 hs9)
       | ((with_reducible refine at_opG (some 113) (.convert 22 9 (.tmp 112)) (some (2,false)) ?_);go_must (refine wpl_execG (.string (strOf bs)) rfl (exec_tostr un_bs un_u8 un_strT _ rfl HV.out) ?_))
       | ((with_reducible refine at_opG (some 115) (.convert 22 9 (.tmp 114)) (some (2,false)) ?_);go_must (refine wpl_execG (.string (strOf bs)) rfl (exec_tostr un_bs un_u8 un_strT _ rfl (HVB.out _ (PgS.bl HS.out)).2) ?_)))
      refine ⟨⟨i+1,m,U,by omega,by omega,by omega,by go_num,PgS.ofle HS.out (by omega),HU0,HUM⟩,by simp [RowKit.intOf];omega⟩
  ·obtain rfl:i=len:=by omega
   have hni:¬(i:Int)<(i:Int):=by omega
   have HR7:Hid (((8:Nat):Int) - (cntB (fun j=>(lB bs j).isSome):Nat) - (cntB (fun j=>((lB bs j).map some).isSome && !(lB bs j).isSome):Nat)=7):=by
    show _=_
    rw [show (fun j=>((lB bs j).map some).isSome && !(lB bs j).isSome)=fun _=>false by funext j;rw [Option.isSome_map];cases (lB bs j).isSome<;>rfl,show cntB (fun _=>false)=0 by simp [cntB],show (fun j=>(lB bs j).isSome)=fun j=>decide (j=0) by funext j;rw [lB_some],cntB_one]
    rfl
   go_wp2_with (first
    | (go_at_call 18;refine (free_s 0 (by omega) (by rw [HU0.out];rfl) _ HS.out).mono ?_;rintro e wa ⟨rfl,hs,_⟩;replace HS:Hid (PgS w1 wa gp g mb kv kP 8 (132+74+66+74 * i) (upf U 0 none) (lB bs) 5 {data:=#[102,105,118,101]}):=hs;clear hs)
    | (go_at_call 19;refine (undo_s _ HS.out).mono ?_;rintro e wb ⟨rfl,hs,_⟩;replace HS:Hid (PgS w1 wb gp g mb kv kP 8 (132+74+66+74 * i) (fun j=>(lB bs j).map some) (lB bs) 5 {data:=#[102,105,118,101]}):=hs;clear hs)
    | (go_at_call 16;refine (read_s (by omega) 0 bs rfl _ HS.out).mono ?_;rintro e wc ⟨v',he,hv,hs,_⟩;obtain ⟨pv,cv,hv9,hc9,hs9⟩:=hv;subst hv9;subst he;have HV:Hid (SlOld wc (.slice pv bs.length cv) bs):=⟨pv,cv,rfl,hc9,hs9⟩;replace HS:Hid (PgS w1 wc gp g mb kv kP 8 (132+74+66+74 * i) (fun j=>(lB bs j).map some) (lB bs) 5 {data:=#[102,105,118,101]}):=hs;clear hs hc9 hs9)
    | (go_at_call 20;refine (used_s (fun j=>by rw [Option.isSome_map,lB_some]) _ HS.out).mono ?_;rintro e wd ⟨gi,ci,rfl,hci,hs,hb⟩;have HCI:Hid (wd.cell? ⟨gi,0,none⟩=some (.int .u32 0)):=hci;replace HV:Hid (SlOld wd (.slice pv bs.length cv) bs):=SlOld.below HV.out hb;replace HS:Hid (PgS w1 wd gp g mb kv kP 8 (132+74+66+74 * i) (fun j=>(lB bs j).map some) (lB bs) 5 {data:=#[102,105,118,101]}):=hs;clear hs hci hb)
    | ((with_reducible refine at_opG (some 136) (.convert 22 9 (.tmp 135)) (some (2,true)) ?_);go_must (refine wpl_execG (.string (strOf bs)) rfl (exec_tostr un_bs un_u8 un_strT _ rfl HV.out) ?_))
    | ((with_reducible refine at_opG (some 138) (.convert 22 9 (.tmp 137)) (some (2,true)) ?_);go_must (refine wpl_execG (.string (strOf bs)) rfl (exec_tostr un_bs un_u8 un_strT _ rfl (HVB.out _ (PgS.bl HS.out)).2) ?_))
    | ((with_reducible refine at_opG (some 148) (.indexAddr 53 (.tmp 147) (.const (.int .i64 0))) (some (14,true)) ?_);go_must (refine wpl_execG (.pointer (some ⟨gi,0,none⟩)) rfl (exec_ix0 un_u32s sz_u32 0 rfl rfl rfl (by omega)) ?_))
    | ((with_reducible refine at_opG (some 149) (.load 30 (.tmp 148)) (some (14,true)) ?_);go_must (refine wpl_execG (.int .u32 0) rfl (exec_ldx (.int .u32 0) HCI.out rfl ag_u32x) ?_))
    | (go_at_call 21;refine (root_s _ HS.out).mono ?_;rintro e we ⟨rfl,rfl⟩)
    | (go_at_call 22;refine (meta_s _ HS.out).mono ?_;rintro e wf ⟨rfl,rfl⟩)
    | (go_at_call 23;refine (room_s (by omega) _ HS.out).mono ?_;rintro e wg ⟨he,hs,_⟩;rw [HR7.out] at he;subst he;replace HS:Hid (PgS w1 wg gp g mb kv kP 8 (132+74+66+74 * i) (fun j=>(lB bs j).map some) (lB bs) 5 {data:=#[102,105,118,101]}):=hs;clear hs))
   go_ret
   exact ⟨rfl,HFIN.out _ (PgS.bl HS.out)⟩
theorem plasts_any (len cap b o cb:Nat) (p pb:Option Addr) (X:Nat→Stp) (bs:List Int) (hp:0<len→p=some ⟨b,o,none⟩) (hbb:Bytes bs) (w:World) (hvb:SlOld w (.slice pb bs.length cb) bs) (hel:∀i,i<len→(∀j u,(X i).row[j]?=some u→w.cell? ⟨b,o+i * 6+j,none⟩=some u)∧(X i).Good w) (ht:Tab w) (hq:QTab w) (hw2:2≤w.heap.size) :
  Calls Tryz.prog 5 #[.slice p len cap,.slice pb bs.length cb] w fun e w'=>e=.returned (.bool true)∧Below w.heap.size w w':=by
 by_cases h:20<len∨480<bs.length
 ·exact plasts_few p pb len cap bs.length cb h w ht hq hw2
 ·exact plasts_many len cap b o cb p pb X bs hp (by omega) (by omega) hbb w hvb hel ht hq hw2
end Go.Proofs.YtdkkdkgdaambiaaGreatDoor
