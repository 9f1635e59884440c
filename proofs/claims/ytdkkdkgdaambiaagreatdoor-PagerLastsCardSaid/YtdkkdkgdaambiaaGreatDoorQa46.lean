import Derived.Test.YtdkkdkgdaambiaaGreatDoorQa45
import Derived.Test.YtdkkdkgdaambiaaGreatDoorQa09
import Derived.Deep.Slices
set_option maxRecDepth 100000
namespace Go.Proofs.YtdkkdkgdaambiaaGreatDoor
open Go Go.RowKit Go.Maps
def zPg (n:Nat):List Value:=(madeCells (Value.cells (.agg #[.bool false,.bool false,.bool false,.bool false,.string {data:=#[]}])) (n * 5)).toList
theorem made_page:(Tryz.prog.info? 118).map (fun i=>(i.zero,i.size,i.bytes))=some (some (.agg #[.bool false,.bool false,.bool false,.bool false,.string {data:=#[]}]),5,24):=by kernel_rfl
theorem wpl_mkPagesR {ops:Array Oper} {rest:List Oper} {a:Act} {w w0:World} {Q:Exit→Act→World→Prop} {dst:Option Tmp} {typ:TypeId} {pos:String} {aft:Array Edge} {S:List Nat} {rows:List (Nat×List Value×TypeId)} {x y:Operand} (n:Nat) {i j:Int} (hx:a.eval x=.int .i64 i) (hxi:i=(n:Int)) (hy:a.eval y=.int .i64 j) (hyj:j=(n:Int)) (hn:n≤4000) (hm:Mem w0 S w rows)
  (h:∀w' kb,Mem w0 S w' ((kb,zPg n,118)::rows)→wpList Tryz.prog ops Q rest (a.put dst (.slice (some ⟨kb,0,none⟩) n n)) w') :
  wpList Tryz.prog ops Q ({dst:=dst,op:=.makeSlice 65 x y,type:=typ,pos:=pos,after:=aft,guard:=none}::rest) a w:=by
 subst hxi hyj
 refine wpList_plain rfl fun K hK=>?_
 have hi:=made_page
 cases hq:Tryz.prog.info? 118 with
 | none=>simp [hq] at hi
 | some q =>
  simp only [hq,Option.map_some,Option.some.injEq,Prod.mk.injEq] at hi
  have hr:=run_makeSlice (P:=Tryz.prog) w 65 118 q _ un_pages hq hi.1 .i64 .i64 (n:Int) (n:Int) (by omega) (by omega) (by rw [hi.2.1];simp;omega) (by rw [hi.2.2];simp;omega) (by omega)
  rw [Int.toNat_natCast,hi.2.1] at hr
  have hb:Below w.heap.size w (w.alloc (.cells (madeCells (Value.cells (.agg #[.bool false,.bool false,.bool false,.bool false,.string {data:=#[]}])) (n * 5)) 118)):=(Below.refl _ _).alloc (Nat.le_refl _) _
  have hrow:Row (w.alloc (.cells (madeCells (Value.cells (.agg #[.bool false,.bool false,.bool false,.bool false,.string {data:=#[]}])) (n * 5)) 118)) w.heap.size (zPg n) 118:=Row.new w (zPg n) 118
  have hh:=hK _ _ (h _ w.heap.size (hm.callNew hb hrow (Nat.le_refl _)))
  unfold Oper.wp execOp
  simp only [hx,hy,hr,Sem.run_bind,Sem.run_pure,Result.andThen_ok]
  exact hh
set_option maxHeartbeats 2000000 in
theorem begun_r (n:Nat) (h4:4≤n) (hn:n≤400) (w:World) (ht:Tab w) (hq:QTab w) (hw2:2≤w.heap.size) :
  Calls Tryz.prog 7 #[.int .i64 (n:Int)] w fun e w'=>∃gp g mb kv ml mu d' gm q1 q2,e=.returned (.tuple #[.pointer (some ⟨g,0,none⟩),.pointer (some ⟨gp,0,none⟩),.pointer (some ⟨gm,0,none⟩),.bool true])∧PgAt w' gp g mb kv ml mu (⟨deriveOf kNine labPage 0,deriveOf kNine labSuper 0,deriveOf kNine labSuper 1,⟨3,3,4⟩,0,{data:=#[]},fun _=>none,fun _=>none,false⟩:Pg) d'∧On d' 132∧d'.n=32+8 * n∧LimOk d' 4∧Row w' gm (modC q1 q2 n) 67∧Row w' q1 (zPg n) 118∧w.heap.size≤q1∧(∀q∈gm::footP gp g mb kv ml mu,w.heap.size≤q)∧Below w.heap.size w w':=by
 have HT:Hid (Tab w):=ht
 have HQ:Hid (QTab w):=hq
 have HCL:Hid (clampK (32+8 * (n:Int))=32+8 * n):=by
  show _=_
  unfold clampK
  rw [if_neg (by omega)]
  first | omega | (rw [if_neg (by omega)];omega)
 obtain ⟨kP,hkP⟩:∃x,x=deriveOf kNine labPage 0:=⟨_,rfl⟩
 obtain ⟨kS,hkS⟩:∃x,x=deriveOf kNine labSuper 0:=⟨_,rfl⟩
 obtain ⟨kN,hkN⟩:∃x,x=deriveOf kNine labSuper 1:=⟨_,rfl⟩
 have HFM:Hid (∀g mb kv W,2≤W.heap.size→Tab W→QTab W→(∀q∈foot g mb kv,2≤q)→DkAt W g mb kv (Dk.new (32+8 * n))→Calls Tryz.prog 25 #[.pointer (some ⟨g,0,none⟩),.agg (u8s kNine).toArray] W fun e w'=>∃gp ml mu d',e=.returned (.tuple #[.pointer (some ⟨gp,0,none⟩),.int .i64 0])∧PgAt w' gp g mb kv ml mu (⟨kP,kS,kN,⟨3,3,4⟩,0,{data:=#[]},fun _=>none,fun _=>none,false⟩:Pg) d'∧On d' 132∧d'.n=32+8 * n∧LimOk d' 4∧W.heap.size≤gp∧W.heap.size≤ml∧W.heap.size≤mu∧UpdS (foot g mb kv) W w'):=fun g mb kv W h0 h1 h2 h3 h5=>by
  refine (format_ok g mb kv (Dk.new (32+8 * n)) n 0 kNine kP kS kN _ (zero_area _) zero_lim0 zero_lim1 hkP.symm hkS.symm hkN.symm rfl h4 hn rfl kNine_bytes (On.new _) (by omega) W h0 h3 h1 h2 h5).mono ?_
  rintro e w' ⟨gp,ml,mu,d',a,he,hp,hon,hn',ha,s2,s4,_,_,h6,h7,h8,hu⟩
  refine ⟨gp,ml,mu,d',he,hp,hon,hn',fun j hj=>?_,h6,h7,h8,hu⟩
  have h9:j=a∨j=1 - a:=by omega
  rcases h9 with rfl | rfl
  ·rw [s2.lim];decide
  ·rw [s4.lim];decide
 rw [←hkP,←hkS,←hkN]
 clear ht hq hkP hkS hkN
 have hm:=Mem.start w
 go_enter Tryz.func7,Tryz.ntmps7
 go_wp2_with (first
  | (go_at_call 24;refine (new_anyD (32+8 * (n:Int)) _).mono ?_;rintro e w1 ⟨g,rfl,mb,kv,hd,hf,hb⟩;rw [HCL.out] at hd;have HD:Hid (DkAt w1 g mb kv (Dk.new (32+8 * n))):=hd;have HF:Hid (∀q∈foot g mb kv,w.heap.size≤q):=hf;have HB1:Hid (Below w.heap.size w w1):=hb;clear hd hf hb hm)
  | ((with_reducible refine at_op (some 16) (.build 61 #[(3,.const (.int .u8 9))]) ?_);go_must (refine wpl_build (u8s kNine) _ rfl built_nine ?_))
  | (go_at_call 25;go_loud (refine (HFM.out g mb kv _ (Nat.le_trans hw2 HB1.out.size) (Tab.updS (L:=[]) HT.out (UpdS.of_below HB1.out) (by simp)) (QTab.updS (L:=[]) HQ.out (UpdS.of_below HB1.out) (by simp)) (fun q hq=>Nat.le_trans hw2 (HF.out q hq)) HD.out).mono ?_;rintro e w2 ⟨gp,ml,mu,d',he,hp,hon,hdn,hlo,hgp,hml,hmu,hu⟩;subst he;have HP:Hid (PgAt w2 gp g mb kv ml mu (⟨kP,kS,kN,⟨3,3,4⟩,0,{data:=#[]},fun _=>none,fun _=>none,false⟩:Pg) d'):=hp;have HON:Hid (On d' 132):=hon;have HN:Hid (d'.n=32+8 * n):=hdn;have HLO:Hid (LimOk d' 4):=hlo;have HGE:Hid (w.heap.size≤gp∧w.heap.size≤ml∧w.heap.size≤mu):=⟨Nat.le_trans HB1.out.size hgp,Nat.le_trans HB1.out.size hml,Nat.le_trans HB1.out.size hmu⟩;have HB2:Hid (Below w.heap.size w w2):=below_past HB1.out hu HF.out;clear hp hon hdn hlo hgp hml hmu hu)))
 have hm:=Mem.start w2
 refine wp_ends0 ?_
 refine anyH_start (T:=fun W=>Mem w2 [] W []) (by kernel_rfl) hm ?_
 clear hm
 intro w3 hm
 refine aT 0 (v:=.int .i64 (n:Int)) rfl (by kernel_rfl) rfl (fun W _=>by go_simp) hm ?_
 go_simp
 refine aT 2 (v:=.int .i64 (n:Int)) rfl (by kernel_rfl) rfl (fun W _=>by go_simp) hm ?_
 go_simp
 refine wpAnyH_all (rs:=[1,3]) (by kernel_rfl) (by simp) ?_
 intro i hi
 simp only [List.mem_cons,List.not_mem_nil,or_false] at hi
 rcases hi with rfl | rfl
 ·refine anyH_opW 1 rfl rfl ?_
  intro K hK
  refine wpl_mkPagesR n rfl rfl rfl rfl (by omega) hm ?_
  clear hm
  intro wm1 q1 hm
  refine wpList_nil ?_
  refine hK _ _ hm.tail ?_
  clear hK K
  refine aO 3 (by kernel_rfl) rfl rfl ?_
  intro K hK
  refine wpl_mkPagesR n rfl rfl rfl rfl (by omega) hm ?_
  clear hm
  intro wm3 q2 hm
  refine wpList_nil ?_
  refine hK _ _ hm.tail.tail ?_
  clear hK K
  go_simp
  refine aT 4 (v:=.agg (modC q1 q2 n).toArray) rfl (by kernel_rfl) rfl (fun W _=>exec_built2 _ _ (by first | rfl | simp [Act.eval]) (built_mod _ _ _)) hm.tail.tail ?_
  go_simp
  refine aO 5 (by kernel_rfl) rfl rfl ?_
  intro K hK
  refine wpl_box (modC q1 q2 n) rfl hm ?_
  clear hm
  intro wb gm hm
  refine wpList_nil ?_
  refine hK _ _ hm.tail.tail.tail ?_
  clear hK K
  refine aT 6 (v:=.pointer (some ⟨gm,0,none⟩)) rfl (by kernel_rfl) rfl (fun W _=>by go_simp) hm.tail.tail.tail ?_
  go_simp
  refine wpAnyH_done (by kernel_rfl) ?_ _
  simp only [endsIn]
  go_wp2_with fail
  have hpz:=PgAt.mem HP.out hm
  have hge:=HGE.out
  refine bodyPost_ret (results_tmp4 rfl _ _ _) rfl ?_
  refine ⟨gp,g,mb,kv,ml,mu,d',gm,q1,q2,rfl,hpz,HON.out,HN.out,HLO.out,hm.get 0 rfl,hm.get 2 rfl,(by have h8:=hm.fresh _ (List.mem_of_getElem? (i:=2) rfl);simp only [List.not_mem_nil,false_or] at h8;exact Nat.le_trans HB2.out.size h8),fun q hq=>?_,HB2.out.trans (hm.below.mono HB2.out.size)⟩
  simp only [List.mem_cons,footP] at hq
  have h9:=hm.fresh _ (List.mem_cons_self ..)
  simp only [List.not_mem_nil,false_or] at h9
  rcases hq with rfl | rfl | rfl | rfl | hq
  ·exact Nat.le_trans HB2.out.size h9
  ·exact hge.1
  ·exact hge.2.1
  ·exact hge.2.2
  ·exact HF.out q hq
 ·refine anyH_opW 3 rfl rfl ?_
  intro K hK
  refine wpl_mkPagesR n rfl rfl rfl rfl (by omega) hm ?_
  clear hm
  intro wm3 q2 hm
  refine wpList_nil ?_
  refine hK _ _ hm.tail ?_
  clear hK K
  refine aO 1 (by kernel_rfl) rfl rfl ?_
  intro K hK
  refine wpl_mkPagesR n rfl rfl rfl rfl (by omega) hm ?_
  clear hm
  intro wm1 q1 hm
  refine wpList_nil ?_
  refine hK _ _ hm.tail.tail ?_
  clear hK K
  go_simp
  refine aT 4 (v:=.agg (modC q1 q2 n).toArray) rfl (by kernel_rfl) rfl (fun W _=>exec_built2 _ _ (by first | rfl | simp [Act.eval]) (built_mod _ _ _)) hm.tail.tail ?_
  go_simp
  refine aO 5 (by kernel_rfl) rfl rfl ?_
  intro K hK
  refine wpl_box (modC q1 q2 n) rfl hm ?_
  clear hm
  intro wb gm hm
  refine wpList_nil ?_
  refine hK _ _ hm.tail.tail.tail ?_
  clear hK K
  refine aT 6 (v:=.pointer (some ⟨gm,0,none⟩)) rfl (by kernel_rfl) rfl (fun W _=>by go_simp) hm.tail.tail.tail ?_
  go_simp
  refine wpAnyH_done (by kernel_rfl) ?_ _
  simp only [endsIn]
  go_wp2_with fail
  have hpz:=PgAt.mem HP.out hm
  have hge:=HGE.out
  refine bodyPost_ret (results_tmp4 rfl _ _ _) rfl ?_
  refine ⟨gp,g,mb,kv,ml,mu,d',gm,q1,q2,rfl,hpz,HON.out,HN.out,HLO.out,hm.get 0 rfl,hm.get 1 rfl,(by have h8:=hm.fresh _ (List.mem_of_getElem? (i:=1) rfl);simp only [List.not_mem_nil,false_or] at h8;exact Nat.le_trans HB2.out.size h8),fun q hq=>?_,HB2.out.trans (hm.below.mono HB2.out.size)⟩
  simp only [List.mem_cons,footP] at hq
  have h9:=hm.fresh _ (List.mem_cons_self ..)
  simp only [List.not_mem_nil,false_or] at h9
  rcases hq with rfl | rfl | rfl | rfl | hq
  ·exact Nat.le_trans HB2.out.size h9
  ·exact hge.1
  ·exact hge.2.1
  ·exact hge.2.2
  ·exact HF.out q hq
open Go Go.ChangeShapes Go.WideShapes Go.ChangeAt Go.RowKit
theorem cells_bs:Tryz.prog.cellsOf 22=1:=by kernel_rfl
theorem open_bsCell {H:Type} {enc:TypeId×Value→H} {W:World} {v:Value} {n:Nat} {x:DataW H×List MemPlace} (hf:DataW.trod enc Tryz.prog W 0 (fun _=>true) true n 22 [v]=some x) :
  ∃(p:Option Addr) (c:Nat) (cs:List Int),v=.slice p cs.length c∧SlOld W (.slice p cs.length c) cs∧Bytes cs:=by
 rcases open_ints un_bs un_u8 cells_u8 hf with ⟨hcs,_⟩ | ⟨x,l,c,zs,hcs,_,hl,_,hz,_,hcell,hwz⟩
 ·simp only [List.cons.injEq,and_true] at hcs
  exact ⟨none,0,[],hcs,⟨none,0,rfl,Nat.le_refl _,fun h=>absurd h (by simp)⟩,by intro y hy;cases hy⟩
 ·simp only [List.cons.injEq,and_true] at hcs
  have hzl:zs.length=c:=by simpa using hz
  have htl:(zs.take l).length=l:=by simp;omega
  refine ⟨some x,c,zs.take l,by rw [htl];exact hcs,⟨some x,c,rfl,by rw [htl];exact hl,fun h0=>?_⟩,?_⟩
  ·obtain ⟨b,off,rfl,hc⟩:=ints_at hcell (by omega)
   exact ⟨b,off,rfl,Seg.take (fun j hj=>hc j hj) l⟩
  ·intro y hy
   have:=bounds_u8 (hwz y (List.mem_of_mem_take hy))
   omega
open Go Go.RowKit Go.Maps
set_option maxHeartbeats 1000000 in
theorem len64_one (w:World):Calls Tryz.prog 122 #[.int .u64 1] w fun e w'=>e=.returned (.int .i64 1)∧w'=w:=by
 go_enter Tryz.func122,Tryz.ntmps122
 go_wp2
 go_ret
 refine ⟨?_,rfl⟩
 show Ending.returned (Value.int .i64 (wrap64 (wrap64 (Lib.len8 1))))=_
 rw [show Lib.len8 1=1 by decide +kernel,wrap64_of 1 (by omega),wrap64_of 1 (by omega)]
set_option maxHeartbeats 1000000 in
theorem len_one (w:World):Calls Tryz.prog 88 #[.int .u64 1] w fun e w'=>e=.returned (.int .i64 1)∧w'=w:=by
 go_enter Tryz.func88,Tryz.ntmps88
 go_wp2_with (first
  | (go_at_call 122;refine (len64_one _).mono ?_;rintro e w1 ⟨rfl,rfl⟩))
 go_ret
 exact ⟨rfl,rfl⟩
set_option maxHeartbeats 1000000 in
theorem insert_one (v:Value) (w:World):Calls Tryz.prog 112 #[v,.int .i64 0,.int .i64 1] w fun e w'=>e=.returned (.tuple #[])∧w'=w:=by
 go_enter Tryz.func112,Tryz.ntmps112
 go_wp2_with fail
 go_loopw [6] (fun vi wr=>vi=.int .i64 1∧wr=w) (fun _ _=>0)
 case atStart=>exact ⟨rfl,rfl⟩
 case round =>
  obtain ⟨rfl,rfl⟩:=hrel
  go_wp2_with fail
  first | go_end0 | go_ret
  exact ⟨rfl,rfl⟩
set_option maxHeartbeats 1000000 in
theorem pdq_one (v:Value) (l:Int) (w:World):Calls Tryz.prog 87 #[v,.int .i64 0,.int .i64 1,.int .i64 l] w fun e w'=>e=.returned (.tuple #[])∧w'=w:=by
 go_enter Tryz.func87,Tryz.ntmps87
 go_wp2_with fail
 go_loopw [1,2] (fun v1 v2 wr=>v1=.int .i64 0∧v2=.int .i64 1∧wr=w) (fun _ _ _=>0)
 case atStart=>exact ⟨rfl,rfl,rfl⟩
 case round =>
  obtain ⟨rfl,rfl,rfl⟩:=hrel
  go_wp2_with (first
   | (go_at_call 112;refine (insert_one _ _).mono ?_;rintro e w1 ⟨rfl,rfl⟩))
  (try simp only [Exit.inBlock,Exit.then])
  refine bodyPost_ret (results_none rfl _ _ _) rfl ?_
  exact ⟨rfl,rfl⟩
set_option maxHeartbeats 1000000 in
theorem sort_one (p:Option Addr) (c:Nat) (w:World):Calls Tryz.prog 53 #[.slice p 1 c] w fun e w'=>e=.returned (.tuple #[])∧w'=w:=by
 go_enter Tryz.func53,Tryz.ntmps53
 go_wp2_with (first
  | (go_at_call 88;refine (len_one _).mono ?_;rintro e w1 ⟨rfl,rfl⟩)
  | (go_at_call 87;refine (pdq_one _ _ _).mono ?_;rintro e w1 ⟨rfl,rfl⟩))
 first | go_end0 | go_ret
 exact ⟨rfl,rfl⟩
open Go Go.RowKit Go.Maps
section
variable {P:Program} {ops:Array Oper} {rest:List Oper} {a:Act} {w w0:World} {Q:Exit→Act→World→Prop} {dst:Option Tmp} {typ:TypeId} {pos:String} {aft:Array Edge} {gd:Option (Nat×Bool)}
theorem wpl_appV {s x:Operand} {t e:TypeId} (z:Value) (K bytes:Nat) (hw:Region.wanted {dst:=dst,op:=.call {callee:=.builtin .append,args:=#[s,x],argTypes:=#[t,t]},type:=typ,pos:=pos,after:=aft,guard:=gd} (yielded ops a.tmps)=true)
  (ht:P.underlying t=some (.slice e)) (hi:(P.info? e).map (fun i=>(i.zero,i.size,i.bytes))=some (some z,K,bytes)) (hz:z.cells.size=K) (hK0:0<K) (hby:bytes≤100) {v:Value} {n base g:Nat} {cs new:List Value} (hown:w.ownsRow base e K v n cs) (hbase:base≤w.heap.size)
  (hs:a.eval s=v) (hx:a.eval x=.slice (some ⟨g,0,none⟩) 1 1) (hr:Row w g new e) (hl:new.length=K) (h1:∀u∈new,u.oneCell'=true) (hn:n≤100000)
  (h:∀v' w',w'.ownsRow base e K v' (n+1) (cs++new)→w.grownBy w' v.ownBlock→(v'.ownBlock=v.ownBlock∨v'.ownBlock=some w.heap.size)→wpList P ops Q rest (a.put dst v') w') :
  wpList P ops Q ({dst:=dst,op:=.call {callee:=.builtin .append,args:=#[s,x],argTypes:=#[t,t]},type:=typ,pos:=pos,after:=aft,guard:=gd}::rest) a w:=by
 cases hq:P.info? e with
 | none=>simp [hq] at hi
 | some i =>
  simp only [hq,Option.map_some,Option.some.injEq,Prod.mk.injEq] at hi
  obtain ⟨hz1,h2,h3⟩:=hi
  have hbd:(n+1) * bytes≤140737488355328:=by
   have:=Nat.mul_le_mul (show n+1≤100001 by omega) hby
   omega
  obtain ⟨v',w',hrun,ho,hg,_,hb⟩:=run_append_own_at (P:=P) w base t typ e i z K bytes ht hq hz1 h2 h3 hz hK0 v n cs hown ⟨g,0,none⟩ 1 1 new (by rw [hl];omega) (fun j u hu=>by rw [add_at,Nat.zero_add,hr.cell j];exact hu) h1 (by unfold maxLen;omega) hbd hbase
  refine wpList_step fun K hK=>?_
  rw [if_pos hw]
  have hh:=hK _ _ (h v' w' ho hg hb)
  unfold Oper.wp execOp
  simp only [resolve,invoke,builtin,Sem.run_bind,Sem.run_pure,Result.andThen_ok,List.map_toArray,List.map_cons,List.map_nil,hs,hx,hrun]
  exact hh
end
theorem un_u32s:Tryz.prog.underlying 53=some (.slice 30):=Tryz.underlying53
theorem made_u32:(Tryz.prog.info? 30).map (fun i=>(i.zero,i.size,i.bytes))=some (some (.int .u32 0),1,4):=by kernel_rfl
theorem info_u32:(Tryz.prog.info? 30).map (fun i=>(i.zero,i.size))=some (some (.int .u32 0),1):=by kernel_rfl
theorem exec_ix0 {P:Program} {a:Act} {w:World} {dst:Option Tmp} {typ:TypeId} {pos:String} {aft:Array Edge} {gd:Option (Nat×Bool)} {x ix:Operand} {t e:TypeId} (hu:P.underlying t=some (.slice e)) (hs:(P.info? e).map (·.size)=some 1) {b n cap:Nat} (i:Nat) {ii:Int} (hx:a.eval x=.slice (some ⟨b,0,none⟩) n cap) (hix:a.eval ix=.int .i64 ii) (hii:ii=(i:Int)) (hi:i<n) :
  (execOp a.eval {dst:=dst,op:=.indexAddr t x ix,type:=typ,pos:=pos,after:=aft,guard:=gd}).run P w=.ok (.value (.pointer (some ⟨b,i,none⟩))) w:=by
 have h:=exec_ixI (dst:=dst) (typ:=typ) (pos:=pos) (aft:=aft) (gd:=gd) (w:=w) hu hs i hx hix hii hi
 rw [Nat.zero_add] at h
 exact h
theorem no32 {w:World} {g:Nat} {cur:Array Value} (hg:w.heap[g]?=some (.cells cur 30 (0,0))):¬Mine w g:=by
 rintro (⟨es,c,h⟩ | ⟨l,h⟩ | ⟨l,h⟩ | ⟨l,h⟩)
 ·rw [hg] at h;cases h
 all_goals
  unfold Row at h
  rw [hg] at h
  simp only [Option.some.injEq,Obj.cells.injEq] at h
  exact absurd h.2.1 (by decide)
theorem own_bel {w w':World} {base n:Nat} {e:TypeId} {v:Value} {cs:List Value} (h:w.ownsRow base e 1 v n cs) (hb:Below w.heap.size w w'):w'.ownsRow base e 1 v n cs:=World.ownsRow.kept h (grown_of_below hb) (by cases h':v.ownBlock<;>simp)
theorem PgS.grown {w0 w w':World} {gp g mb:Nat} {kv:Value} {kP:List Int} {pg k:Nat} {U:Nat→Option (Option (List Int))} {L:Nat→Option (List Int)} {root:Int} {mt:ByteArray} {v:Value} {n:Nat} {cs:List Value} (h:PgS w0 w gp g mb kv kP pg k U L root mt) (ho:w.ownsRow w0.heap.size 30 1 v n cs) (hg:w.grownBy w' v.ownBlock):PgS w0 w' gp g mb kv kP pg k U L root mt:=by
 obtain ⟨ml,mu,P,d,h⟩:=h
 have hne:∀q∈footP gp g mb kv ml mu,some q≠v.ownBlock:=fun q hq e=>by
  rcases ho.2 with ⟨rfl,_⟩ | ⟨g',cap,cur,rfl,hb,hg',_⟩
  ·simp [Value.ownBlock] at e
  ·simp only [Value.ownBlock,Option.some.injEq] at e
   subst e
   exact no32 hg' (h.at_.mine _ hq)
 have u:UpdS (v.ownBlock.toList) w w':=⟨hg.os,hg.tape,hg.output,hg.size,fun q hq hn=>hg.block q hq (fun e=>hn (by rw [←e];simp))⟩
 have hge:∀q∈v.ownBlock.toList,w0.heap.size≤q:=fun q hq=>by
  rcases ho.2 with ⟨rfl,_⟩ | ⟨g',cap,cur,rfl,hb,_⟩
  ·simp [Value.ownBlock] at hq
  ·simp [Value.ownBlock] at hq;omega
 have hg2:∀q∈v.ownBlock.toList,2≤q:=fun q hq=>Nat.le_trans h.e.w2 (hge q hq)
 exact ⟨ml,mu,P,d,h.at_.keep (fun q hq=>hg.block q (h.at_.lt q hq) (hne q hq)),h.off,h.on,h.n,h.key,h.rt,h.mte,h.rtb,h.mtb,h.gn,h.lim,h.u,h.l,⟨h.e.t.updS u hg2,QTab.updS h.e.q u hg2,h.e.ge,h.e.w2,below_past h.e.bl u hge⟩⟩
def idsL (i:Nat):List Value:=u32s ((List.range i).map fun (j:Nat)=>(j:Int))
theorem idsL_next (i:Nat):idsL i++[.int .u32 (i:Int)]=idsL (i+1):=by simp [idsL,u32s,List.range_succ]
theorem idsL_get {i k:Nat} (h:k<i):(idsL i)[k]?=some (.int .u32 (k:Int)):=by simp [idsL,u32s,h]
theorem own_cell {w:World} {base n:Nat} {v:Value} {cs:List Value} (h:w.ownsRow base 30 1 v n cs) (h0:0<n):∃gi cap,v=.slice (some ⟨gi,0,none⟩) n cap:=by
 rcases h.2 with hn | ⟨g,cap,cur,rfl,hb,hg,rest⟩
 ·omega
 ·exact ⟨g,cap,rfl⟩
theorem own_at {w:World} {base n gi cap:Nat} {cs:List Value} (h:w.ownsRow base 30 1 (.slice (some ⟨gi,0,none⟩) n cap) n cs) {k:Nat} (hk:k<n) {x:Value} (hx:cs[k]?=some x):w.cell? ⟨gi,k,none⟩=some x:=by
 rcases h.2 with hn | ⟨g,cap',cur,he,hb,hg,h1,h2,h3,h4⟩
 ·omega
 ·simp only [Value.slice.injEq,Option.some.injEq,Addr.mk.injEq] at he
  obtain ⟨⟨rfl,_⟩,_⟩:=he
  have hr:Row w gi cur.toList 30:=by unfold Row;rw [hg]
  rw [hr.cell k,←hx,←h4,List.getElem?_take]
  rw [if_pos (by omega)]
def aF (i j:Nat):Option (Option (List Int)):=if j<i then some none else none
def hit (turn len i j:Nat):Bool:=(List.range i).any fun x=>(x+turn) % len==j
def uE (turn len:Nat) (cs:Nat→List Int) (i j:Nat):Option (Option (List Int)):=if j<len then some (if hit turn len i j=true then some (cs j) else none) else none
def lE (len:Nat) (cs:Nat→List Int) (j:Nat):Option (List Int):=if j<len then some (cs j) else none
theorem sln_old {w w1 W:World} {v:Value} {bs:List Int} (h:SlOld w v bs) (hb:Below w.heap.size w W) (hle:w.heap.size≤w1.heap.size):SlN w1 W v bs:=by
 obtain ⟨p,cap,rfl,hc,hs⟩:=h
 refine ⟨p,cap,rfl,hc,fun h0=>?_⟩
 obtain ⟨b,off,rfl,hseg⟩:=hs h0
 refine ⟨b,off,rfl,fun j hj=>?_,Or.inl (Nat.lt_of_lt_of_le (hseg.lt h0) hle)⟩
 rw [World.cell?_of_block (w:=w) (hb.block b (hseg.lt h0))]
 exact hseg j hj
theorem cell_old {w W:World} {b o:Nat} {v:Value} (h:w.cell? ⟨b,o,none⟩=some v) (hb:Below w.heap.size w W):W.cell? ⟨b,o,none⟩=some v:=by
 rw [World.cell?_of_block (w:=w) (hb.block b (block_lt_of_cell h))]
 exact h
open Go Go.RowKit Go.Maps
section
variable {ops:Array Oper} {rest:List Oper} {a:Act} {w:World} {Q:Exit→Act→World→Prop} {dst:Option Tmp} {typ:TypeId} {pos:String} {aft:Array Edge}
theorem wpl_mkIds {x y:Operand} (c:Nat) (hc:c≤400) {j:Int} (hx:a.eval x=.int .i64 0) (hy:a.eval y=.int .i64 j) (hj:j=(c:Int))
  (h:∀w' v,Below w.heap.size w w'→w'.ownsRow w.heap.size 30 1 v 0 []→wpList Tryz.prog ops Q rest (a.put dst v) w') :
  wpList Tryz.prog ops Q ({dst:=dst,op:=.makeSlice 53 x y,type:=typ,pos:=pos,after:=aft,guard:=none}::rest) a w:=by
 subst hj
 refine wpList_plain rfl fun K hK=>?_
 have hi:=made_u32
 cases hq:Tryz.prog.info? 30 with
 | none=>simp [hq] at hi
 | some q =>
  simp only [hq,Option.map_some,Option.some.injEq,Prod.mk.injEq] at hi
  obtain ⟨w',hr,ho,hg⟩:=run_make_own (P:=Tryz.prog) w w.heap.size 53 30 q (.int .u32 0) 1 un_u32s hq hi.1 hi.2.1 .i64 .i64 c (by rw [hi.2.2];omega) (by unfold maxLen;omega) (Nat.le_refl _)
  have hh:=hK _ _ (h w' _ ⟨hg.os,hg.tape,hg.output,hg.size,fun k hk=>hg.block k hk (by simp)⟩ ho)
  unfold Oper.wp execOp
  simp only [hx,hy,hr,Sem.run_bind,Sem.run_pure,Result.andThen_ok]
  exact hh
end
theorem cntB_one:cntB (fun j=>decide (j=0))=1:=by kernel_rfl
theorem gone_sub {kl:Nat→Lit} {left:Lit→Bool} {F:Sts} (h1:∀j,(F j).isSome=decide (j=0)) (h0:gone kl left F 0=none):gone kl left F=fun _=>none:=by
 funext j
 by_cases hj:j=0
 ·rw [hj];exact h0
 ·unfold gone
  have h2:=h1 j
  rw [decide_eq_false hj] at h2
  split
  ·rfl
  ·exact Option.isNone_iff_eq_none.1 (by rw [←Option.not_isSome,h2];rfl)
theorem ownB_ne {w:World} {base n q:Nat} {v:Value} {cs:List Value} (h:w.ownsRow base 30 1 v n cs) (hq:q<base):some q≠v.ownBlock:=by
 rcases h.2 with ⟨rfl,_⟩ | ⟨g',cap,cur,rfl,hb,_⟩
 ·simp [Value.ownBlock]
 ·simp only [Value.ownBlock]
  intro e
  have:=Option.some.inj e
  omega
set_option maxHeartbeats 2000000 in
theorem used_one (gp g mb:Nat) (kv:Value) (ml mu:Nat) (P:Pg) (d:Dk) (h1:∀j,(P.used j).isSome=decide (j=0)) (w:World) (hp:PgAt w gp g mb kv ml mu P d) :
  Calls Tryz.prog 20 #[.pointer (some ⟨gp,0,none⟩)] w fun e w'=>∃v,e=.returned v∧w'.ownsRow w.heap.size 30 1 v 1 (idsL 1)∧Below w.heap.size w w':=by
 obtain ⟨qn,D,ho,pm⟩:=hp.used
 have HP:Hid (PgAt w gp g mb kv ml mu P d):=hp
 have HPM:Hid (SM D P.used):=pm
 have HO0:Hid (w.ownsMap Tryz.prog 79 rdV mu qn D):=ho
 have HMU:Hid (mu<w.heap.size):=hp.lt mu (by simp [footP])
 obtain ⟨kl,hkl⟩:=kl_ex
 have HKL:Hid (∀i,i<4294967296→IsK i (kl i)):=hkl
 obtain ⟨F,hF⟩:∃F,F=P.used:=⟨_,rfl⟩
 have HF:Hid (∀_:Unit,P.used=F):=fun _=>hF.symm
 have H1:Hid (∀j,(F j).isSome=decide (j=0)):=by rw [hF];exact h1
 have HCF:Hid (cntS F=1):=by show _=_;rw [cntS_of F _ H1.out];exact cntB_one
 have HCT:Hid (((cntS P.used:Nat):Int)=1):=by show _=_;rw [←hF,HCF.out];rfl
 have HGS:Hid (cntS (gone kl (Maps.has D) F)=0):=by
  show _=_
  rw [hF,gone_start hkl pm (fun i h=>h),cntS_none]
 clear hp pm ho hkl hF h1
 go_enter Tryz.func20,Tryz.ntmps20
 go_wp2_with (first
  | ((with_reducible refine at_op (some 8) (.load 73 (.tmp 7)) ?_);go_must (refine wpl_execG (.map (some mu)) rfl (exec_ldx (.map (some mu)) ((PgAt.cell HP.out 6).trans rfl) rfl ag_smap) ?_))
  | ((with_reducible refine at_op (some 9) (.call {callee:=.builtin .len,args:=#[.tmp 8],argTypes:=#[73]}) ?_);go_must (refine wpl_execG (.int .i64 1) rfl (by rw [←HCT.out];exact exec_stlen (PgAt.used HP.out) rfl) ?_))
  | ((with_reducible refine at_op (some 10) (.makeSlice 53 (.const (.int .i64 0)) (.tmp 9)) ?_);go_must (refine wpl_mkIds 1 (by omega) rfl rfl rfl ?_);intro w1 v3 hb1 ho1;have HO1:Hid (w1.ownsRow w.heap.size 30 1 v3 0 []):=ho1;have HB1:Hid (Below w.heap.size w w1):=hb1;have HOW:Hid (w1.ownsMap Tryz.prog 79 rdV mu qn D):=HO0.out.kept (grown_of_below hb1) (by simp);have HP1:Hid (PgAt w1 gp g mb kv ml mu P d):=PgAt.below HP.out hb1;clear hb1 ho1)
  | ((with_reducible refine at_op (some 14) (.load 73 (.tmp 13)) ?_);go_must (refine wpl_execG (.map (some mu)) rfl (exec_ldx (.map (some mu)) ((PgAt.cell HP1.out 6).trans rfl) rfl ag_smap) ?_))
  | ((with_reducible refine at_op (some 15) (.range 73 (.tmp 14)) ?_);go_must (refine wpList_range_own _ rfl _ _ rfl 79 83 idx_law un_smap rdV mu qn D rfl HOW.out ?_);intro w2 hrg0 hg0 hs0))
 have hb12:Below w1.heap.size w1 w2:=⟨hg0.os,hg0.tape,hg0.output,hg0.size,fun k hk=>hg0.block k hk (by simp)⟩
 have HB2:Hid (Below w.heap.size w w2):=HB1.out.trans (hb12.mono HB1.out.size)
 have HO2:Hid (w2.ownsRow w.heap.size 30 1 v3 0 []):=own_bel HO1.out hb12
 have HRG:Hid (w2.ranges Tryz.prog 79 rdV mu w1.heap.size qn D (Maps.has D) (Maps.size D)):=hrg0
 have HNE:Hid (some w1.heap.size≠v3.ownBlock):=by
  have h9:=HO1.out
  rcases h9.2 with ⟨rfl,_⟩ | ⟨g',cap,cur,rfl,hb,hg',_⟩
  ·show _≠_;simp [Value.ownBlock]
  ·show _≠_
   simp only [Value.ownBlock]
   intro e
   have h8:=(Array.getElem?_eq_some_iff.1 hg').1
   have:=Option.some.inj e
   omega
 have HIT:Hid (w.heap.size≤w1.heap.size):=HB1.out.size
 clear hrg0 hg0 hs0 HOW HO1 hb12 HB1 HP1
 go_frame
 go_loopw [3,16] (fun v3' _ wr=>∃(left:Lit→Bool) (cnt c2:Nat) (v:Value),v=v3'∧wr.ranges Tryz.prog 79 rdV mu w1.heap.size qn D left cnt∧Hid (Below w.heap.size w wr)∧Hid (cntS (gone kl left F)=c2)∧Hid (wr.ownsRow w.heap.size 30 1 v c2 (idsL c2))∧Hid (some w1.heap.size≠v.ownBlock))
  (fun _ _ wr=>wr.rangeLeft mu w1.heap.size)
 case atStart=>exact ⟨_,_,0,_,rfl,HRG.out,HB2,HGS,HO2,HNE⟩
 case round =>
  clear HRG HB2 HGS HO2 HNE HO0
  obtain ⟨left,cnt,c2,v,hv3,hrg,HBR,HC2,HO,HNE⟩:=hrel
  subst hv3
  have HRR:Hid (wr.ranges Tryz.prog 79 rdV mu w1.heap.size qn D left cnt):=hrg
  clear hrg
  go_wp2_with (first
   | (at_next;refine wpList_next_ranges _ rfl _ rfl 79 idx_law rdV idxV id (fun key kl hk=>by obtain ⟨i,_,hi⟩:=IsK.of hk;exact ⟨i,hi⟩) (fun v _ _=>⟨v,rfl⟩) mu w1.heap.size qn D _ _ rfl HRR.out ?_ ?_)
   | go_in)
  ·intro _ hl0
   have hc21:c2=1:=by
    rw [←HC2.out,←HCF.out]
    congr 1
    funext i
    unfold gone
    rw [hl0]
    rfl
   subst hc21
   obtain ⟨gi,ci,hv⟩:=own_cell HO.out (by omega)
   subst hv
   clear hl0
   go_wp2_with (first
    | (go_at_call 53;refine (sort_one _ _ _).mono ?_;rintro e w9 ⟨rfl,rfl⟩))
   go_ret
   exact ⟨_,rfl,HO.out,HBR.out⟩
  ·intro x c k yd yp w3 cnt3 hkey hlk hv hat hrg3 hlt hg3 hs3 hen
   obtain ⟨i,hik,hxi⟩:=IsK.of hkey
   rw [hxi] at hen ⊢
   clear hxi hkey
   have hhas:Maps.has D k=true:=has_true_of_atKey hat
   rw [HPM.out.has i k hik,HF.out (),H1.out i] at hhas
   have hi0:i=0:=of_decide_eq_true hhas
   subst hi0
   have HG0:Hid (gone kl left F 0=none):=by
    show (if left (kl 0)=true then none else F 0)=none
    rw [if_pos (by rw [(HKL.out 0 hik.1).uni hik];exact hlk)]
   have hc20:c2=0:=by rw [←HC2.out,gone_sub H1.out HG0.out,cntS_none]
   subst hc20
   obtain ⟨s,hps⟩:=Option.isSome_iff_exists.1 (show (F 0).isSome=true by rw [H1.out];rfl)
   have HC3:Hid (cntS (gone kl (fun z=>left z && !z.sameKey k) F)=1):=by
    show _=_
    have h9:=gone_any (left:=left) (f:=F) HKL.out (fun j s h=>by have h2:=H1.out j;rw [h] at h2;have:=of_decide_eq_true h2.symm;omega) hik
    rw [←h9,hps,cntS_put _ _ _ HG0.out (by omega),HC2.out]
   have HRG3:Hid (w3.ranges Tryz.prog 79 rdV mu w1.heap.size qn D (fun z=>left z && !z.sameKey k) cnt3):=hrg3
   have HLT:Hid (cnt3<cnt):=hlt
   have HRL:Hid (wr.rangeLeft mu w1.heap.size=cnt):=HRR.out.left_eq
   have HB3:Hid (Below w.heap.size w w3):=⟨hg3.os.trans HBR.out.os,hg3.tape.trans HBR.out.tape,hg3.output.trans HBR.out.output,Nat.le_trans HBR.out.size hg3.size,fun z hz=>(hg3.block z (Nat.lt_of_lt_of_le hz HBR.out.size) (fun e=>by simp only [Option.some.injEq] at e;have:=HIT.out;omega)).trans (HBR.out.block z hz)⟩
   have HO3:Hid (w3.ownsRow w.heap.size 30 1 v 0 (idsL 0)):=World.ownsRow.kept HO.out hg3 (by
    cases hvb:v.ownBlock with
    | none=>exact Or.inl rfl
    | some q=>exact Or.inr (fun e=>HNE.out (by rw [hvb];exact e.symm)))
   have hm:=Mem.start w3
   clear hlk hv hat hg3 hs3 hhas hps hrg3 HRR hlt HO HBR HC2
   go_wp2_with (first
    | ((with_reducible refine at_op (some 4) (.alloc 79) ?_);refine wpl_alloc _ zero_idx hm ?_;clear hm;intro w4a ga hm)
    | ((with_reducible refine at_op none (.store 79 (.tmp 4) (.tmp 19)) ?_);refine wpl_stw 0 (u8s (four ((0:Nat):Int))) hm rfl rfl rfl 4 sz_idx (by simp [u8s_length]) (rfl) (u8s_one _) ?_;clear hm;intro w6 hm)
    | ((with_reducible refine at_op (some 21) (.slice 79 (.tmp 4) none none none) ?_);go_must (refine wpl_execG (.slice (some ⟨ga,0,none⟩) 4 4) rfl (exec_slaT 4 un_idx sz_u8 0 4 (by omega) (by omega) rfl (Or.inr ⟨rfl,rfl⟩) (Or.inr ⟨rfl,rfl⟩)) ?_))
    | (go_at_call 52;refine (bigN_any (four ((0:Nat):Int)) _ (by simp [four]) (four_bytes _) _ ⟨some ⟨ga,0,none⟩,4,rfl,Nat.le_refl _,fun _=>⟨ga,0,rfl,Seg.row (hm.get 0 rfl)⟩⟩).mono ?_;rintro e w7 ⟨he,hb⟩;rw [edOf_four 0 (by omega)] at he;subst he;replace hm:=hm.call hb;have HO7:Hid (w7.ownsRow w.heap.size 30 1 v 0 (idsL 0)):=own_bel HO3.out hm.below;have HB7:Hid (Below w3.heap.size w3 w7):=hm.below;clear hb hm HO3)
    | ((with_reducible refine at_op (some 23) (.buildSlice 53 1 #[(0,.tmp 22)]) ?_);go_must (refine wpl_bsl1 rfl (.int .u32 0) (.int .u32 ((0:Nat):Int)) un_u32s info_u32 rfl rfl rfl (Mem.start w7) ?_);intro w8 g8 hb8 hm8;have HR8:Hid (Row w8 g8 [.int .u32 ((0:Nat):Int)] 30):=hm8.get 0 rfl;have HO8:Hid (w8.ownsRow w.heap.size 30 1 v 0 (idsL 0)):=own_bel HO7.out hb8;have HB8:Hid (Below w3.heap.size w3 w8):=HB7.out.trans (hb8.mono HB7.out.size);clear hb8 hm8 HO7 HB7)
    | ((with_reducible refine at_op (some 24) (.call {callee:=.builtin .append,args:=#[.tmp 20,.tmp 23],argTypes:=#[53,53]}) ?_);go_must (refine wpl_appV (.int .u32 0) 1 4 rfl un_u32s made_u32 rfl (by omega) (by omega) HO8.out (Nat.le_trans HB3.out.size HB8.out.size) rfl rfl HR8.out rfl (by intro u hu;simp only [List.mem_cons,List.not_mem_nil,or_false] at hu;subst hu;rfl) (by omega) ?_);intro v9 w9 ho9 hg9 hw9;rw [idsL_next] at ho9;have HO9:Hid (w9.ownsRow w.heap.size 30 1 v9 1 (idsL 1)):=ho9;have HG9:Hid (w8.grownBy w9 v.ownBlock∧(v9.ownBlock=v.ownBlock∨v9.ownBlock=some w8.heap.size)):=⟨hg9,hw9⟩;clear ho9 hg9 hw9))
   have h38:=World.ranges.kept HRG3.out (grown_of_below HB8.out) (by simp) (by simp)
   have hrg9:=World.ranges.kept h38 HG9.out.1 (ownB_ne HO8.out HMU.out) HNE.out
   have HRG9:Hid (w9.ranges Tryz.prog 79 rdV mu w1.heap.size qn D (fun z=>left z && !z.sameKey k) cnt3):=hrg9
   have HRL9:Hid (w9.rangeLeft mu w1.heap.size=cnt3):=hrg9.left_eq
   have HB8':Hid (Below w.heap.size w w8):=HB3.out.trans (HB8.out.mono HB3.out.size)
   have HB9:Hid (Below w.heap.size w w9):=⟨HG9.out.1.os.trans HB8'.out.os,HG9.out.1.tape.trans HB8'.out.tape,HG9.out.1.output.trans HB8'.out.output,Nat.le_trans HB8'.out.size HG9.out.1.size,fun z hz=>(HG9.out.1.block z (Nat.lt_of_lt_of_le hz HB8'.out.size) (ownB_ne HO8.out hz)).trans (HB8'.out.block z hz)⟩
   have HNE9:Hid (some w1.heap.size≠v9.ownBlock):=by
    rcases HG9.out.2 with e | e
    ·show _≠_;rw [e];exact HNE.out
    ·show _≠_
     rw [e]
     intro e2
     have:=h38.lt
     have:=Option.some.inj e2
     omega
   clear hrg9 h38
   try go_frame
   go_roundw
   case rel=>exact ⟨_,_,1,_,rfl,HRG9.out,HB9,HC3,HO9,HNE9⟩
   case measure=>rw [HRL9.out,HRL.out];exact HLT.out
open Go Go.ChangeShapes Go.WideShapes Go.ChangeAt Go.RowKit
theorem un_stps:Tryz.prog.underlying 47=some (.slice 51):=Tryz.underlying47
theorem un_stp:∃fs,Tryz.prog.underlying 51=some (.struct fs)∧(fs[0]?).map (fun f=>(f.type,f.offset))=some (3,0)∧(fs[1]?).map (fun f=>(f.type,f.offset))=some (3,1)∧(fs[2]?).map (fun f=>(f.type,f.offset))=some (22,2)∧(fs[3]?).map (fun f=>(f.type,f.offset))=some (30,3)∧(fs[4]?).map (fun f=>(f.type,f.offset))=some (9,4)∧(fs[5]?).map (fun f=>(f.type,f.offset))=some (22,5)∧fs.size=6 :=
 ⟨match Tryz.prog.underlying 51 with | some (.struct fs)=>fs | _=>#[],by kernel_rfl,by kernel_rfl,by kernel_rfl,by kernel_rfl,by kernel_rfl,by kernel_rfl,by kernel_rfl,by kernel_rfl⟩
theorem cells_stp:Tryz.prog.cellsOf 51=6:=by kernel_rfl
theorem cells_u32e:Tryz.prog.cellsOf 30=1:=by kernel_rfl
theorem cells_strE:Tryz.prog.cellsOf 9=1:=by kernel_rfl
theorem info_stp:(Tryz.prog.info? 51).map (fun i=>(i.zero,i.size))=some (some (.agg [Value.int .i64 0,.int .i64 0,.slice none 0 0,.int .u32 0,.string {data:=#[]},.slice none 0 0].toArray),6):=by kernel_rfl
theorem zero_stp:∀w,(zeroValue 51).run Tryz.prog w=.ok (.agg [Value.int .i64 0,.int .i64 0,.slice none 0 0,.int .u32 0,.string {data:=#[]},.slice none 0 0].toArray) w:=(zero_of_info info_stp).1
theorem sz_stp:(Tryz.prog.info? 51).map (·.size)=some 6:=(zero_of_info info_stp).2
structure Stp where
 wh:Int
 i:Int
 pb:Option Addr
 cb:Nat
 bs:List Int
 rt:Int
 mt:ByteArray
 pc:Option Addr
 cc:Nat
 cs:List Int
def stp0:Stp:=⟨0,0,none,0,[],0,{data:=#[]},none,0,[]⟩
def Stp.row (x:Stp):List Value:=[.int .i64 x.wh,.int .i64 x.i,.slice x.pb x.bs.length x.cb,.int .u32 x.rt,.string x.mt,.slice x.pc x.cs.length x.cc]
structure Stp.Good (x:Stp) (W:World):Prop where
 sb:SlOld W (.slice x.pb x.bs.length x.cb) x.bs
 bb:Bytes x.bs
theorem open_stp {H:Type} {enc:TypeId×Value→H} {W:World} {cs:List Value} {n:Nat} {x:DataW H×List MemPlace} (hf:DataW.trod enc Tryz.prog W 0 (fun _=>true) true n 51 cs=some x):∃s:Stp,cs=s.row∧s.Good W:=by
 obtain ⟨fs,hu,h0,h1,h2,h3,h4,h5,hsz⟩:=un_stp
 obtain ⟨xs,m,rfl,_,hl,hxl,hget⟩:=DataW.trod_struct hu hf
 rw [cells_stp] at hl
 have key:∀(i:Nat) (T:TypeId),(fs[i]?).map (fun f=>(f.type,f.offset))=some (T,i)→Tryz.prog.cellsOf T=1→i<6→∃y c,cs[i]?=some c∧DataW.trod enc Tryz.prog W 0 (fun _=>true) true m T [c]=some y:=by
  intro i T hi hc hi5
  obtain ⟨f,hf1,hf2⟩:=Option.map_eq_some_iff.1 hi
  simp only [Prod.mk.injEq] at hf2
  obtain ⟨rfl,hfo⟩:=hf2
  have hg:=hget i f hf1
  rw [hc,hfo] at hg
  have hx:xs[i]?=some (xs[i]'(by omega)):=by simp [show i<xs.length by omega]
  rw [hx] at hg
  have hc1:cs[i]?=some (cs[i]'(by omega)):=by simp [show i<cs.length by omega]
  have hd:(cs.drop i).take 1=[cs[i]'(by omega)]:=by
   rw [List.drop_eq_getElem_cons (show i<cs.length by omega)]
   rfl
  rw [hd] at hg
  exact ⟨_,_,hc1,hg⟩
 obtain ⟨y0,c0,e0,t0⟩:=key 0 _ h0 cells_int (by omega)
 obtain ⟨y1,c1,e1,t1⟩:=key 1 _ h1 cells_int (by omega)
 obtain ⟨y2,c2,e2,t2⟩:=key 2 _ h2 cells_bs (by omega)
 obtain ⟨y3,c3,e3,t3⟩:=key 3 _ h3 cells_u32e (by omega)
 obtain ⟨y4,c4,e4,t4⟩:=key 4 _ h4 cells_strE (by omega)
 obtain ⟨y5,c5,e5,t5⟩:=key 5 _ h5 cells_bs (by omega)
 obtain ⟨z0,g0,_,_⟩:=DataW.trod_int un_int t0
 obtain ⟨z1,g1,_,_⟩:=DataW.trod_int un_int t1
 obtain ⟨z3,g3,_,_⟩:=DataW.trod_int Tryz.underlying30 t3
 obtain ⟨z4,g4,_,_⟩:=DataW.trod_string un_strT t4
 obtain ⟨p2,k2,l2,g2,s2,b2⟩:=open_bsCell t2
 obtain ⟨p5,k5,l5,g5,_,_⟩:=open_bsCell t5
 simp only [List.cons.injEq,and_true] at g0 g1 g3 g4
 subst g0 g1 g2 g3 g4 g5
 refine ⟨⟨z0,z1,p2,k2,l2,z3,z4,p5,k5,l5⟩,?_,⟨s2,b2⟩⟩
 match cs,hl,e0,e1,e2,e3,e4,e5 with
 | [a,b,c,d,e,f],_,e0,e1,e2,e3,e4,e5 =>
  simp only [List.getElem?_cons_zero,List.getElem?_cons_succ,Option.some.injEq] at e0 e1 e2 e3 e4 e5
  subst e0 e1 e2 e3 e4 e5
  rfl
theorem open_stps {H:Type} {enc:TypeId×Value→H} {W:World} {base:Nat} {v:Value} {d:DataW H} {ps:List MemPlace} (hok:Value.okWide Tryz.prog W .any base 47 v) (h:DataW.Trod enc Tryz.prog W 0 (fun _=>true) true 47 v d ps) :
  ∃(p:Option Addr) (len cap b o:Nat) (X:Nat→Stp),v=.slice p len cap∧(0<len→p=some ⟨b,o,none⟩) ∧
   ∀i,i<len→(∀j u,(X i).row[j]?=some u→W.cell? ⟨b,o+i * 6+j,none⟩=some u)∧(X i).Good W:=by
 obtain ⟨a,len,cap,rfl⟩:=okWide_slice un_stps hok
 obtain ⟨fuel,hf⟩:=h
 rcases Go.Deep.open_slice un_stps hf with ⟨hcs,_⟩ | ⟨x,l,c,m,n,D,Pl,hcs,_,hl,_,hm,_,hel⟩
 ·simp [Value.cells] at hcs
  obtain ⟨rfl,rfl,rfl⟩:=hcs
  exact ⟨none,0,0,0,0,fun _=>stp0,rfl,fun h=>absurd h (by omega),fun i hi=>absurd hi (by omega)⟩
 ·simp [Value.cells] at hcs
  obtain ⟨rfl,rfl,rfl⟩:=hcs
  have hm':m=cap:=by simpa using hm
  rw [cells_stp] at hel
  by_cases h0:0<len
  ·obtain ⟨b,o,spot⟩:=x
   have hspot:spot=none:=by
    obtain ⟨cs',h1,_⟩:=hel 0 (by omega)
    obtain ⟨_,h2,h3⟩:=World.cells?_some h1
    have h4:=h3 0 (by omega)
    rw [List.getElem?_eq_getElem (by omega)] at h4
    simpa [Addr.add] using World.cell?_spot h4
   subst hspot
   haveI:Inhabited Stp:=⟨stp0⟩
   obtain ⟨f,hf⟩:=Go.Deep.choose_lt (α:=Stp) (n:=len) (p:=fun i t=>(∀j u,t.row[j]?=some u→W.cell? ⟨b,o+i * 6+j,none⟩=some u)∧t.Good W)
    (fun i hi=>by
     obtain ⟨cs',h1,h2⟩:=hel i (by omega)
     obtain ⟨s,hs,hg⟩:=open_stp h2
     obtain ⟨_,h3,h4⟩:=World.cells?_some h1
     refine ⟨s,fun j u hu=>?_,hg⟩
     rw [←hs] at hu
     have hj:j<6:=by have:=(List.getElem?_eq_some_iff.1 hu).1;omega
     have h5:=h4 j hj
     rw [add_at,add_at] at h5
     rw [h5]
     exact hu)
   exact ⟨_,len,cap,b,o,f,rfl,fun _=>rfl,hf⟩
  ·exact ⟨some x,len,cap,0,0,fun _=>stp0,rfl,fun h=>absurd h h0,fun i hi=>absurd hi (by omega)⟩
section
variable {a:Act} {w:World} {dst:Option Tmp} {typ:TypeId} {pos:String} {aft:Array Edge} {gd:Option (Nat×Bool)}
theorem exec_ixS {x ix:Operand} {b o n cap:Nat} (i:Nat) {ii:Int} (hx:a.eval x=.slice (some ⟨b,o,none⟩) n cap) (hix:a.eval ix=.int .i64 ii) (hii:ii=(i:Int)) (hi:i<n) :
  (execOp a.eval {dst:=dst,op:=.indexAddr 47 x ix,type:=typ,pos:=pos,after:=aft,guard:=gd}).run Tryz.prog w=.ok (.value (.pointer (some ⟨b,o+i * 6,none⟩))) w:=by
 subst hii
 have h0:(0:Int)≤(i:Int)∧(i:Int)<(n:Int):=by omega
 unfold execOp
 simp [hx,hix,Instr.indexAt,asIntOf,run_underlying un_stps,h0,add_at]
 intro h
 omega
theorem exec_ld6 {x:Operand} {b:Nat} (off:Nat) (cs:List Value) (hx:a.eval x=.pointer (some ⟨b,off,none⟩)) (hc:∀j v,cs[j]?=some v→w.cell? ⟨b,off+j,none⟩=some v) (hn:cs.length=6) :
  (execOp a.eval {dst:=dst,op:=.load 51 x,type:=typ,pos:=pos,after:=aft,guard:=gd}).run Tryz.prog w=.ok (.value (.agg cs.toArray)) w:=by
 obtain ⟨fs,hu,_⟩:=un_stp
 unfold execOp
 simp only [hx,Instr.loadAt,Instr.sureAddr,Sem.run_bind,Sem.run_pure,Result.andThen_ok,run_loadVar_at w b off 6 51 cs (.struct fs) hc hu rfl sz_stp hn]
end
open Go Go.RowKit Go.Maps
section
variable {a:Act} {w:World} {dst:Option Tmp} {typ:TypeId} {pos:String} {aft:Array Edge} {gd:Option (Nat×Bool)}
theorem exec_ixM {x ix:Operand} {b o n cap:Nat} (i:Nat) {ii:Int} (hx:a.eval x=.slice (some ⟨b,o,none⟩) n cap) (hix:a.eval ix=.int .i64 ii) (hii:ii=(i:Int)) (hi:i<n) :
  (execOp a.eval {dst:=dst,op:=.indexAddr 65 x ix,type:=typ,pos:=pos,after:=aft,guard:=gd}).run Tryz.prog w=.ok (.value (.pointer (some ⟨b,o+i * 5,none⟩))) w:=by
 subst hii
 have h0:(0:Int)≤(i:Int)∧(i:Int)<(n:Int):=by omega
 unfold execOp
 simp [hx,hix,Instr.indexAt,asIntOf,run_underlying un_pages,h0,add_at]
 intro h
 omega
theorem exec_ixM0 {x ix:Operand} {b n cap:Nat} (hx:a.eval x=.slice (some ⟨b,0,none⟩) n cap) (hix:a.eval ix=.int .i64 0) (hi:0<n) :
  (execOp a.eval {dst:=dst,op:=.indexAddr 65 x ix,type:=typ,pos:=pos,after:=aft,guard:=gd}).run Tryz.prog w=.ok (.value (.pointer (some ⟨b,0,none⟩))) w:=by
 have h:=exec_ixM (w:=w) (dst:=dst) (typ:=typ) (pos:=pos) (aft:=aft) (gd:=gd) 0 hx hix rfl hi
 rw [Nat.zero_mul] at h
 exact h
end
theorem zPg_0:(zPg 8)[0]?=some (.bool false):=by kernel_rfl
theorem zPg_3:(zPg 8)[3]?=some (.bool false):=by kernel_rfl
theorem zPg_len:(zPg 8).length=40:=by kernel_rfl
theorem sz_pg:(Tryz.prog.info? 118).map (·.size)=some 5:=by kernel_rfl
def pgNew:List Value:=[.bool true,.bool true,.bool false,.bool false,.string {data:=#[]}]
theorem built_pg:Tryz.prog.built 118 [(0,.bool true),(1,.bool true)]=some pgNew.toArray:=by kernel_rfl
theorem PgS.upd1 {w0 w w':World} {gp g mb:Nat} {kv:Value} {kP:List Int} {pg k:Nat} {U:Nat→Option (Option (List Int))} {L:Nat→Option (List Int)} {root:Int} {mt:ByteArray} {q:Nat} (h:PgS w0 w gp g mb kv kP pg k U L root mt) (u:UpdS [q] w w') (hq:w0.heap.size≤q) (hn:¬Mine w q):PgS w0 w' gp g mb kv kP pg k U L root mt:=by
 obtain ⟨ml,mu,P,d,h⟩:=h
 have hge:∀x∈[q],w0.heap.size≤x:=fun x hx=>by
  simp only [List.mem_cons,List.not_mem_nil,or_false] at hx
  rw [hx];exact hq
 have hg2:∀x∈[q],2≤x:=fun x hx=>Nat.le_trans h.e.w2 (hge x hx)
 exact ⟨ml,mu,P,d,h.at_.keep (fun x hx=>u.block x (h.at_.lt x hx) (fun hh=>by
  simp only [List.mem_cons,List.not_mem_nil,or_false] at hh
  rw [hh] at hx
  exact hn (h.at_.mine _ hx))),h.off,h.on,h.n,h.key,h.rt,h.mte,h.rtb,h.mtb,h.gn,h.lim,h.u,h.l,⟨h.e.t.updS u hg2,QTab.updS h.e.q u hg2,h.e.ge,h.e.w2,below_past h.e.bl u hge⟩⟩
theorem page_not {w:World} {q:Nat} {l:List Value} (hr:Row w q l 118):¬Mine w q:=by
 rintro (⟨es,c,h⟩ | ⟨l',h⟩ | ⟨l',h⟩ | ⟨l',h⟩)
 ·exact row_ne_map hr h rfl
 all_goals
  unfold Row at h hr
  rw [hr] at h
  simp only [Option.some.injEq,Obj.cells.injEq] at h
  exact absurd h.2.1 (by decide)
theorem used_s {w0:World} {gp g mb:Nat} {kv:Value} {kP:List Int} {pg k:Nat} {U:Nat→Option (Option (List Int))} {L:Nat→Option (List Int)} {root:Int} {mt:ByteArray} (h1:∀j,(U j).isSome=decide (j=0)) (w:World) (h:PgS w0 w gp g mb kv kP pg k U L root mt) :
  Calls Tryz.prog 20 #[.pointer (some ⟨gp,0,none⟩)] w fun e w'=>∃gi c,e=.returned (.slice (some ⟨gi,0,none⟩) 1 c)∧w'.cell? ⟨gi,0,none⟩=some (.int .u32 0)∧PgS w0 w' gp g mb kv kP pg k U L root mt∧Below w.heap.size w w':=by
 have h9:=h
 obtain ⟨ml,mu,P,d,h⟩:=h
 refine (used_one gp g mb kv ml mu P d (fun j=>by rw [(h.u j).some];exact h1 j) w h.at_).mono ?_
 rintro e w' ⟨v,he,ho,hb⟩
 obtain ⟨gi,c,rfl⟩:=own_cell ho (by omega)
 exact ⟨gi,c,he,own_at ho (by omega) (idsL_get (by omega)),h9.below hb,hb⟩
set_option maxHeartbeats 1000000 in
theorem malloc_one (gm q1 q2:Nat) (w:World) (hr:Row w gm (modC q1 q2 8) 67) (hp:Row w q1 (zPg 8) 118) :
  Calls Tryz.prog 17 #[.pointer (some ⟨gm,0,none⟩)] w fun e w'=>e=.returned (.tuple #[.int .i64 0,.int .i64 0])∧UpdS [q1] w w':=by
 have hc0:w.cell? ⟨gm,0,none⟩=some (.slice (some ⟨q1,0,none⟩) 8 8):=(hr.cell 0).trans rfl
 have hz0:w.cell? ⟨q1,0,none⟩=some (.bool false):=(hp.cell 0).trans zPg_0
 have hz3:w.cell? ⟨q1,3,none⟩=some (.bool false):=(hp.cell 3).trans zPg_3
 have HP:Hid (Row w q1 (zPg 8) 118):=hp
 clear hr hp
 go_enter Tryz.func17,Tryz.ntmps17
 go_wp2_with fail
 go_loopw [4] (fun vi wr=>vi=.int .i64 0∧wr=w) (fun _ _=>0)
 case atStart=>exact ⟨rfl,rfl⟩
 case round =>
  obtain ⟨rfl,rfl⟩:=hrel
  go_wp2_with (first
   | ((with_reducible refine at_op (some 19) (.indexAddr 65 (.tmp 17) (.tmp 18)) ?_);go_must (refine wpl_execG (.pointer (some ⟨q1,0,none⟩)) rfl (exec_ixM0 rfl rfl (by omega)) ?_))
   | ((with_reducible refine at_opG (some 29) (.indexAddr 65 (.tmp 27) (.tmp 28)) (some (9,true)) ?_);go_must (refine wpl_execG (.pointer (some ⟨q1,0,none⟩)) rfl (exec_ixM0 rfl rfl (by omega)) ?_))
   | ((with_reducible refine at_op (some 39) (.build 118 #[(0,.const (.bool true)),(1,.const (.bool true))]) ?_);go_must (refine wpl_build pgNew _ rfl built_pg ?_))
   | ((with_reducible refine at_op (some 40) (.indexAddr 65 (.tmp 37) (.tmp 38)) ?_);go_must (refine wpl_execG (.pointer (some ⟨q1,0,none⟩)) rfl (exec_ixM0 rfl rfl (by omega)) ?_))
   | ((with_reducible refine at_op none (.store 118 (.tmp 40) (.tmp 39)) ?_);go_must (refine wpl_sts 0 0 pgNew (pgNew++(zPg 8).drop 5) (Mem.enter HP.out) rfl rfl rfl 5 sz_pg rfl (by rw [zPg_len];omega) (by simp [pgNew,Value.oneCell']) (by kernel_rfl) ?_);intro w2 hq;have HU:Hid (Upd q1 _ w2):=hq.toUpd;clear hq))
  go_ret2
  exact ⟨rfl,UpdS.of_upd HU.out (by simp)⟩
end Go.Proofs.YtdkkdkgdaambiaaGreatDoor
