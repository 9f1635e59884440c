import Derived.Test.YtdkkdkgdaambiaaGreatDoorQb39
set_option maxRecDepth 100000
set_option maxHeartbeats 4000000
namespace Go.Proofs.YtdkkdkgdaambiaaGreatDoor
open Go Go.RowKit Go.Maps
def kNine:List Int:=[0,0,0,9,0,0,0,0,0,0,0,0,0,0,0,0,0,0,0,0,0,0,0,0,0,0,0,0,0,0,0,0]
theorem iu:Bytes kNine:=by unfold Bytes kNine;decide
theorem jA:Tryz.prog.built 61 [(3,.int .u8 9)]=some (u8s kNine).toArray:=by kernel_rfl
theorem un_pages:Tryz.prog.underlying 65=some (.slice 118):=Tryz.underlying65
theorem info_page:(Tryz.prog.info? 118).map (fun i=>(i.size,i.bytes))=some (5,24):=by kernel_rfl
theorem has_page:∃z,(Tryz.prog.info? 118).map (fun i=>i.zero)=some (some z):=⟨.agg #[.bool false,.bool false,.bool false,.bool false,.string {data:=#[]}],by kernel_rfl⟩
theorem fB {ops:Array Oper} {rest:List Oper} {a:Act} {w w0:World} {Q:Exit→Act→World→Prop} {dst:Option Tmp} {typ:TypeId} {pos:String} {aft:Array Edge} {S:List Nat} {rows:List (Nat×List Value×TypeId)} {x y:Operand} (n:Nat) {i j:Int} (hx:a.eval x=.int .i64 i) (hxi:i=(n:Int)) (hy:a.eval y=.int .i64 j) (hyj:j=(n:Int)) (hn:n≤4000) (hm:Mem w0 S w rows)
  (h:∀w' kb,Mem w0 S w' rows→wpList Tryz.prog ops Q rest (a.put dst (.slice (some ⟨kb,0,none⟩) n n)) w') :
  wpList Tryz.prog ops Q ({dst:=dst,op:=.makeSlice 65 x y,type:=typ,pos:=pos,after:=aft,guard:=none}::rest) a w:=by
 subst hxi hyj
 refine wpList_plain rfl fun K hK=>?_
 have hi:=info_page
 obtain ⟨z,hz⟩:=has_page
 cases hq:Tryz.prog.info? 118 with
 | none=>simp [hq] at hi
 | some q =>
  simp only [hq,Option.map_some,Option.some.injEq,Prod.mk.injEq] at hi hz
  have hr:=run_makeSlice (P:=Tryz.prog) w 65 118 q z un_pages hq hz .i64 .i64 (n:Int) (n:Int) (by omega) (by omega) (by rw [hi.1];simp;omega) (by rw [hi.2];simp;omega) (by omega)
  have hb:Below w.heap.size w (w.alloc (.cells (madeCells z.cells ((n:Int).toNat * q.size)) 118)):=(Below.refl _ _).alloc (Nat.le_refl _) _
  have hh:=hK _ _ (h _ w.heap.size (hm.call hb))
  rw [Int.toNat_natCast] at hr hh
  unfold Oper.wp execOp
  simp only [hx,hy,hr,Sem.run_bind,Sem.run_pure,Result.andThen_ok]
  exact hh
def modC (p q:Nat) (n:Nat):List Value:=[.slice (some ⟨p,0,none⟩) n n,.slice (some ⟨q,0,none⟩) n n,.int .u32 0,.int .u32 0,.string {data:=#[]},.string {data:=#[]}]
theorem built_mod (p q n:Nat):Tryz.prog.built 67 [(0,.slice (some ⟨p,0,none⟩) n n),(1,.slice (some ⟨q,0,none⟩) n n)]=some (modC p q n).toArray:=by rfl
theorem begun_ok (n:Nat) (h4:4≤n) (hn:n≤400) (w:World) (ht:Tab w) (hq:QTab w) (hw2:2≤w.heap.size) :
  Calls Tryz.prog 7 #[.int .i64 (n:Int)] w fun e w'=>∃gp g mb kv ml mu d' gm q1 q2,e=.returned (.tuple #[.pointer (some ⟨g,0,none⟩),.pointer (some ⟨gp,0,none⟩),.pointer (some ⟨gm,0,none⟩),.bool true])∧PgAt w' gp g mb kv ml mu (⟨deriveOf kNine labPage 0,deriveOf kNine labSuper 0,deriveOf kNine labSuper 1,⟨3,3,4⟩,0,{data:=#[]},fun _=>none,fun _=>none,false⟩:Pg) d'∧On d' 132∧d'.n=32+8 * n∧LimOk d' 4∧Row w' gm (modC q1 q2 n) 67∧(∀q∈gm::footP gp g mb kv ml mu,w.heap.size≤q)∧Below w.heap.size w w':=by
 have HT:Hid (Tab w):=ht
 have HQ:Hid (QTab w):=hq
 have HCL:Hid (clampK (32+8 * (n:Int))=32+8 * n):=by
  show _=_
  unfold clampK
  rw [if_neg (by omega)]
  first|omega|(rw [if_neg (by omega)];omega)
 obtain ⟨kP,hkP⟩:∃x,x=deriveOf kNine labPage 0:=⟨_,rfl⟩
 obtain ⟨kS,hkS⟩:∃x,x=deriveOf kNine labSuper 0:=⟨_,rfl⟩
 obtain ⟨kN,hkN⟩:∃x,x=deriveOf kNine labSuper 1:=⟨_,rfl⟩
 have HFM:Hid (∀g mb kv W,2≤W.heap.size→Tab W→QTab W→(∀q∈foot g mb kv,2≤q)→DkAt W g mb kv (Dk.new (32+8 * n))→Calls Tryz.prog 25 #[.pointer (some ⟨g,0,none⟩),.agg (u8s kNine).toArray] W fun e w'=>∃gp ml mu d',e=.returned (.tuple #[.pointer (some ⟨gp,0,none⟩),.int .i64 0])∧PgAt w' gp g mb kv ml mu (⟨kP,kS,kN,⟨3,3,4⟩,0,{data:=#[]},fun _=>none,fun _=>none,false⟩:Pg) d'∧On d' 132∧d'.n=32+8 * n∧LimOk d' 4∧W.heap.size≤gp∧W.heap.size≤ml∧W.heap.size≤mu∧UpdS (foot g mb kv) W w'):=fun g mb kv W h0 h1 h2 h3 h5=>by
  refine (format_ok g mb kv (Dk.new (32+8 * n)) n 0 kNine kP kS kN _ (zero_area _) zero_lim0 zero_lim1 hkP.symm hkS.symm hkN.symm rfl h4 hn rfl iu (On.new _) (by omega) W h0 h3 h1 h2 h5).mono ?_
  rintro e w' ⟨gp,ml,mu,d',a,he,hp,hon,hn',ha,s2,s4,_,_,h6,h7,h8,hu⟩
  refine ⟨gp,ml,mu,d',he,hp,hon,hn',fun j hj=>?_,h6,h7,h8,hu⟩
  have h9:j=a∨j=1 - a:=by omega
  rcases h9 with rfl|rfl
  ·rw [s2.lim];decide
  ·rw [s4.lim];decide
 rw [←hkP,←hkS,←hkN]
 clear ht hq hkP hkS hkN
 have hm:=Mem.start w
 go_enter Tryz.func7,Tryz.ntmps7
 go_wp2_with (first
  | (go_at_call 24;refine (mS (32+8 * (n:Int)) _).mono ?_;rintro e w1 ⟨g,rfl,mb,kv,hd,hf,hb⟩;rw [HCL.out] at hd;have HD:Hid (DkAt w1 g mb kv (Dk.new (32+8 * n))):=hd;have HF:Hid (∀q∈foot g mb kv,w.heap.size≤q):=hf;have HB1:Hid (Below w.heap.size w w1):=hb;clear hd hf hb hm)
  | ((with_reducible refine aa (some 16) (.build 61 #[(3,.const (.int .u8 9))]) ?_);go_must (refine aS (u8s kNine) _ rfl jA ?_))
  | (go_at_call 25;go_loud (refine (HFM.out g mb kv _ (Nat.le_trans hw2 HB1.out.size) (Tab.updS (L:=[]) HT.out (UpdS.of_below HB1.out) (by simp)) (QTab.updS (L:=[]) HQ.out (UpdS.of_below HB1.out) (by simp)) (fun q hq=>Nat.le_trans hw2 (HF.out q hq)) HD.out).mono ?_;rintro e w2 ⟨gp,ml,mu,d',he,hp,hon,hdn,hlo,hgp,hml,hmu,hu⟩;subst he;have HP:Hid (PgAt w2 gp g mb kv ml mu (⟨kP,kS,kN,⟨3,3,4⟩,0,{data:=#[]},fun _=>none,fun _=>none,false⟩:Pg) d'):=hp;have HON:Hid (On d' 132):=hon;have HN:Hid (d'.n=32+8 * n):=hdn;have HLO:Hid (LimOk d' 4):=hlo;have HGE:Hid (w.heap.size≤gp∧w.heap.size≤ml∧w.heap.size≤mu):=⟨Nat.le_trans HB1.out.size hgp,Nat.le_trans HB1.out.size hml,Nat.le_trans HB1.out.size hmu⟩;have HB2:Hid (Below w.heap.size w w2):=b7 HB1.out hu HF.out;clear hp hon hdn hlo hgp hml hmu hu)))
 have hm:=Mem.start w2
 refine ar ?_
 refine am (T:=fun W=>Mem w2 [] W []) (by kernel_rfl) hm ?_
 clear hm
 intro w3 hm
 refine aT 0 (v:=.int .i64 (n:Int)) rfl (by kernel_rfl) rfl (fun W _=>by go_simp) hm ?_
 go_simp
 refine aT 2 (v:=.int .i64 (n:Int)) rfl (by kernel_rfl) rfl (fun W _=>by go_simp) hm ?_
 go_simp
 refine wpAnyH_all (rs:=[1,3]) (by kernel_rfl) (by simp) ?_
 intro i hi
 simp only [List.mem_cons,List.not_mem_nil,or_false] at hi
 rcases hi with rfl|rfl
 ·refine aM 1 rfl rfl ?_
  intro K hK
  refine fB n rfl rfl rfl rfl (by omega) hm ?_
  clear hm
  intro wm1 q1 hm
  refine wpList_nil ?_
  refine hK _ _ hm ?_
  clear hK K
  refine aO 3 (by kernel_rfl) rfl rfl ?_
  intro K hK
  refine fB n rfl rfl rfl rfl (by omega) hm ?_
  clear hm
  intro wm3 q2 hm
  refine wpList_nil ?_
  refine hK _ _ hm ?_
  clear hK K
  go_simp
  refine aT 4 (v:=.agg (modC q1 q2 n).toArray) rfl (by kernel_rfl) rfl (fun W _=>d9 _ _ (by first|rfl|simp [Act.eval]) (built_mod _ _ _)) hm ?_
  go_simp
  refine aO 5 (by kernel_rfl) rfl rfl ?_
  intro K hK
  refine ak (modC q1 q2 n) rfl hm ?_
  clear hm
  intro wb gm hm
  refine wpList_nil ?_
  refine hK _ _ hm.tail ?_
  clear hK K
  refine aT 6 (v:=.pointer (some ⟨gm,0,none⟩)) rfl (by kernel_rfl) rfl (fun W _=>by go_simp) hm.tail ?_
  go_simp
  refine wpAnyH_done (by kernel_rfl) ?_ _
  simp only [endsIn]
  go_wp2_with fail
  have hpz:=PgAt.mem HP.out hm
  have hge:=HGE.out
  refine bodyPost_ret (eY rfl _ _ _) rfl ?_
  refine ⟨gp,g,mb,kv,ml,mu,d',gm,q1,q2,rfl,hpz,HON.out,HN.out,HLO.out,hm.get 0 rfl,fun q hq=>?_,HB2.out.trans (hm.below.mono HB2.out.size)⟩
  simp only [List.mem_cons,footP] at hq
  have h9:=hm.fresh _ (List.mem_cons_self ..)
  simp only [List.not_mem_nil,false_or] at h9
  rcases hq with rfl|rfl|rfl|rfl|hq
  ·exact Nat.le_trans HB2.out.size h9
  ·exact hge.1
  ·exact hge.2.1
  ·exact hge.2.2
  ·exact HF.out q hq
 ·refine aM 3 rfl rfl ?_
  intro K hK
  refine fB n rfl rfl rfl rfl (by omega) hm ?_
  clear hm
  intro wm3 q2 hm
  refine wpList_nil ?_
  refine hK _ _ hm ?_
  clear hK K
  refine aO 1 (by kernel_rfl) rfl rfl ?_
  intro K hK
  refine fB n rfl rfl rfl rfl (by omega) hm ?_
  clear hm
  intro wm1 q1 hm
  refine wpList_nil ?_
  refine hK _ _ hm ?_
  clear hK K
  go_simp
  refine aT 4 (v:=.agg (modC q1 q2 n).toArray) rfl (by kernel_rfl) rfl (fun W _=>d9 _ _ (by first|rfl|simp [Act.eval]) (built_mod _ _ _)) hm ?_
  go_simp
  refine aO 5 (by kernel_rfl) rfl rfl ?_
  intro K hK
  refine ak (modC q1 q2 n) rfl hm ?_
  clear hm
  intro wb gm hm
  refine wpList_nil ?_
  refine hK _ _ hm.tail ?_
  clear hK K
  refine aT 6 (v:=.pointer (some ⟨gm,0,none⟩)) rfl (by kernel_rfl) rfl (fun W _=>by go_simp) hm.tail ?_
  go_simp
  refine wpAnyH_done (by kernel_rfl) ?_ _
  simp only [endsIn]
  go_wp2_with fail
  have hpz:=PgAt.mem HP.out hm
  have hge:=HGE.out
  refine bodyPost_ret (eY rfl _ _ _) rfl ?_
  refine ⟨gp,g,mb,kv,ml,mu,d',gm,q1,q2,rfl,hpz,HON.out,HN.out,HLO.out,hm.get 0 rfl,fun q hq=>?_,HB2.out.trans (hm.below.mono HB2.out.size)⟩
  simp only [List.mem_cons,footP] at hq
  have h9:=hm.fresh _ (List.mem_cons_self ..)
  simp only [List.not_mem_nil,false_or] at h9
  rcases hq with rfl|rfl|rfl|rfl|hq
  ·exact Nat.le_trans HB2.out.size h9
  ·exact hge.1
  ·exact hge.2.1
  ·exact hge.2.2
  ·exact HF.out q hq
end Go.Proofs.YtdkkdkgdaambiaaGreatDoor
