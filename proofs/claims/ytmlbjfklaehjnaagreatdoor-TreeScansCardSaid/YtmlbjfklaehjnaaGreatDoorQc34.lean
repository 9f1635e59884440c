import Derived.Test.YtmlbjfklaehjnaaGreatDoorQc33
set_option maxRecDepth 100000
set_option maxHeartbeats 4000000
namespace Go.Proofs.YtmlbjfklaehjnaaGreatDoor
open Go Go.RowKit Go.Maps
theorem built_kid (g:Nat):Tryz.prog.built 137 [(1,.pointer (some ⟨g,0,none⟩))]=some (List.toArray [.int .u32 0,.pointer (some ⟨g,0,none⟩)]):=by rfl
theorem built_row (g:Nat):Tryz.prog.built 84 [(2,.slice (some ⟨g,0,none⟩) 1 1)]=some (List.toArray [.slice none 0 0,.slice none 0 0,.slice (some ⟨g,0,none⟩) 1 1]):=by rfl
theorem exec_ixK0 {a:Act} {w:World} {dst:Option Tmp} {typ:TypeId} {pos:String} {aft:Array Edge} {gd:Option (Nat×Bool)} {x ix:Operand} {b n cap:Nat} (hx:a.eval x=.slice (some ⟨b,0,none⟩) n cap) (hix:a.eval ix=.int .i64 0) (hi:0<n) :
  (execOp a.eval {dst:=dst,op:=.indexAddr 82 x ix,type:=typ,pos:=pos,after:=aft,guard:=gd}).run Tryz.prog w=.ok (.value (.pointer (some ⟨b,0,none⟩))) w:=by
 unfold execOp
 simp [hx,hix,Instr.indexAt,asIntOf,run_underlying un_kidl,aZ]
 omega
theorem wpl_bslKid {ops:Array Oper} {rest:List Oper} {a:Act} {w w0:World} {Q:Exit→Act→World→Prop} {dst:Option Tmp} {typ:TypeId} {pos:String} {aft:Array Edge} {S:List Nat} {rows:List (Nat×List Value×TypeId)} {x:Operand} (u v:Value) (hx:a.eval x=.agg (List.toArray [u,v])) (hm:Mem w0 S w rows)
  (h:∀w' g,Mem w0 S w' ((g,[u,v],137)::rows)→wpList Tryz.prog ops Q rest (a.put dst (.slice (some ⟨g,0,none⟩) 1 1)) w') :
  wpList Tryz.prog ops Q ({dst:=dst,op:=.buildSlice 82 1 #[(0,x)],type:=typ,pos:=pos,after:=aft,guard:=none}::rest) a w:=by
 refine wpList_plain rfl fun K hK=>?_
 have hh:=hK _ _ (h _ _ (hm.alloc [u,v] 137))
 unfold Oper.wp execOp
 simp only [List.map_toArray,List.map_cons,List.map_nil,hx,run_bslK (P:=Tryz.prog) w _ [u,v] un_kidl lJ rfl rfl,Sem.run_bind,Sem.run_pure,Result.andThen_ok]
 exact hh
theorem isLeaf_gen (u v:Value) (p:Option Addr) (c:Nat) (w:World):Calls Tryz.prog 56 #[.agg (List.toArray [u,v,.slice p 0 c])] w fun e w'=>e=.returned (.bool true)∧Below w.heap.size w w':=by
 have hm:=Mem.start w
 go_enter Tryz.func56,Tryz.ntmps56
 go_wp2_with (first
  | ((with_reducible refine aa (some 1) (.box 84 (.tmp 0)) ?_);refine ak [u,v,.slice p 0 c] rfl hm ?_;clear hm;intro w1 g hm)
  | ((with_reducible refine aa (some 4) (.load 82 (.tmp 3)) ?_);refine ai 0 2 (.slice p 0 c) hm rfl rfl dO rfl ?_))
 go_ret
 exact ⟨rfl,hm.below⟩
theorem isLone_row (g:Nat) (w:World):Calls Tryz.prog 106 #[.agg (List.toArray [.slice none 0 0,.slice none 0 0,.slice (some ⟨g,0,none⟩) 1 1])] w fun e w'=>e=.returned (.bool true)∧Below w.heap.size w w':=by
 have hm:=Mem.start w
 go_enter Tryz.func106,Tryz.ntmps106
 go_wp2_with (first
  | ((with_reducible refine aa (some 1) (.box 84 (.tmp 0)) ?_);refine ak [.slice none 0 0,.slice none 0 0,.slice (some ⟨g,0,none⟩) 1 1] rfl hm ?_;clear hm;intro w1 g1 hm)
  | ((with_reducible refine aa (some 4) (.load 82 (.tmp 3)) ?_);refine ai 0 2 (.slice (some ⟨g,0,none⟩) 1 1) hm rfl rfl dO rfl ?_))
 go_ret
 exact ⟨rfl,hm.below⟩
theorem lG (l:List Pr) (p pk:Option Addr) (n c ck:Nat) (v:Value) (hn:l.length=n) (hnl:n≤1000) (hok:okPairs l n=true) (hsz:szP l≤480) (w:World) (hv:SlP w (.slice p n c) l) :
  Calls Tryz.prog 128 #[.agg (List.toArray [.slice p n c,v,.slice pk 0 ck])] w fun e w'=>∃g,e=.returned (.tuple #[.slice (some ⟨g,0,none⟩) (szP l) (szP l),.int .i64 0])∧w.heap.size≤g∧Row w' g (u8s (leafB l)) 5∧Below w.heap.size w w':=by
 have hm:=Mem.start w
 have HV:Hid (SlP w (.slice p n c) l):=hv
 have HOK:Hid (okPairs l n=true):=hok
 have HN:Hid (l.length=n):=hn
 clear hv hok hn
 go_enter Tryz.func128,Tryz.ntmps128
 go_wp2_with (first
  | ((with_reducible refine aa (some 1) (.box 84 (.tmp 0)) ?_);refine ak [.slice p n c,v,.slice pk 0 ck] rfl hm ?_;clear hm;intro w1 g1 hm)
  | ((with_reducible refine aa (some 7) (.load 84 (.tmp 1)) ?_);obtain ⟨fs,hfs⟩:=aS;go_must (refine am 0 hm rfl rfl _ hfs rfl 3 aA rfl ?_);clear hfs fs)
  | (go_at_call 56;refine (isLeaf_gen _ _ _ _ _).mono ?_;rintro e w2 ⟨rfl,hb⟩;replace hm:=hm.call hb;clear hb)
  | ((with_reducible refine aa (some 10) (.load 28 (.tmp 9)) ?_);refine ai 0 0 (.slice p n c) hm rfl rfl bZ rfl ?_)
  | (go_at_call 29;refine (kp l n _ HN.out hnl HOK.out hsz _ (SlV.below HV.out hm.below)).mono ?_;rintro e w3 ⟨gb,rfl,hgb,hrb,hb⟩;have HRB:Hid (Row w3 gb (u8s (leafB l)) 5∧w.heap.size≤gb):=⟨hrb,Nat.le_trans hm.size hgb⟩;replace hm:=hm.call hb;clear hb hrb hgb))
 go_ret2
 exact ⟨gb,rfl,HRB.out.2,HRB.out.1,hm.below⟩
theorem row_leaf (l:List Pr) (p:Option Addr) (n c:Nat) (hn:l.length=n) (hnl:n≤1000) (hsz:∀q∈l,q.1.size≤1152921504606846976∧q.2.size≤1152921504606846976) (h480:szP l≤480) (w:World) (hv:SlP w (.slice p n c) l) :
  Calls Tryz.prog 58 #[.agg (List.toArray [.slice p n c,.slice none 0 0,.slice none 0 0])] w fun e w'=>∃gk g1,e=.returned (.agg (List.toArray [.slice none 0 0,.slice none 0 0,.slice (some ⟨gk,0,none⟩) 1 1]))∧w.heap.size≤gk∧w.heap.size≤g1∧Row w' gk [.int .u32 0,.pointer (some ⟨g1,0,none⟩)] 137∧Row w' g1 [.slice p n c,.slice none 0 0,.slice none 0 0] 84∧Below w.heap.size w w':=by
 have hm:=Mem.start w
 have HV:Hid (SlP w (.slice p n c) l):=hv
 have HSZ:Hid (∀q∈l,q.1.size≤1152921504606846976∧q.2.size≤1152921504606846976):=hsz
 have HN:Hid (l.length=n):=hn
 clear hv hsz hn
 go_enter Tryz.func58,Tryz.ntmps58
 go_wp2_with (first
  | ((with_reducible refine aa (some 1) (.box 84 (.tmp 0)) ?_);refine ak [.slice p n c,.slice none 0 0,.slice none 0 0] rfl hm ?_;clear hm;intro w1 g1 hm)
  | ((with_reducible refine aa (some 2) (.alloc 84) ?_);go_must (refine af _ be hm ?_);clear hm;intro w2 g2 hm)
  | ((with_reducible refine aa (some 6) (.load 84 (.tmp 1)) ?_);obtain ⟨fs,hfs⟩:=aS;go_must (refine am 1 hm rfl rfl _ hfs rfl 3 aA rfl ?_);clear hfs fs)
  | (go_at_call 97;refine (fits_leaf l p n c HN.out hnl HSZ.out _ (SlV.below HV.out hm.below) h480).mono ?_;rintro e w3 ⟨rfl,hb⟩;replace hm:=hm.call hb;clear hb)
  | ((with_reducible refine aa (some 8) (.build 137 #[(1,.tmp 1)]) ?_);go_must (refine aB [.int .u32 0,.pointer (some ⟨g1,0,none⟩)] _ rfl (built_kid _) ?_))
  | ((with_reducible refine aa (some 9) (.buildSlice 82 1 #[(0,.tmp 8)]) ?_);go_must (refine wpl_bslKid _ _ rfl hm ?_);clear hm;intro w4 gk hm)
  | ((with_reducible refine aa (some 10) (.build 84 #[(2,.tmp 9)]) ?_);go_must (refine aB [.slice none 0 0,.slice none 0 0,.slice (some ⟨gk,0,none⟩) 1 1] _ rfl (built_row _) ?_))
  | ((with_reducible refine aa none (.store 84 (.tmp 2) (.tmp 10)) ?_);go_must (refine ag 1 [.slice none 0 0,.slice none 0 0,.slice (some ⟨gk,0,none⟩) 1 1] hm rfl rfl rfl 3 aA rfl rfl (by intro u hu;simp only [List.mem_cons,List.not_mem_nil,or_false] at hu;rcases hu with rfl|rfl|rfl<;>rfl) ?_);clear hm;intro w5 hm))
 obtain ⟨fs,hfs⟩:=aS
 have hk:=hm.fresh _ (List.mem_of_getElem? (i:=0) rfl)
 have h1:=hm.fresh _ (List.mem_of_getElem? (i:=2) rfl)
 simp only [List.not_mem_nil,false_or] at hk h1
 exact ay 1 hm rfl Tryz.results58 rfl _ hfs rfl 3 aA rfl rfl ⟨gk,g1,rfl,hk,h1,hm.get 0 rfl,hm.get 2 rfl,hm.below⟩
theorem rootOf_leaf (gk g1 n c:Nat) (p:Option Addr) (w:World) (hk:Row w gk [.int .u32 0,.pointer (some ⟨g1,0,none⟩)] 137) (h1:Row w g1 [.slice p n c,.slice none 0 0,.slice none 0 0] 84) :
  Calls Tryz.prog 60 #[.agg (List.toArray [.slice none 0 0,.slice none 0 0,.slice (some ⟨gk,0,none⟩) 1 1])] w fun e w'=>e=.returned (.agg (List.toArray [.int .u32 0,.pointer (some ⟨g1,0,none⟩)]))∧Below w.heap.size w w':=by
 have HK:Hid (Row w gk [.int .u32 0,.pointer (some ⟨g1,0,none⟩)] 137):=hk
 have H1:Hid (Row w g1 [.slice p n c,.slice none 0 0,.slice none 0 0] 84):=h1
 have hm:=Mem.start w
 clear hk h1
 go_enter Tryz.func60,Tryz.ntmps60
 go_wp2_with (first
  | ((with_reducible refine aa (some 1) (.box 84 (.tmp 0)) ?_);refine ak [.slice none 0 0,.slice none 0 0,.slice (some ⟨gk,0,none⟩) 1 1] rfl hm ?_;clear hm;intro w1 gr hm)
  | ((with_reducible refine aa (some 2) (.alloc 137) ?_);go_must (refine af _ zero_kid hm ?_);clear hm;intro w2 g2 hm)
  | ((with_reducible refine aa (some 4) (.build 137 #[(1,.tmp 1)]) ?_);go_must (refine aB [.int .u32 0,.pointer (some ⟨gr,0,none⟩)] _ rfl (built_kid _) ?_))
  | ((with_reducible refine aa (some 3) (.alloc 137) ?_);go_must (refine af _ zero_kid hm ?_);clear hm;intro w3 g3 hm)
  | ((with_reducible refine aa none (.store 137 (.tmp 3) (.tmp 4)) ?_);go_must (refine ag 0 [.int .u32 0,.pointer (some ⟨gr,0,none⟩)] hm rfl rfl rfl 2 fm rfl rfl (by intro u hu;simp only [List.mem_cons,List.not_mem_nil,or_false] at hu;rcases hu with rfl|rfl<;>rfl) ?_);clear hm;intro w4 hm))
 replace hm:Mem w [] w4 [(g3,[.int .u32 0,.pointer (some ⟨gr,0,none⟩)],137),(g2,[.int .u32 0,.pointer none],137),(gr,[.slice none 0 0,.slice none 0 0,.slice (some ⟨gk,0,none⟩) 1 1],84)]:=hm
 refine wp_loop_rounds 2 ?_
 rw [rounds_succ]
 go_wp2_with (first
  | ((with_reducible refine aa (some 6) (.load 135 (.tmp 5)) ?_);refine ai 0 1 (.pointer (some ⟨gr,0,none⟩)) hm rfl rfl b3 rfl ?_)
  | ((with_reducible refine aM (some 10) (.load 135 (.tmp 9)) (some (3,true)) ?_);go_must (refine ae (.pointer (some ⟨gr,0,none⟩)) rfl (aj (.pointer (some ⟨gr,0,none⟩)) (((hm.get 0 rfl).cell 1).trans rfl) rfl b3) ?_))
  | ((with_reducible refine aM (some 12) (.load 84 (.tmp 11)) (some (3,true)) ?_);obtain ⟨fs,hfs⟩:=aS;go_must (refine ae (.agg (List.toArray [.slice none 0 0,.slice none 0 0,.slice (some ⟨gk,0,none⟩) 1 1])) rfl (ao 0 [.slice none 0 0,.slice none 0 0,.slice (some ⟨gk,0,none⟩) 1 1] (hm.get 2 rfl) rfl _ hfs rfl 3 aA (Nat.le_refl 3) rfl) ?_);clear hfs fs)
  | (go_at_call 106;refine (isLone_row _ _).mono ?_;rintro e w5 ⟨rfl,hb⟩;replace hm:=hm.call hb;clear hb)
  | ((with_reducible refine aa (some 16) (.load 135 (.tmp 15)) ?_);refine ai 0 1 (.pointer (some ⟨gr,0,none⟩)) hm rfl rfl b3 rfl ?_)
  | ((with_reducible refine aa (some 19) (.load 82 (.tmp 18)) ?_);refine ai 2 2 (.slice (some ⟨gk,0,none⟩) 1 1) hm rfl rfl dO rfl ?_)
  | ((with_reducible refine aa (some 20) (.indexAddr 82 (.tmp 19) (.const (.int .i64 0))) ?_);go_must (refine ae (.pointer (some ⟨gk,0,none⟩)) rfl (exec_ixK0 rfl rfl (by omega)) ?_))
  | ((with_reducible refine aa (some 21) (.load 137 (.tmp 20)) ?_);obtain ⟨fs,hfs⟩:=jn;go_must (refine ae (.agg (List.toArray [.int .u32 0,.pointer (some ⟨g1,0,none⟩)])) rfl (ao 0 [.int .u32 0,.pointer (some ⟨g1,0,none⟩)] (Row.below' HK.out hm.below) rfl _ hfs rfl 2 fm (Nat.le_refl 2) rfl) ?_);clear hfs fs)
  | ((with_reducible refine aa none (.store 137 (.tmp 3) (.tmp 21)) ?_);go_must (refine ag 0 [.int .u32 0,.pointer (some ⟨g1,0,none⟩)] hm rfl rfl rfl 2 fm rfl rfl (by intro u hu;simp only [List.mem_cons,List.not_mem_nil,or_false] at hu;rcases hu with rfl|rfl<;>rfl) ?_);clear hm;intro w6 hm))
 replace hm:Mem w [] w6 [(g3,[.int .u32 0,.pointer (some ⟨g1,0,none⟩)],137),(g2,[.int .u32 0,.pointer none],137),(gr,[.slice none 0 0,.slice none 0 0,.slice (some ⟨gk,0,none⟩) 1 1],84)]:=hm
 (try simp only [Exit.inBlock,Exit.then])
 rw [rounds_succ]
 go_wp2_with (first
  | ((with_reducible refine aa (some 6) (.load 135 (.tmp 5)) ?_);refine ai 0 1 (.pointer (some ⟨g1,0,none⟩)) hm rfl rfl b3 rfl ?_)
  | ((with_reducible refine aM (some 10) (.load 135 (.tmp 9)) (some (3,true)) ?_);go_must (refine ae (.pointer (some ⟨g1,0,none⟩)) rfl (aj (.pointer (some ⟨g1,0,none⟩)) (((hm.get 0 rfl).cell 1).trans rfl) rfl b3) ?_))
  | ((with_reducible refine aM (some 12) (.load 84 (.tmp 11)) (some (3,true)) ?_);obtain ⟨fs,hfs⟩:=aS;go_must (refine ae (.agg (List.toArray [.slice p n c,.slice none 0 0,.slice none 0 0])) rfl (ao 0 [.slice p n c,.slice none 0 0,.slice none 0 0] (Row.below' H1.out hm.below) rfl _ hfs rfl 3 aA (Nat.le_refl 3) rfl) ?_);clear hfs fs)
  | (go_at_call 106;refine (isLone_leaf _ _ _ _).mono ?_;rintro e w7 ⟨rfl,hb⟩;replace hm:=hm.call hb;clear hb)
  | ((with_reducible refine aa (some 22) (.load 137 (.tmp 3)) ?_);obtain ⟨fs,hfs⟩:=jn;go_must (refine am 0 hm rfl rfl _ hfs rfl 2 fm rfl ?_);clear hfs fs)
  | ((with_reducible refine aa none (.store 137 (.tmp 2) (.tmp 22)) ?_);go_must (refine ag 1 [.int .u32 0,.pointer (some ⟨g1,0,none⟩)] hm rfl rfl rfl 2 fm rfl rfl (by intro u hu;simp only [List.mem_cons,List.not_mem_nil,or_false] at hu;rcases hu with rfl|rfl<;>rfl) ?_);clear hm;intro w8 hm))
 obtain ⟨fs,hfs⟩:=jn
 exact ay 1 hm rfl Tryz.results60 rfl _ hfs rfl 2 fm rfl rfl ⟨rfl,hm.below⟩
theorem kJ (g1 n c:Nat) (p:Option Addr) (w:World) (h1:Row w g1 [.slice p n c,.slice none 0 0,.slice none 0 0] 84) :
  Calls Tryz.prog 84 #[.agg (List.toArray [.int .u32 0,.pointer (some ⟨g1,0,none⟩)])] w fun e w'=>e=.returned (.int .i64 1)∧Below w.heap.size w w':=by
 have H1:Hid (Row w g1 [.slice p n c,.slice none 0 0,.slice none 0 0] 84):=h1
 have hm:=Mem.start w
 clear h1
 go_enter Tryz.func84,Tryz.ntmps84
 go_wp2_with (first
  | ((with_reducible refine aa (some 1) (.box 137 (.tmp 0)) ?_);refine ak [.int .u32 0,.pointer (some ⟨g1,0,none⟩)] rfl hm ?_;clear hm;intro w1 g2 hm)
  | ((with_reducible refine aa (some 7) (.load 135 (.tmp 6)) ?_);refine ai 0 1 (.pointer (some ⟨g1,0,none⟩)) hm rfl rfl b3 rfl ?_)
  | ((with_reducible refine aa (some 10) (.load 135 (.tmp 9)) ?_);refine ai 0 1 (.pointer (some ⟨g1,0,none⟩)) hm rfl rfl b3 rfl ?_)
  | ((with_reducible refine aa (some 13) (.load 82 (.tmp 12)) ?_);go_must (refine ae (.slice none 0 0) rfl (aj (.slice none 0 0) (((Row.below' H1.out hm.below).cell 2).trans rfl) rfl dO) ?_)))
 refine wp_loop_rounds 1 ?_
 rw [rounds_succ]
 go_wp2_with fail
 go_ret
 exact ⟨rfl,hm.below⟩
open Go Go.RowKit Go.Maps
theorem Fr.then {w w2 w3:World} (h:Fr w w2) (hb:Below w2.heap.size w2 w3):Fr w w3:=by
 intro q hq hn
 have h1:=h q hq hn
 have h2:q<w2.heap.size:=by
  have h3:w.heap[q]?=some w.heap[q]:=Array.getElem?_eq_getElem hq
  rw [h3] at h1
  exact (Array.getElem?_eq_some_iff.1 h1).1
 rw [hb.block q h2]
 exact h1
def NotPg (t:TypeId):Prop:=t≠113∧t≠133∧t≠250
theorem gL {w:World} {q:Nat} {l:List Value} {t:TypeId} (ht:NotPg t) (hr:Row w q l t):¬Mine w q:=by
 rintro (⟨es,c,h⟩|⟨l',h⟩|⟨l',h⟩|⟨l',h⟩)
 ·exact ax hr h rfl
 all_goals
  unfold Row at h hr
  rw [hr] at h
  simp only [Option.some.injEq,Obj.cells.injEq] at h
  have h2:=h.2.1
 ·exact ht.1 h2
 ·exact ht.2.1 h2
 ·exact ht.2.2 h2
theorem cT {w w':World} {q:Nat} {l:List Value} {t:TypeId} (ht:NotPg t) (hr:Row w q l t) (hf:Fr w w'):Row w' q l t:=by
 have h:=hf q hr.lt (gL ht hr)
 unfold Row at hr ⊢
 rw [h]
 exact hr
theorem PgS.updS {w0:World} {gp g mb:Nat} {kv:Value} {kP:List Int} {pg k:Nat} {U:Nat→Option (Option (List Int))} {L:Nat→Option (List Int)} {root:Int} {mt:ByteArray} {w w':World} {M:List Nat} (h:PgS w0 w gp g mb kv kP pg k U L root mt) (u:UpdS M w w') (hM:∀q∈M,w0.heap.size≤q∧¬Mine w q):PgS w0 w' gp g mb kv kP pg k U L root mt:=by
 obtain ⟨ml,mu,P,d,h⟩:=h
 have hge:∀x∈M,w0.heap.size≤x:=fun x hx=>(hM x hx).1
 have hg2:∀x∈M,2≤x:=fun x hx=>Nat.le_trans h.e.w2 (hge x hx)
 exact ⟨ml,mu,P,d,h.at_.keep (fun x hx=>u.block x (h.at_.lt x hx) (fun hh=>(hM x hh).2 (h.at_.mine _ hx))),h.off,h.on,h.n,h.key,h.rt,h.mte,h.rtb,h.mtb,h.gn,h.lim,h.u,h.l,⟨h.e.t.updS u hg2,QTab.updS h.e.q u hg2,h.e.ge,h.e.w2,dw h.e.bl u hge⟩⟩
theorem Mem.ownS {w:World} {g:Nat} {l:List Value} {t:TypeId} (hr:Row w g l t):Mem w [g] w [(g,l,t)] :=
 ⟨rfl,rfl,rfl,Nat.le_refl _,fun _ _ _=>rfl,fun r h=>by simp only [List.mem_cons,List.not_mem_nil,or_false] at h;subst h;exact hr,by simp,fun r h=>by simp only [List.mem_cons,List.not_mem_nil,or_false] at h;subst h;exact Or.inl (by simp)⟩
theorem wpl_mkK0 {ops:Array Oper} {rest:List Oper} {a:Act} {w w0:World} {Q:Exit→Act→World→Prop} {dst:Option Tmp} {typ:TypeId} {pos:String} {aft:Array Edge} {S:List Nat} {rows:List (Nat×List Value×TypeId)} {x y:Operand} (hx:a.eval x=.int .i64 0) (hy:a.eval y=.int .i64 0) (hm:Mem w0 S w rows)
  (h:∀w' g,Mem w0 S w' rows→wpList Tryz.prog ops Q rest (a.put dst (.slice (some ⟨g,0,none⟩) 0 0)) w') :
  wpList Tryz.prog ops Q ({dst:=dst,op:=.makeSlice 82 x y,type:=typ,pos:=pos,after:=aft,guard:=none}::rest) a w:=by
 refine wpList_plain rfl fun K hK=>?_
 have hi:=lJ
 cases hq:Tryz.prog.info? 137 with
 | none=>simp [hq] at hi
 | some q =>
  simp only [hq,Option.map_some,Option.some.injEq,Prod.mk.injEq] at hi
  have hr:=run_makeSlice (P:=Tryz.prog) w 82 137 q _ un_kidl hq hi.1 .i64 .i64 0 0 (by omega) (by omega) (by simp) (by simp) (by omega)
  have hh:=hK _ _ (h (w.alloc (.cells (madeCells (Value.agg (List.toArray [.int .u32 0,.pointer none])).cells ((0:Int).toNat * q.size)) 137)) w.heap.size (hm.allocO _))
  unfold Oper.wp execOp
  simp only [hx,hy,hr,Sem.run_bind,Sem.run_pure,Result.andThen_ok]
  exact hh
theorem ff {w w8 w9:World} {q:Nat} (h:w8.heap[q]?=w.heap[q]?) (hq:q<w.heap.size) (hn:¬Mine w q) (hf:Fr w8 w9):w9.heap[q]?=w.heap[q]?:=by
 have h2:q<w8.heap.size:=by
  have h3:w.heap[q]?=some w.heap[q]:=Array.getElem?_eq_getElem hq
  rw [h3] at h
  exact (Array.getElem?_eq_some_iff.1 h).1
 rw [hf q h2 (fun hh=>hn (by unfold Mine Row at hh ⊢;rw [h] at hh;exact hh))]
 exact h
theorem dX {w w':World} {b o:Nat} {v:Value} (h:w.cell? ⟨b,o,none⟩=some v) (hb:Below w.heap.size w w'):w'.cell? ⟨b,o,none⟩=some v:=by
 rw [World.cell?_of_block (w:=w) (a:=⟨b,o,none⟩) (hb.block b (block_lt_of_cell h))]
 exact h
theorem sz_idl:(Tryz.prog.info? 59).map (·.size)=some 1:=by kernel_rfl
theorem exec_ixU0 {a:Act} {w:World} {dst:Option Tmp} {typ:TypeId} {pos:String} {aft:Array Edge} {gd:Option (Nat×Bool)} {x ix:Operand} {b o n cap:Nat} (hx:a.eval x=.slice (some ⟨b,o,none⟩) n cap) (hix:a.eval ix=.int .i64 0) (hi:0<n) :
  (execOp a.eval {dst:=dst,op:=.indexAddr 59 x ix,type:=typ,pos:=pos,after:=aft,guard:=gd}).run Tryz.prog w=.ok (.value (.pointer (some ⟨b,o,none⟩))) w:=by
 unfold execOp
 simp [hx,hix,Instr.indexAt,asIntOf,run_underlying dc,aZ]
 omega
theorem alloc_one {w0:World} {gp g mb:Nat} {kv:Value} {kP:List Int} {pg k:Nat} {U:Nat→Option (Option (List Int))} {L:Nat→Option (List Int)} {root:Int} {mt:ByteArray} (hpg:pg≤400) (i:Nat) (hi:i<pg) (hu:((U i).isSome||(L i).isSome)=false) (hlow:∀j,j<i→((U j).isSome||(L j).isSome)=true) (w:World) (h:PgS w0 w gp g mb kv kP pg k U L root mt) :
  Calls Tryz.prog 83 #[.pointer (some ⟨gp,0,none⟩),.int .i64 1] w fun e w'=>∃b o c,e=.returned (.tuple #[.slice (some ⟨b,o,none⟩) 1 c,.int .i64 0])∧w'.cell? ⟨b,o,none⟩=some (.int .u32 (i:Int))∧1≤c∧PgS w0 w' gp g mb kv kP pg k (upf U i (some none)) L root mt∧Fr w w':=by
 have HS:Hid (PgS w0 w gp g mb kv kP pg k U L root mt):=h
 have HU:Hid (((U i).isSome||(L i).isSome)=false):=hu
 have HLW:Hid (∀j,j<i→((U j).isSome||(L j).isSome)=true):=hlow
 clear h hu hlow
 go_enter Tryz.func83,Tryz.ntmps83
 go_wp2_with fail
 refine wp_loop_rounds 2 ?_
 rw [rounds_succ]
 go_wp2_with (first
  | (go_at_call 127;refine (alloc_s hpg i hi HU.out HLW.out _ HS.out).mono ?_;rintro e w2 ⟨rfl,hs,hf⟩;have HS2:Hid (PgS w0 w2 gp g mb kv kP pg k (upf U i (some none)) L root mt∧Fr w w2):=⟨hs,hf⟩;clear hs hf;have hm:=Mem.start w2)
  | ((with_reducible refine aa (some 25) (.buildSlice 59 1 #[(0,.tmp 24)]) ?_);go_must (refine di rfl (.int .u32 0) (.int .u32 (i:Int)) dc j1 rfl rfl rfl hm ?_);clear hm;intro w3 g3 hb3 hm;have HB3:Hid (Below w2.heap.size w2 w3):=hb3;clear hb3)
  | ((with_reducible refine aa (some 26) (.call {callee:=.builtin .append,args:=#[.tmp 23,.tmp 25],argTypes:=#[59,59]}) ?_);go_must (refine cU (.int .u32 0) 1 4 rfl dc jG rfl (by omega) (by omega) (World.ownsRow_nil w3 w2.heap.size 25 1) HB3.out.size rfl rfl (hm.get 0 rfl) rfl (by intro u hu;simp only [List.mem_cons,List.not_mem_nil,or_false] at hu;subst hu;rfl) (by omega) ?_);intro v4 w4 ho4 hg4 _;have HB4:Hid (Below w2.heap.size w2 w4):=fc HB3.out HB3.out.size (World.ownsRow_nil w3 w2.heap.size 25 1) hg4;obtain ⟨pv,cv,hv4,hc4,hl4,hs4⟩:=own_sl ho4;obtain ⟨bv,ov,hpv,hsg4⟩:=hs4 (by omega);subst hpv;subst hv4;have HC4:Hid (w4.cell? ⟨bv,ov,none⟩=some (.int .u32 (i:Int))∧1≤cv):=⟨by have h9:=hsg4 0 (.int .u32 (i:Int)) rfl;rw [Nat.add_zero] at h9;exact h9,hc4⟩;clear hm ho4 hg4 hc4 hl4 hs4 hsg4))
 (try simp only [Exit.inBlock,Exit.then])
 rw [rounds_succ]
 go_wp2_with fail
 go_ret2
 exact ⟨bv,ov,cv,rfl,HC4.out.1,HC4.out.2,PgS.below HS2.out.1 HB4.out,Fr.then HS2.out.2 HB4.out⟩
open Go Go.RowKit Go.Maps
theorem built_wr (p:Option Addr) (n c g:Nat):Tryz.prog.built 84 [(0,.slice p n c),(1,.slice none 0 0),(2,.slice (some ⟨g,0,none⟩) 0 0)]=some (List.toArray [.slice p n c,.slice none 0 0,.slice (some ⟨g,0,none⟩) 0 0]):=by rfl
theorem k6 {w0:World} {gp g mb:Nat} {kv:Value} {kP:List Int} {pg k:Nat} {U:Nat→Option (Option (List Int))} {L:Nat→Option (List Int)} {root:Int} {mt:ByteArray} (hpg:pg≤400) (hk7:k<7000000) (i gw g1 ba oa ca n cq:Nat) (pq:Option Addr) (l:List Pr) (hi:i<pg) (hu:((U i).isSome && !(L i).isSome)=true) (hn:l.length=n) (hnl:n≤1000) (hok:okPairs l n=true) (hsz:szP l≤480) (w:World) (hS:PgS w0 w gp g mb kv kP pg k U L root mt) (hw:Row w gw [.pointer (some ⟨gp,0,none⟩),.slice (some ⟨ba,oa,none⟩) 1 ca] 177) (hgw:w0.heap.size≤gw) (h1:Row w g1 [.slice pq n cq,.slice none 0 0,.slice none 0 0] 84) (hv:SlP w (.slice pq n cq) l) (hca:w.cell? ⟨ba,oa,none⟩=some (.int .u32 (i:Int))) :
  Calls Tryz.prog 85 #[.pointer (some ⟨gw,0,none⟩),.agg (List.toArray [.int .u32 0,.pointer (some ⟨g1,0,none⟩)])] w fun e w'=>e=.returned (.tuple #[.int .u32 (i:Int),.int .i64 0])∧PgS w0 w' gp g mb kv kP pg (k+74) (upf U i (some (some (leafB l)))) L root mt∧(∀q,q<w.heap.size→q≠gw→¬Mine w q→w'.heap[q]?=w.heap[q]?):=by
 have HS:Hid (PgS w0 w gp g mb kv kP pg k U L root mt):=hS
 have HW:Hid (Row w gw [.pointer (some ⟨gp,0,none⟩),.slice (some ⟨ba,oa,none⟩) 1 ca] 177):=hw
 have H1:Hid (Row w g1 [.slice pq n cq,.slice none 0 0,.slice none 0 0] 84):=h1
 have HV:Hid (SlP w (.slice pq n cq) l):=hv
 have HOK:Hid (okPairs l n=true):=hok
 have HN:Hid (l.length=n):=hn
 have HU:Hid (((U i).isSome && !(L i).isSome)=true):=hu
 have HCA:Hid (w.cell? ⟨ba,oa,none⟩=some (.int .u32 (i:Int))):=hca
 have hm:=Mem.start w
 clear hS hw h1 hv hok hn hu hca
 go_enter Tryz.func85,Tryz.ntmps85
 go_wp2_with (first
  | ((with_reducible refine aa (some 3) (.box 137 (.tmp 1)) ?_);refine ak [.int .u32 0,.pointer (some ⟨g1,0,none⟩)] rfl hm ?_;clear hm;intro w2 g3 hm)
  | ((with_reducible refine aa (some 15) (.load 135 (.tmp 14)) ?_);refine ai 0 1 (.pointer (some ⟨g1,0,none⟩)) hm rfl rfl b3 rfl ?_))
 refine au ?_
 refine ap (T:=fun W=>Mem w [] W [(g3,[.int .u32 0,.pointer (some ⟨g1,0,none⟩)],137)]) (by kernel_rfl) hm ?_
 clear hm
 intro w4 hm
 refine aT 0 (v:=.pointer (some ⟨g3,1,none⟩)) rfl (by kernel_rfl) rfl (fun W _=>by go_simp) hm ?_
 go_simp
 refine aT 1 (v:=.pointer (some ⟨g1,0,none⟩)) rfl (by kernel_rfl) rfl (fun W hW=>aj (.pointer (some ⟨g1,0,none⟩)) (((hW.get 0 rfl).cell 1).trans rfl) rfl b3) hm ?_
 go_simp
 refine aT 2 (v:=.pointer (some ⟨g1,0,none⟩)) rfl (by kernel_rfl) rfl (fun W _=>by go_simp) hm ?_
 go_simp
 refine aT 3 (v:=.pointer (some ⟨g1,0,none⟩)) rfl (by kernel_rfl) rfl (fun W _=>by go_simp) hm ?_
 go_simp
 refine aT 4 (v:=.slice pq n cq) rfl (by kernel_rfl) rfl (fun W hW=>aj (.slice pq n cq) (((Row.below' H1.out hW.below).cell 0).trans rfl) rfl bZ) hm ?_
 go_simp
 refine aT 5 (v:=.pointer (some ⟨g3,1,none⟩)) rfl (by kernel_rfl) rfl (fun W _=>by go_simp) hm ?_
 go_simp
 refine aT 6 (v:=.pointer (some ⟨g1,0,none⟩)) rfl (by kernel_rfl) rfl (fun W hW=>aj (.pointer (some ⟨g1,0,none⟩)) (((hW.get 0 rfl).cell 1).trans rfl) rfl b3) hm ?_
 go_simp
 refine aT 7 (v:=.pointer (some ⟨g1,0,none⟩)) rfl (by kernel_rfl) rfl (fun W _=>by go_simp) hm ?_
 go_simp
 refine aT 8 (v:=.pointer (some ⟨g1,1,none⟩)) rfl (by kernel_rfl) rfl (fun W _=>by go_simp) hm ?_
 go_simp
 refine aT 9 (v:=.slice none 0 0) rfl (by kernel_rfl) rfl (fun W hW=>aj (.slice none 0 0) (((Row.below' H1.out hW.below).cell 1).trans rfl) rfl ag_strl) hm ?_
 go_simp
 refine aT 10 (v:=.pointer (some ⟨g3,1,none⟩)) rfl (by kernel_rfl) rfl (fun W _=>by go_simp) hm ?_
 go_simp
 refine aT 11 (v:=.pointer (some ⟨g1,0,none⟩)) rfl (by kernel_rfl) rfl (fun W hW=>aj (.pointer (some ⟨g1,0,none⟩)) (((hW.get 0 rfl).cell 1).trans rfl) rfl b3) hm ?_
 go_simp
 refine aT 12 (v:=.pointer (some ⟨g1,0,none⟩)) rfl (by kernel_rfl) rfl (fun W _=>by go_simp) hm ?_
 go_simp
 refine aT 13 (v:=.pointer (some ⟨g1,2,none⟩)) rfl (by kernel_rfl) rfl (fun W _=>by go_simp) hm ?_
 go_simp
 refine aT 14 (v:=.slice none 0 0) rfl (by kernel_rfl) rfl (fun W hW=>aj (.slice none 0 0) (((Row.below' H1.out hW.below).cell 2).trans rfl) rfl dO) hm ?_
 go_simp
 refine aT 15 (v:=.int .i64 0) rfl (by kernel_rfl) rfl (fun W _=>by go_simp) hm ?_
 go_simp
 refine wpAnyH_all (rs:=[16,18]) (by kernel_rfl) (by simp) ?_
 intro i hi
 simp only [List.mem_cons,List.not_mem_nil,or_false] at hi
 rcases hi with rfl|rfl
 ·refine aL 16 rfl rfl ?_
  intro K hK
  refine wpl_mkK0 rfl rfl hm ?_
  clear hm
  intro wx1 gz hm
  refine wpList_nil ?_
  refine hK _ _ hm ?_
  clear hK K
  go_simp
  refine aT 17 (v:=.agg (List.toArray [.slice pq n cq,.slice none 0 0,.slice (some ⟨gz,0,none⟩) 0 0])) rfl (by kernel_rfl) rfl (fun W _=>fQ [.slice pq n cq,.slice none 0 0,.slice (some ⟨gz,0,none⟩) 0 0] [(0,.slice pq n cq),(1,.slice none 0 0),(2,.slice (some ⟨gz,0,none⟩) 0 0)] (by first|rfl|simp [Act.eval]) (built_wr _ _ _ _)) hm ?_
  go_simp
  refine aO 18 (by kernel_rfl) rfl rfl ?_
  intro K hK
  refine af _ be hm ?_
  clear hm
  intro wx2 g6 hm
  refine wpList_nil ?_
  refine hK _ _ hm.tail ?_
  clear hK K
  refine aO 19 (by kernel_rfl) rfl rfl ?_
  intro K hK
  refine ag 0 [.slice pq n cq,.slice none 0 0,.slice (some ⟨gz,0,none⟩) 0 0] hm rfl rfl rfl 3 aA rfl rfl (by intro u hu;simp only [List.mem_cons,List.not_mem_nil,or_false] at hu;rcases hu with rfl|rfl|rfl<;>rfl) ?_
  clear hm
  intro wy hm
  refine wpList_nil ?_
  refine hK _ _ hm.tail ?_
  clear hK K
  refine wpAnyH_done (by kernel_rfl) ?_ _
  simp only [endsIn]
  replace hm:Mem w [] wy [(g6,[.slice pq n cq,.slice none 0 0,.slice (some ⟨gz,0,none⟩) 0 0],84),(g3,[.int .u32 0,.pointer (some ⟨g1,0,none⟩)],137)]:=hm
  go_wp2_with (first
   | ((with_reducible refine aa (some 38) (.load 135 (.tmp 37)) ?_);refine ai 1 1 (.pointer (some ⟨g1,0,none⟩)) hm rfl rfl b3 rfl ?_)
   | ((with_reducible refine aa (some 41) (.load 82 (.tmp 40)) ?_);go_must (refine ae (.slice none 0 0) rfl (aj (.slice none 0 0) (((Row.below' H1.out hm.below).cell 2).trans rfl) rfl dO) ?_)))
  refine wp_loop_rounds 1 ?_
  rw [rounds_succ]
  go_wp2_with (first
   | ((with_reducible refine aa (some 65) (.load 84 (.tmp 6)) ?_);obtain ⟨fs,hfs⟩:=aS;go_must (refine am 0 hm rfl rfl _ hfs rfl 3 aA rfl ?_);clear hfs fs)
   | (go_at_call 128;refine (lG l pq _ n cq _ _ HN.out hnl HOK.out hsz _ (SlV.below HV.out hm.below)).mono ?_;rintro e w7 ⟨gb,rfl,hgb,hrb,hb⟩;replace hm:=hm.callNew hb hrb hgb;clear hb hrb hgb)
   | ((with_reducible refine aa (some 75) (.load 59 (.tmp 74)) ?_);go_must (refine ae (.slice (some ⟨ba,oa,none⟩) 1 ca) rfl (aj (.slice (some ⟨ba,oa,none⟩) 1 ca) (((Row.below' HW.out hm.below).cell 1).trans rfl) rfl ag_idl) ?_))
   | ((with_reducible refine aa (some 76) (.indexAddr 59 (.tmp 75) (.const (.int .i64 0))) ?_);go_must (refine ae (.pointer (some ⟨ba,oa,none⟩)) rfl (exec_ixU0 rfl rfl (by omega)) ?_))
   | ((with_reducible refine aa (some 77) (.load 25 (.tmp 76)) ?_);go_must (refine ae (.int .u32 (i:Int)) rfl (aj (.int .u32 (i:Int)) (dX HCA.out hm.below) rfl dC) ?_))
   | ((with_reducible refine aa (some 82) (.load 59 (.tmp 81)) ?_);go_must (refine ae (.slice (some ⟨ba,oa,none⟩) 1 ca) rfl (aj (.slice (some ⟨ba,oa,none⟩) 1 ca) (((Row.below' HW.out hm.below).cell 1).trans rfl) rfl ag_idl) ?_))
   | ((with_reducible refine aa (some 83) (.slice 59 (.tmp 82) (some (.const (.int .i64 1))) none none) ?_);go_must (refine ae (.slice (cutLoK (some ⟨ba,oa,none⟩) ca 1 1) 0 (ca - 1)) rfl (fB dc 1 cK 1 (Nat.le_refl 1) rfl rfl rfl) ?_))
   | ((with_reducible refine aa none (.store 59 (.tmp 85) (.tmp 83)) ?_);replace hm:=Mem.adoptAll (Mem.ownS HW.out) hm;go_must (refine aD 0 1 (.slice (cutLoK (some ⟨ba,oa,none⟩) ca 1 1) 0 (ca - 1)) hm rfl rfl rfl sz_idl (by simp) rfl rfl ?_);clear hm;intro w8 hm)
   | ((with_reducible refine aa (some 90) (.load 24 (.tmp 89)) ?_);refine ai 0 0 (.pointer (some ⟨gp,0,none⟩)) hm rfl rfl ag_pgp rfl ?_)
   | (go_at_call 129;refine (write_s i (leafB l) _ hpg hi HU.out (by rw [bW];exact hsz) (gT l) hk7 _ ⟨_,szP l,by rw [bW],by rw [bW];exact Nat.le_refl _,fun _=>⟨gb,0,rfl,Seg.row (hm.get 1 rfl),Or.inr ⟨_,hm.get 1 rfl⟩⟩⟩ (PgS.updS HS.out hm.upds (fun x hx=>by simp only [List.map_cons,List.map_nil,List.mem_cons,List.not_mem_nil,or_false] at hx;subst hx;exact ⟨hgw,gL (by unfold NotPg;decide) HW.out⟩))).mono ?_;rintro e w9 ⟨rfl,hs,hf⟩;have HS9:Hid (PgS w0 w9 gp g mb kv kP pg (k+74) (upf U i (some (some (leafB l)))) L root mt∧Fr w8 w9):=⟨hs,hf⟩;clear hs hf))
  go_ret2
  exact ⟨rfl,HS9.out.1,fun q hq hne hmn=>ff (hm.block q hq (by simpa using hne)) hq hmn HS9.out.2⟩
 ·refine aL 18 rfl rfl ?_
  intro K hK
  refine af _ be hm ?_
  clear hm
  intro wx1 g6 hm
  refine wpList_nil ?_
  refine hK _ _ hm.tail ?_
  clear hK K
  refine aO 16 (by kernel_rfl) rfl rfl ?_
  intro K hK
  refine wpl_mkK0 rfl rfl hm ?_
  clear hm
  intro wx2 gz hm
  refine wpList_nil ?_
  refine hK _ _ hm.tail ?_
  clear hK K
  go_simp
  refine aT 17 (v:=.agg (List.toArray [.slice pq n cq,.slice none 0 0,.slice (some ⟨gz,0,none⟩) 0 0])) rfl (by kernel_rfl) rfl (fun W _=>fQ [.slice pq n cq,.slice none 0 0,.slice (some ⟨gz,0,none⟩) 0 0] [(0,.slice pq n cq),(1,.slice none 0 0),(2,.slice (some ⟨gz,0,none⟩) 0 0)] (by first|rfl|simp [Act.eval]) (built_wr _ _ _ _)) hm.tail ?_
  go_simp
  refine aO 19 (by kernel_rfl) rfl rfl ?_
  intro K hK
  refine ag 0 [.slice pq n cq,.slice none 0 0,.slice (some ⟨gz,0,none⟩) 0 0] hm rfl rfl rfl 3 aA rfl rfl (by intro u hu;simp only [List.mem_cons,List.not_mem_nil,or_false] at hu;rcases hu with rfl|rfl|rfl<;>rfl) ?_
  clear hm
  intro wy hm
  refine wpList_nil ?_
  refine hK _ _ hm.tail ?_
  clear hK K
  refine wpAnyH_done (by kernel_rfl) ?_ _
  simp only [endsIn]
  replace hm:Mem w [] wy [(g6,[.slice pq n cq,.slice none 0 0,.slice (some ⟨gz,0,none⟩) 0 0],84),(g3,[.int .u32 0,.pointer (some ⟨g1,0,none⟩)],137)]:=hm
  go_wp2_with (first
   | ((with_reducible refine aa (some 38) (.load 135 (.tmp 37)) ?_);refine ai 1 1 (.pointer (some ⟨g1,0,none⟩)) hm rfl rfl b3 rfl ?_)
   | ((with_reducible refine aa (some 41) (.load 82 (.tmp 40)) ?_);go_must (refine ae (.slice none 0 0) rfl (aj (.slice none 0 0) (((Row.below' H1.out hm.below).cell 2).trans rfl) rfl dO) ?_)))
  refine wp_loop_rounds 1 ?_
  rw [rounds_succ]
  go_wp2_with (first
   | ((with_reducible refine aa (some 65) (.load 84 (.tmp 6)) ?_);obtain ⟨fs,hfs⟩:=aS;go_must (refine am 0 hm rfl rfl _ hfs rfl 3 aA rfl ?_);clear hfs fs)
   | (go_at_call 128;refine (lG l pq _ n cq _ _ HN.out hnl HOK.out hsz _ (SlV.below HV.out hm.below)).mono ?_;rintro e w7 ⟨gb,rfl,hgb,hrb,hb⟩;replace hm:=hm.callNew hb hrb hgb;clear hb hrb hgb)
   | ((with_reducible refine aa (some 75) (.load 59 (.tmp 74)) ?_);go_must (refine ae (.slice (some ⟨ba,oa,none⟩) 1 ca) rfl (aj (.slice (some ⟨ba,oa,none⟩) 1 ca) (((Row.below' HW.out hm.below).cell 1).trans rfl) rfl ag_idl) ?_))
   | ((with_reducible refine aa (some 76) (.indexAddr 59 (.tmp 75) (.const (.int .i64 0))) ?_);go_must (refine ae (.pointer (some ⟨ba,oa,none⟩)) rfl (exec_ixU0 rfl rfl (by omega)) ?_))
   | ((with_reducible refine aa (some 77) (.load 25 (.tmp 76)) ?_);go_must (refine ae (.int .u32 (i:Int)) rfl (aj (.int .u32 (i:Int)) (dX HCA.out hm.below) rfl dC) ?_))
   | ((with_reducible refine aa (some 82) (.load 59 (.tmp 81)) ?_);go_must (refine ae (.slice (some ⟨ba,oa,none⟩) 1 ca) rfl (aj (.slice (some ⟨ba,oa,none⟩) 1 ca) (((Row.below' HW.out hm.below).cell 1).trans rfl) rfl ag_idl) ?_))
   | ((with_reducible refine aa (some 83) (.slice 59 (.tmp 82) (some (.const (.int .i64 1))) none none) ?_);go_must (refine ae (.slice (cutLoK (some ⟨ba,oa,none⟩) ca 1 1) 0 (ca - 1)) rfl (fB dc 1 cK 1 (Nat.le_refl 1) rfl rfl rfl) ?_))
   | ((with_reducible refine aa none (.store 59 (.tmp 85) (.tmp 83)) ?_);replace hm:=Mem.adoptAll (Mem.ownS HW.out) hm;go_must (refine aD 0 1 (.slice (cutLoK (some ⟨ba,oa,none⟩) ca 1 1) 0 (ca - 1)) hm rfl rfl rfl sz_idl (by simp) rfl rfl ?_);clear hm;intro w8 hm)
   | ((with_reducible refine aa (some 90) (.load 24 (.tmp 89)) ?_);refine ai 0 0 (.pointer (some ⟨gp,0,none⟩)) hm rfl rfl ag_pgp rfl ?_)
   | (go_at_call 129;refine (write_s i (leafB l) _ hpg hi HU.out (by rw [bW];exact hsz) (gT l) hk7 _ ⟨_,szP l,by rw [bW],by rw [bW];exact Nat.le_refl _,fun _=>⟨gb,0,rfl,Seg.row (hm.get 1 rfl),Or.inr ⟨_,hm.get 1 rfl⟩⟩⟩ (PgS.updS HS.out hm.upds (fun x hx=>by simp only [List.map_cons,List.map_nil,List.mem_cons,List.not_mem_nil,or_false] at hx;subst hx;exact ⟨hgw,gL (by unfold NotPg;decide) HW.out⟩))).mono ?_;rintro e w9 ⟨rfl,hs,hf⟩;have HS9:Hid (PgS w0 w9 gp g mb kv kP pg (k+74) (upf U i (some (some (leafB l)))) L root mt∧Fr w8 w9):=⟨hs,hf⟩;clear hs hf))
  go_ret2
  exact ⟨rfl,HS9.out.1,fun q hq hne hmn=>ff (hm.block q hq (by simpa using hne)) hq hmn HS9.out.2⟩
open Go Go.RowKit Go.Maps
theorem built_wri (gp b o c:Nat):Tryz.prog.built 177 [(0,.pointer (some ⟨gp,0,none⟩)),(1,.slice (some ⟨b,o,none⟩) 1 c)]=some (List.toArray [.pointer (some ⟨gp,0,none⟩),.slice (some ⟨b,o,none⟩) 1 c]):=by rfl
theorem fr_two {w w4 w6 w7:World} {gw:Nat} {rows:List (Nat×List Value×TypeId)} (h4:Fr w w4) (hm:Mem w4 [] w6 rows) (hg:w4.heap.size≤gw) (hf:∀q,q<w6.heap.size→q≠gw→¬Mine w6 q→w7.heap[q]?=w6.heap[q]?):Fr w w7:=by
 intro q hq hn
 have h8:=h4 q hq hn
 have h9:q<w4.heap.size:=by
  have h3:w.heap[q]?=some w.heap[q]:=Array.getElem?_eq_getElem hq
  rw [h3] at h8
  exact (Array.getElem?_eq_some_iff.1 h8).1
 have ha:=hm.block q h9 (by simp)
 have hb:q<w6.heap.size:=Nat.lt_of_lt_of_le h9 hm.size
 rw [hf q hb (by omega) (fun hh=>hn (by unfold Mine Row at hh ⊢;rw [ha,h8] at hh;exact hh)),ha]
 exact h8
theorem jE {w:World} {g n:Nat} {l:List Pr} (hn:l.length=n) (hr:Row w g (prs l) 44):SlP w (.slice (some ⟨g,0,none⟩) n n) l:=by
 subst hn
 exact ⟨_,_,rfl,Nat.le_refl _,bE l,fun _=>⟨g,0,rfl,fun j v hj=>by rw [Nat.zero_add,hr.cell j];exact hj⟩⟩
theorem upf_sameT {U:Nat→Option (Option (List Int))} {i:Nat} {x:Option (Option (List Int))}:upf U i x i=x:=by unfold upf;rw [if_pos rfl]
theorem write_leaf {w0:World} {gp g mb:Nat} {kv:Value} {kP:List Int} {pg k:Nat} {U:Nat→Option (Option (List Int))} {L:Nat→Option (List Int)} {root:Int} {mt:ByteArray} (g1:Nat) (hpg:pg≤400) (hk7:k<7000000) (i gq n:Nat) (l:List Pr) (hi:i<pg) (hfr:((U i).isSome||(L i).isSome)=false) (hlow:∀j,j<i→((U j).isSome||(L j).isSome)=true) (hn:l.length=n) (hnl:n≤1000) (hok:okPairs l n=true) (hsz:szP l≤480) (w:World) (hS:PgS w0 w gp g mb kv kP pg k U L root mt) (h1:Row w g1 [.slice (some ⟨gq,0,none⟩) n n,.slice none 0 0,.slice none 0 0] 84) (hq:Row w gq (prs l) 44) :
  Calls Tryz.prog 49 #[.pointer (some ⟨gp,0,none⟩),.agg (List.toArray [.int .u32 0,.pointer (some ⟨g1,0,none⟩)])] w fun e w'=>e=.returned (.tuple #[.int .u32 (i:Int),.int .i64 0])∧PgS w0 w' gp g mb kv kP pg (k+74) (upf (upf U i (some none)) i (some (some (leafB l)))) L root mt∧Fr w w':=by
 have HS:Hid (PgS w0 w gp g mb kv kP pg k U L root mt):=hS
 have H1:Hid (Row w g1 [.slice (some ⟨gq,0,none⟩) n n,.slice none 0 0,.slice none 0 0] 84):=h1
 have HQ:Hid (Row w gq (prs l) 44):=hq
 have HOK:Hid (okPairs l n=true):=hok
 have HN:Hid (l.length=n):=hn
 have HFR:Hid (((U i).isSome||(L i).isSome)=false):=hfr
 have HLW:Hid (∀j,j<i→((U j).isSome||(L j).isSome)=true):=hlow
 have hm:=Mem.start w
 clear hS h1 hq hok hn hfr hlow
 go_enter Tryz.func49,Tryz.ntmps49
 go_wp2_with (first
  | ((with_reducible refine aa (some 3) (.box 137 (.tmp 1)) ?_);refine ak [.int .u32 0,.pointer (some ⟨g1,0,none⟩)] rfl hm ?_;clear hm;intro w2 g3 hm)
  | ((with_reducible refine aa (some 12) (.load 137 (.tmp 3)) ?_);obtain ⟨fs,hfs⟩:=jn;go_must (refine am 0 hm rfl rfl _ hfs rfl 2 fm rfl ?_);clear hfs fs)
  | (go_at_call 84;refine (kJ g1 n n _ _ (Row.below' H1.out hm.below)).mono ?_;rintro e w3 ⟨rfl,hb⟩;replace hm:=hm.call hb;clear hb)
  | (go_at_call 83;refine (alloc_one hpg i hi HFR.out HLW.out _ (PgS.below HS.out hm.below)).mono ?_;rintro e w4 ⟨ba,oa,ca,rfl,hc4,hc1,hs4,hf4⟩;have HS4:Hid (PgS w0 w4 gp g mb kv kP pg k (upf U i (some none)) L root mt):=hs4;have HR4:Hid (Row w4 g3 [.int .u32 0,.pointer (some ⟨g1,0,none⟩)] 137∧Row w4 g1 [.slice (some ⟨gq,0,none⟩) n n,.slice none 0 0,.slice none 0 0] 84∧Row w4 gq (prs l) 44∧w4.cell? ⟨ba,oa,none⟩=some (.int .u32 (i:Int))):=⟨cT (by unfold NotPg;decide) (hm.get 0 rfl) hf4,cT (by unfold NotPg;decide) (Row.below' H1.out hm.below) hf4,cT (by unfold NotPg;decide) (Row.below' HQ.out hm.below) hf4,hc4⟩;have HF4:Hid (Fr w w4):=fun q hq hn=>ff (hm.block q hq (by simp)) hq hn hf4;clear hm hc4 hc1 hs4 hf4;have hm:=Mem.start w4)
  | ((with_reducible refine aa (some 22) (.build 177 #[(0,.tmp 20),(1,.tmp 21)]) ?_);go_must (refine aB [.pointer (some ⟨gp,0,none⟩),.slice (some ⟨ba,oa,none⟩) 1 ca] _ rfl (built_wri _ _ _ _) ?_))
  | ((with_reducible refine aa (some 8) (.alloc 177) ?_);go_must (refine af _ zero_wri hm ?_);clear hm;intro w5 gw hm)
  | ((with_reducible refine aa none (.store 177 (.tmp 8) (.tmp 22)) ?_);go_must (refine ag 0 [.pointer (some ⟨gp,0,none⟩),.slice (some ⟨ba,oa,none⟩) 1 ca] hm rfl rfl rfl 2 sz_wri rfl rfl (by intro u hu;simp only [List.mem_cons,List.not_mem_nil,or_false] at hu;rcases hu with rfl|rfl<;>rfl) ?_);clear hm;intro w6 hm;have HGW:Hid (w4.heap.size≤gw):=(by have h9:=hm.fresh _ (List.mem_of_getElem? (i:=0) rfl);show _≤_;simpa using h9))
  | ((with_reducible refine aa (some 24) (.load 137 (.tmp 3)) ?_);obtain ⟨fs,hfs⟩:=jn;go_must (refine ae (.agg (List.toArray [.int .u32 0,.pointer (some ⟨g1,0,none⟩)])) rfl (ao 0 [.int .u32 0,.pointer (some ⟨g1,0,none⟩)] (Row.below' HR4.out.1 hm.below) rfl _ hfs rfl 2 fm (Nat.le_refl 2) rfl) ?_);clear hfs fs)
  | (go_at_call 85;go_loud (refine (k6 hpg hk7 i gw g1 ba oa ca n n _ l hi (by rw [upf_sameT];have h9:=HFR.out;rw [Bool.or_eq_false_iff] at h9;rw [h9.2];rfl) HN.out hnl HOK.out hsz _ (PgS.below HS4.out hm.below) (hm.get 0 rfl) (Nat.le_trans (PgS.bl HS4.out).size HGW.out) (Row.below' HR4.out.2.1 hm.below) (jE HN.out (Row.below' HR4.out.2.2.1 hm.below)) (dX HR4.out.2.2.2 hm.below)).mono ?_;rintro e w7 ⟨rfl,hs7,hf7⟩;have HS7:Hid (PgS w0 w7 gp g mb kv kP pg (k+74) (upf (upf U i (some none)) i (some (some (leafB l)))) L root mt∧Fr w w7):=⟨hs7,fr_two HF4.out hm HGW.out hf7⟩;clear hs7 hf7)))
 go_ret2
 exact ⟨rfl,HS7.out.1,HS7.out.2⟩
open Go Go.RowKit Go.Maps
theorem kV {w0:World} {gp g mb:Nat} {kv:Value} {kP:List Int} {pg k:Nat} {U:Nat→Option (Option (List Int))} {L:Nat→Option (List Int)} {root:Int} {mt:ByteArray} (q:Nat) (hpg:pg≤400) (hk7:k<7000000) (i gq n:Nat) (l:List Pr) (hi:i<pg) (hfr:((U i).isSome||(L i).isSome)=false) (hlow:∀j,j<i→((U j).isSome||(L j).isSome)=true) (hn:l.length=n) (hnl:n≤1000) (hok:okPairs l n=true) (hbig:∀q∈l,q.1.size≤1152921504606846976∧q.2.size≤1152921504606846976) (hsz:szP l≤480) (w:World) (hS:PgS w0 w gp g mb kv kP pg k U L root mt) (hq:Row w gq (prs l) 44) :
  Calls Tryz.prog 32 #[.agg (List.toArray [.pointer (some ⟨gp,0,none⟩),.map (some q)]),.slice none 0 0,.agg (List.toArray [.slice (some ⟨gq,0,none⟩) n n,.slice none 0 0,.slice none 0 0])] w fun e w'=>e=.returned (.tuple #[.int .u32 (i:Int),.int .i64 0])∧PgS w0 w' gp g mb kv kP pg (k+74) (upf (upf U i (some none)) i (some (some (leafB l)))) L root mt∧Fr w w':=by
 have HS:Hid (PgS w0 w gp g mb kv kP pg k U L root mt):=hS
 have HQ:Hid (Row w gq (prs l) 44):=hq
 have HOK:Hid (okPairs l n=true):=hok
 have HN:Hid (l.length=n):=hn
 have HBG:Hid (∀q∈l,q.1.size≤1152921504606846976∧q.2.size≤1152921504606846976):=hbig
 have HFR:Hid (((U i).isSome||(L i).isSome)=false):=hfr
 have HLW:Hid (∀j,j<i→((U j).isSome||(L j).isSome)=true):=hlow
 have hm:=Mem.start w
 clear hS hq hok hn hfr hlow hbig
 go_enter Tryz.func32,Tryz.ntmps32
 go_wp2_with (first
  | ((with_reducible refine aa (some 3) (.box 78 (.tmp 0)) ?_);refine ak [.pointer (some ⟨gp,0,none⟩),.map (some q)] rfl hm ?_;clear hm;intro w2 g3 hm)
  | ((with_reducible refine aa (some 5) (.box 84 (.tmp 2)) ?_);refine ak [.slice (some ⟨gq,0,none⟩) n n,.slice none 0 0,.slice none 0 0] rfl hm ?_;clear hm;intro w3 g5 hm)
  | ((with_reducible refine aa (some 12) (.load 84 (.tmp 5)) ?_);obtain ⟨fs,hfs⟩:=aS;go_must (refine am 0 hm rfl rfl _ hfs rfl 3 aA rfl ?_);clear hfs fs)
  | (go_at_call 58;refine (row_leaf l _ n n HN.out hnl HBG.out hsz _ (jE HN.out (Row.below' HQ.out hm.below))).mono ?_;rintro e w4 ⟨gk,g1,rfl,hgk,hg1,hrk,hr1,hb⟩;replace hm:=hm.call hb;have HK4:Hid (Row w4 gk [.int .u32 0,.pointer (some ⟨g1,0,none⟩)] 137∧Row w4 g1 [.slice (some ⟨gq,0,none⟩) n n,.slice none 0 0,.slice none 0 0] 84):=⟨hrk,hr1⟩;clear hb hrk hr1 hgk hg1)
  | ((with_reducible refine aa (some 8) (.alloc 84) ?_);go_must (refine az _ be hm ?_);clear hm;intro w5 g8 hb5 hm;replace HK4:Hid (Row w5 gk [.int .u32 0,.pointer (some ⟨g1,0,none⟩)] 137∧Row w5 g1 [.slice (some ⟨gq,0,none⟩) n n,.slice none 0 0,.slice none 0 0] 84):=⟨Row.below' HK4.out.1 hb5,Row.below' HK4.out.2 hb5⟩;have HNE:Hid (g1≠g8):=(fun e=>by have h9:=HK4.out.2;have h8:=hm.get 0 rfl;rw [e] at h9;unfold Row at h9 h8;rw [h8] at h9;cases h9);clear hb5)
  | ((with_reducible refine aa none (.store 84 (.tmp 8) (.tmp 13)) ?_);go_loud (refine bn 0 [.slice none 0 0,.slice none 0 0,.slice (some ⟨gk,0,none⟩) 1 1] hm rfl rfl rfl 3 aA rfl rfl (by intro u hu;simp only [List.mem_cons,List.not_mem_nil,or_false] at hu;rcases hu with rfl|rfl|rfl<;>rfl) ?_;have HRX:Hid (Row w5 g8 [.slice none 0 0,.slice none 0 0,.slice none 0 0] 84):=hm.get 0 rfl;clear hm;intro w6 hu hm;replace HK4:Hid (Row w6 gk [.int .u32 0,.pointer (some ⟨g1,0,none⟩)] 137∧Row w6 g1 [.slice (some ⟨gq,0,none⟩) n n,.slice none 0 0,.slice none 0 0] 84):=⟨hu.row HK4.out.1 (aQ HK4.out.1 HRX.out (by decide)),hu.row HK4.out.2 HNE.out⟩;clear hu HRX)))
 refine wp_loop_rounds 1 ?_
 rw [rounds_succ]
 go_wp2_with fail
 have HR6:Hid (Row w6 g3 [.pointer (some ⟨gp,0,none⟩),.map (some q)] 78∧Row w6 g8 [.slice none 0 0,.slice none 0 0,.slice (some ⟨gk,0,none⟩) 1 1] 84):=⟨hm.get 2 rfl,hm.get 0 rfl⟩
 refine au ?_
 refine cL (T:=fun W=>Row W g3 [.pointer (some ⟨gp,0,none⟩),.map (some q)] 78∧Row W g8 [.slice none 0 0,.slice none 0 0,.slice (some ⟨gk,0,none⟩) 1 1] 84) (by kernel_rfl) hm ?_
 clear hm
 intro w7 hb7 hm
 have HR7:Hid (Row w7 g3 [.pointer (some ⟨gp,0,none⟩),.map (some q)] 78∧Row w7 g8 [.slice none 0 0,.slice none 0 0,.slice (some ⟨gk,0,none⟩) 1 1] 84):=⟨Row.below' HR6.out.1 hb7,Row.below' HR6.out.2 hb7⟩
 replace HK4:Hid (Row w7 gk [.int .u32 0,.pointer (some ⟨g1,0,none⟩)] 137∧Row w7 g1 [.slice (some ⟨gq,0,none⟩) n n,.slice none 0 0,.slice none 0 0] 84):=⟨Row.below' HK4.out.1 hb7,Row.below' HK4.out.2 hb7⟩
 clear hb7 HR6
 obtain ⟨fs,hfs⟩:=aS
 refine aT 0 (v:=.pointer (some ⟨g3,0,none⟩)) rfl (by kernel_rfl) rfl (fun W _=>by go_simp) HR7.out ?_
 go_simp
 refine aT 1 (v:=.pointer (some ⟨gp,0,none⟩)) rfl (by kernel_rfl) rfl (fun W hW=>aj (.pointer (some ⟨gp,0,none⟩)) ((hW.1.cell 0).trans rfl) rfl ag_pgp) HR7.out ?_
 go_simp
 refine aT 2 (v:=.agg (List.toArray [.slice none 0 0,.slice none 0 0,.slice (some ⟨gk,0,none⟩) 1 1])) rfl (by kernel_rfl) rfl (fun W hW=>ao 0 [.slice none 0 0,.slice none 0 0,.slice (some ⟨gk,0,none⟩) 1 1] hW.2 rfl _ hfs rfl 3 aA (Nat.le_refl 3) rfl) HR7.out ?_
 go_simp
 refine aO 3 (by kernel_rfl) rfl rfl ?_
 intro K hK
 go_wp2_with (go_at_call 60;refine (rootOf_leaf gk g1 n n _ _ HK4.out.1 HK4.out.2).mono ?_;rintro e w8 ⟨rfl,hb⟩;replace hm:=hm.call hb;replace HR7:Hid (Row w8 g3 [.pointer (some ⟨gp,0,none⟩),.map (some q)] 78∧Row w8 g8 [.slice none 0 0,.slice none 0 0,.slice (some ⟨gk,0,none⟩) 1 1] 84):=⟨Row.below' HR7.out.1 hb,Row.below' HR7.out.2 hb⟩;replace HK4:Hid (Row w8 gk [.int .u32 0,.pointer (some ⟨g1,0,none⟩)] 137∧Row w8 g1 [.slice (some ⟨gq,0,none⟩) n n,.slice none 0 0,.slice none 0 0] 84):=⟨Row.below' HK4.out.1 hb,Row.below' HK4.out.2 hb⟩;clear hb)
 refine hK _ _ HR7.out ?_
 clear hK K
 refine aO 4 (by kernel_rfl) rfl rfl ?_
 intro K hK
 go_wp2_with (go_at_call 49;refine (write_leaf g1 hpg hk7 i gq n l hi HFR.out HLW.out HN.out hnl HOK.out hsz _ (PgS.below HS.out hm.below) HK4.out.2 (Row.below' HQ.out hm.below)).mono ?_;rintro e w9 ⟨rfl,hs9,hf9⟩;have HS9:Hid (PgS w0 w9 gp g mb kv kP pg (k+74) (upf (upf U i (some none)) i (some (some (leafB l)))) L root mt∧Fr w w9):=⟨hs9,fun x hx hn=>ff (hm.block x hx (by simp)) hx hn hf9⟩;replace HR7:Hid (Row w9 g3 [.pointer (some ⟨gp,0,none⟩),.map (some q)] 78∧Row w9 g8 [.slice none 0 0,.slice none 0 0,.slice (some ⟨gk,0,none⟩) 1 1] 84):=⟨cT (by unfold NotPg;decide) HR7.out.1 hf9,cT (by unfold NotPg;decide) HR7.out.2 hf9⟩;clear hs9 hf9 hm)
 refine hK _ _ HR7.out ?_
 clear hK K
 refine aT 5 (v:=.int .u32 (i:Int)) rfl (by kernel_rfl) rfl (fun W _=>by go_simp) HR7.out ?_
 go_simp
 refine aT 6 (v:=.int .i64 0) rfl (by kernel_rfl) rfl (fun W _=>by go_simp) HR7.out ?_
 go_simp
 refine aT 7 (v:=.int .u32 (i:Int)) rfl (by kernel_rfl) rfl (fun W _=>by go_simp) HR7.out ?_
 go_simp
 refine aT 8 (v:=.int .i64 0) rfl (by kernel_rfl) rfl (fun W _=>by go_simp) HR7.out ?_
 go_simp
 refine wpAnyH_done (by kernel_rfl) ?_ _
 simp only [endsIn]
 go_wp2_with fail
 go_ret2
 exact ⟨rfl,HS9.out.1,HS9.out.2⟩
end Go.Proofs.YtmlbjfklaehjnaaGreatDoor
