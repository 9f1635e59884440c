import Derived.Laws.CopyRow
import Derived.Test.YtmlbjfklaehjnaaGreatDoorQc32
set_option maxRecDepth 100000
set_option maxHeartbeats 4000000
namespace Go.Proofs.YtmlbjfklaehjnaaGreatDoor
open Go Go.RowKit Go.Maps
def cutLoK (p:Option Addr) (cap l K:Nat):Option Addr:=if cap=l then p else p.map (·.add (l * K))
section
variable {P:Program} {ops:Array Oper} {rest:List Oper} {a:Act} {w w0:World} {Q:Exit→Act→World→Prop} {dst:Option Tmp} {typ:TypeId} {pos:String} {aft:Array Edge} {gd:Option (Nat×Bool)} {S:List Nat} {rows:List (Nat×List Value×TypeId)}
theorem exec_sHiK {ty:TypeId} {x hi:Operand} {elem:TypeId} (hu:P.underlying ty=some (.slice elem)) (K:Nat) (hs:(P.info? elem).map (·.size)=some K) {p:Option Addr} {len cap:Nat} (m:Nat) {ih:Int} (hm:m≤cap) (hx:a.eval x=.slice p len cap) (hhi:a.eval hi=.int .i64 ih) (hih:ih=(m:Int)) :
  (execOp a.eval {dst:=dst,op:=.slice ty x none (some hi) none,type:=typ,pos:=pos,after:=aft,guard:=gd}).run P w=.ok (.value (.slice (cutHi p cap) m cap)) w:=by
 subst hih
 cases hq:P.info? elem with
 | none=>simp [hq] at hs
 | some q =>
  have hs1:q.size=K:=by simpa [hq] using hs
  have hsz:(sizeOf elem).run P w=.ok K w:=by simp [sizeOf,typeInfo,hq,hs1]
  have bnd:∀code,(Instr.sliceBound (.int .i64 (m:Int)) cap code).run P w=.ok m w:=by
   intro code
   rw [run_sliceBound (P:=P) w .i64 (m:Int) cap code (by omega) (by omega)]
   simp
  have hb:(Instr.sliceBounds true len cap none (some (.int .i64 (m:Int))) none).run P w=.ok (0,m,cap) w:=by
   simp [Instr.sliceBounds,bnd]
  have hr:(Instr.sliceAt ty (.slice p len cap) none (some (.int .i64 (m:Int))) none).run P w=.ok (.slice (cutHi p cap) m cap) w:=by
   simp [Instr.sliceAt,Instr.slice,run_underlying hu,hb,hsz,cutHi]
  unfold execOp
  simp only [hx,hhi,Option.map_some,Option.map_none,hr,Sem.run_bind,Sem.run_pure,Result.andThen_ok]
theorem fB {ty:TypeId} {x lo:Operand} {elem:TypeId} (hu:P.underlying ty=some (.slice elem)) (K:Nat) (hs:(P.info? elem).map (·.size)=some K) {p:Option Addr} {len cap:Nat} (l:Nat) {il:Int} (hl:l≤len) (hx:a.eval x=.slice p len cap) (hlo:a.eval lo=.int .i64 il) (hil:il=(l:Int)) :
  (execOp a.eval {dst:=dst,op:=.slice ty x (some lo) none none,type:=typ,pos:=pos,after:=aft,guard:=gd}).run P w=.ok (.value (.slice (cutLoK p cap l K) (len - l) (cap - l))) w:=by
 subst hil
 cases hq:P.info? elem with
 | none=>simp [hq] at hs
 | some q =>
  have hs1:q.size=K:=by simpa [hq] using hs
  have hsz:(sizeOf elem).run P w=.ok K w:=by simp [sizeOf,typeInfo,hq,hs1]
  have hb:(Instr.sliceBounds true len cap (some (.int .i64 (l:Int))) none none).run P w=.ok (l,len,cap) w:=by
   have:=run_sliceBound (P:=P) w .i64 (l:Int) len .sliceB (by omega) (by omega)
   simp [Instr.sliceBounds,this]
  have hr:(Instr.sliceAt ty (.slice p len cap) (some (.int .i64 (l:Int))) none none).run P w=.ok (.slice (cutLoK p cap l K) (len - l) (cap - l)) w:=by
   simp [Instr.sliceAt,Instr.slice,run_underlying hu,hb,hsz,cutLoK]
  unfold execOp
  simp only [hx,hlo,Option.map_some,Option.map_none,hr,Sem.run_bind,Sem.run_pure,Result.andThen_ok]
theorem m5 (w:World) (dT sT ty elem:TypeId) (g o dLen dCap:Nat) (a:Addr) (sLen sCap K:Nat) (cur:Array Value) (t:TypeId) (cs:List Value)
  (hu:P.underlying dT=some (.slice elem)) (hs:(P.info? elem).map (·.size)=some K)
  (hg:w.heap[g]?=some (.cells cur t (0,0))) (hle:sLen≤dLen) (hn:cs.length=sLen * K)
  (hsrc:∀j v,cs[j]?=some v→w.cell? (a.add j)=some v) (hfit:o+cs.length≤cur.size) (h1:∀v∈cs,v.oneCell'=true) :
  (Builtin.copy_ #[dT,sT] ty #[.slice (some ⟨g,o,none⟩) dLen dCap,.slice (some a) sLen sCap]).run P w =
   .ok (goInt sLen) (w.setRow g (cur.toList.take o++cs++cur.toList.drop (o+cs.length)).toArray):=by
 have hl:=run_loadCells_list (P:=P) w a cs hsrc
 have hst:=run_storeCells_at P g o t cs 0 cur w hg (by simpa using hfit) h1
 have hmin:Nat.min sLen dLen=sLen:=Nat.min_eq_left hle
 rw [hn] at hl
 cases hq:P.info? elem with
 | none=>simp [hq] at hs
 | some i =>
  have hi:i.size=K:=by simpa [hq] using hs
  simp [Builtin.copy_,run_underlying hu,Builtin.lenOf,Builtin.firstCells,sizeOf,typeInfo,hq,hi,hmin,hl,hst]
theorem me (w:World) (dT sT ty elem:TypeId) (d a:Option Addr) (dLen dCap sCap K:Nat) (hu:P.underlying dT=some (.slice elem)) (hs:(P.info? elem).map (·.size)=some K) :
  (Builtin.copy_ #[dT,sT] ty #[.slice d dLen dCap,.slice a 0 sCap]).run P w=.ok (goInt 0) w:=by
 cases hq:P.info? elem with
 | none=>simp [hq] at hs
 | some i =>
  have hl:∀(x:Addr),(loadCells x 0).run P w=.ok #[] w:=fun x=>by simpa using run_loadCells_list (P:=P) w x [] (by simp)
  cases d<;>cases a<;>simp [Builtin.copy_,run_underlying hu,Builtin.lenOf,Builtin.firstCells,sizeOf,typeInfo,hq,storeCells,hl]
end
theorem prs_one (l:List Pr):∀v∈prs l,v.oneCell'=true:=by
 intro v hv
 unfold prs at hv
 obtain ⟨p,_,hp⟩:=List.mem_flatMap.1 hv
 simp only [List.mem_cons,List.not_mem_nil,or_false] at hp
 rcases hp with rfl|rfl<;>rfl
theorem SlP.hi {w:World} {p:Option Addr} {n c:Nat} {l:List Pr} (h:SlP w (.slice p n c) l) (hn:l.length=n) (m:Nat) (hm:m≤n):SlP w (.slice (cutHi p c) m c) (l.take m):=by
 obtain ⟨p',c',he,hc,hl,hs⟩:=h
 cases he
 have h1:(l.take m).length=m:=by rw [List.length_take];omega
 refine ⟨_,_,by rw [h1],by rw [h1];omega,by rw [bE],fun h0=>?_⟩
 rw [h1] at h0
 obtain ⟨b,o,hp,hsg⟩:=hs (by omega)
 subst hp
 refine ⟨b,o,by unfold cutHi;rw [if_neg (by omega)];simp [aZ],fun j v hv=>?_⟩
 have h2:prs l=prs (l.take m)++prs (l.drop m):=by rw [←cX,List.take_append_drop]
 refine hsg j v ?_
 rw [h2,List.getElem?_append_left (List.getElem?_eq_some_iff.1 hv).1]
 exact hv
theorem SlP.lo {w:World} {p:Option Addr} {n c:Nat} {l:List Pr} (h:SlP w (.slice p n c) l) (hn:l.length=n) (m:Nat) (hm:m≤n):SlP w (.slice (cutLoK p c m 2) (n - m) (c - m)) (l.drop m):=by
 subst hn
 obtain ⟨p',c',he,hc,hl,hs⟩:=h
 cases he
 have h1:(l.drop m).length=l.length - m:=List.length_drop
 refine ⟨_,_,by rw [h1],by rw [h1];omega,by rw [bE],fun h0=>?_⟩
 rw [h1] at h0
 obtain ⟨b,o,hp,hsg⟩:=hs (by omega)
 subst hp
 refine ⟨b,o+m * 2,by unfold cutLoK;rw [if_neg (by omega)];simp [aZ],fun j v hv=>?_⟩
 have h2:prs l=prs (l.take m)++prs (l.drop m):=by rw [←cX,List.take_append_drop]
 have h3:(prs (l.take m)).length=m * 2:=by rw [bE,List.length_take];congr 1;omega
 have h4:=hsg (m * 2+j) v (by rw [h2,List.getElem?_append_right (by omega),h3,Nat.add_sub_cancel_left];exact hv)
 rw [←Nat.add_assoc] at h4
 exact h4
section
variable {ops:Array Oper} {rest:List Oper} {a:Act} {w w0:World} {Q:Exit→Act→World→Prop} {dst:Option Tmp} {typ:TypeId} {pos:String} {aft:Array Edge} {S:List Nat} {rows:List (Nat×List Value×TypeId)}
theorem wpl_cpP {d s:Operand} (i:Nat) {g:Nat} {L:List Value} (off dLen dCap m c:Nat) {pd ps:Option Addr} (ls:List Pr) (hm:Mem w0 S w rows) (hi:rows[i]?=some (g,L,44)) (hd:a.eval d=.slice pd dLen dCap) (hpd:0<m→pd=some ⟨g,off * 2,none⟩)
  (hs:a.eval s=.slice ps m c) (hv:SlP w (.slice ps m c) ls) (hml:ls.length=m) (hle:m≤dLen) (hfit:off * 2+m * 2≤L.length)
  (h:∀w',Mem w0 S w' (rows.set i (g,splice L (off * 2) (prs ls),44))→wpList Tryz.prog ops Q rest (a.put dst (.int .i64 (m:Int))) w') :
  wpList Tryz.prog ops Q ({dst:=dst,op:=.call {callee:=.builtin .copy,args:=#[d,s],argTypes:=#[28,28]},type:=typ,pos:=pos,after:=aft,guard:=none}::rest) a w:=by
 have hr:=hm.get i hi
 rcases Nat.eq_zero_or_pos m with h0|h0
 ·subst h0
  have hl:=List.length_eq_zero_iff.1 hml
  subst hl
  have hrun:=me (P:=Tryz.prog) w 28 28 typ 44 pd ps dLen dCap c 2 bw bA
  have e:splice L (off * 2) (prs [])=L:=by
   show L.take (off * 2)++([]++L.drop (off * 2+0))=L
   rw [List.nil_append,Nat.add_zero,List.take_append_drop]
  rw [e] at h
  have hset:rows.set i (g,L,44)=rows:=by
   apply List.ext_getElem?
   intro j
   rw [List.getElem?_set]
   split
   ·next hij =>
    subst hij
    split
    ·exact hi.symm
    ·next hlt=>exact absurd (List.getElem?_eq_some_iff.1 hi).1 hlt
   ·rfl
  rw [hset] at h
  refine wpList_plain rfl fun K hK=>?_
  have hh:=hK _ _ (h w hm)
  unfold Oper.wp execOp
  simp only [resolve,invoke,builtin,Sem.run_bind,Sem.run_pure,Result.andThen_ok,List.map_toArray,List.map_cons,List.map_nil,hd,hs,hrun]
  exact hh
 ·obtain ⟨b,o,hp⟩:=SlP.at hv hml h0
  subst hp
  rw [hpd h0] at hd
  have hsrc:∀j v,(prs ls)[j]?=some v→w.cell? ((⟨b,o,none⟩:Addr).add j)=some v:=by
   intro j v hj
   rw [aZ]
   obtain ⟨p',c',he,_,_,hsg⟩:=hv
   cases he
   obtain ⟨b',o',hp',hsg'⟩:=hsg (by omega)
   cases hp'
   exact hsg' j v hj
  have hlen:(prs ls).length=m * 2:=by rw [bE,hml]
  have hrun:=m5 (P:=Tryz.prog) w 28 28 typ 44 g (off * 2) dLen dCap ⟨b,o,none⟩ m c 2 L.toArray 44 (prs ls) bw bA hr hle hlen hsrc (by rw [hlen];simpa using hfit) (prs_one ls)
  have e:(L.take (off * 2)++prs ls++L.drop (off * 2+(prs ls).length))=splice L (off * 2) (prs ls):=by unfold splice;rw [List.append_assoc]
  rw [show L.toArray.toList=L from rfl,e] at hrun
  refine wpList_plain rfl fun K hK=>?_
  have hh:=hK _ _ (h _ (hm.upd i hi (Upd.setRow g w (splice L (off * 2) (prs ls)).toArray) (hr.setRow _)))
  unfold Oper.wp execOp
  simp only [resolve,invoke,builtin,Sem.run_bind,Sem.run_pure,Result.andThen_ok,List.map_toArray,List.map_cons,List.map_nil,hd,hs,hrun]
  exact hh
theorem wpl_mkP {x y:Operand} (n:Nat) {i j:Int} (hx:a.eval x=.int .i64 i) (hy:a.eval y=.int .i64 j) (hxi:i=(n:Int)) (hyj:j=(n:Int)) (hn:n≤10000) (hm:Mem w0 S w rows)
  (h:∀w' g Z,Z.length=n * 2→Mem w0 S w' ((g,Z,44)::rows)→wpList Tryz.prog ops Q rest (a.put dst (.slice (some ⟨g,0,none⟩) n n)) w') :
  wpList Tryz.prog ops Q ({dst:=dst,op:=.makeSlice 28 x y,type:=typ,pos:=pos,after:=aft,guard:=none}::rest) a w:=by
 subst hxi hyj
 refine wpList_plain rfl fun K hK=>?_
 have hi:=eC
 cases hq:Tryz.prog.info? 44 with
 | none=>simp [hq] at hi
 | some q =>
  simp only [hq,Option.map_some,Option.some.injEq,Prod.mk.injEq] at hi
  have hr:=run_makeSlice (P:=Tryz.prog) w 28 44 q _ bw hq hi.1 .i64 .i64 (n:Int) (n:Int) (by omega) (by omega) (by rw [hi.2.1];simp;omega) (by rw [hi.2.2];simp;omega) (by omega)
  rw [Int.toNat_natCast,hi.2.1] at hr
  have hh:=hK _ _ (h _ _ (madeCells (Value.agg [.string ByteArray.empty,.string ByteArray.empty].toArray).cells (n * 2)).toList (by rw [Array.length_toList,size_madeCells]) (hm.alloc _ 44))
  unfold Oper.wp execOp
  simp only [hx,hy,hr,Sem.run_bind,Sem.run_pure,Result.andThen_ok]
  exact hh
end
theorem rep_cells (L:List Value) (x y z:List Pr) (N:Nat) (hN:x.length+y.length+z.length=N) (hL:L.length=N * 2) :
  splice (splice (splice L (0 * 2) (prs x)) (x.length * 2) (prs y)) ((x.length+y.length) * 2) (prs z)=prs (x++y++z):=by
 rw [cX,cX]
 have hx:(prs x).length=x.length * 2:=bE x
 have hy:(prs y).length=y.length * 2:=bE y
 have hz:(prs z).length=z.length * 2:=bE z
 have h1:splice L (0 * 2) (prs x)=prs x++L.drop (x.length * 2):=by
  unfold splice
  rw [Nat.zero_mul,List.take_zero,List.nil_append,Nat.zero_add,hx]
 have h2:splice (prs x++L.drop (x.length * 2)) (x.length * 2) (prs y)=prs x++(prs y++L.drop (x.length * 2+y.length * 2)):=by
  unfold splice
  rw [←hx,List.take_left,←List.drop_drop,List.drop_left,hy,List.drop_drop]
 rw [h1,h2,←List.append_assoc (prs x) (prs y)]
 unfold splice
 rw [show (x.length+y.length) * 2=(prs x++prs y).length by rw [List.length_append,hx,hy];omega,List.take_left,←List.drop_drop,List.drop_left,hz,List.drop_drop,List.drop_eq_nil_of_le (by omega),List.append_nil]
theorem ke (l ins:List Pr) (p pi:Option Addr) (n c m ci f e N:Nat) (hn:l.length=n) (hi:ins.length=m) (hfe:f≤e) (hen:e≤n) (hN:f+m+(n - e)=N) (hnl:n≤1000) (hml:m≤1000) (w:World) (hv:SlP w (.slice p n c) l) (hvi:SlP w (.slice pi m ci) ins) :
  Calls Tryz.prog 61 #[.slice p n c,.int .i64 (f:Int),.int .i64 (e:Int),.slice pi m ci] w fun x w'=>∃g,x=.returned (.slice (some ⟨g,0,none⟩) N N)∧w.heap.size≤g∧Row w' g (prs (l.take f++ins++l.drop e)) 44∧Below w.heap.size w w':=by
 have HV:Hid (SlP w (.slice p n c) l):=hv
 have HI:Hid (SlP w (.slice pi m ci) ins):=hvi
 have HLN:Hid (l.length=n):=hn
 have HLI:Hid (ins.length=m):=hi
 have hnc:n≤c:=by obtain ⟨_,_,he,h9,_⟩:=hv;cases he;rw [←hn];exact h9
 have HTF:Hid ((l.take f).length=f):=by show _=_;rw [List.length_take];omega
 have HDE:Hid ((l.drop e).length=n - e):=by show _=_;rw [List.length_drop];omega
 have HNI:Hid ((n:Int) - ((e:Int) - (f:Int))+(m:Int)=(N:Int)):=by show _=_;omega
 obtain ⟨R,hR⟩:∃R,R=l.take f++ins++l.drop e:=⟨_,rfl⟩
 have HR:Hid (∀_:Unit,l.take f++ins++l.drop e=R):=fun _=>hR.symm
 rw [←hR]
 have hm:=Mem.start w
 clear hv hvi hn hi hR
 go_enter Tryz.func61,Tryz.ntmps61
 go_wp2_with (first
  | ((with_reducible refine aa (some 20) (.makeSlice 28 (.tmp 19) (.tmp 19)) ?_);go_must (refine wpl_mkP N rfl rfl (by have:=HNI.out;omega) (by have:=HNI.out;omega) (by omega) hm ?_);clear hm;intro w1 g Z hZ hm;have HZ:Hid (Z.length=N * 2):=hZ;clear hZ)
  | ((with_reducible refine aa (some 24) (.slice 28 (.tmp 22) none (some (.tmp 23)) none) ?_);go_must (refine ae (.slice (cutHi p c) f c) rfl (exec_sHiK bw 2 bA f (by omega) rfl rfl rfl) ?_))
  | ((with_reducible refine aa (some 25) (.call {callee:=.builtin .copy,args:=#[.tmp 21,.tmp 24],argTypes:=#[28,28]}) ?_);go_must (refine wpl_cpP 0 0 N N f c (l.take f) hm rfl rfl (fun _=>rfl) rfl (SlP.hi (SlV.below HV.out hm.below) HLN.out f (by omega)) HTF.out (by omega) (by rw [HZ.out];omega) ?_);clear hm;intro w2 hm;replace hm:Mem w [] w2 [(g,splice Z (0 * 2) (prs (l.take f)),44)]:=hm)
  | ((with_reducible refine aa (some 29) (.slice 28 (.tmp 27) (some (.tmp 28)) none none) ?_);go_must (refine ae (.slice (cutLoK (some ⟨g,0,none⟩) N f 2) (N - f) (N - f)) rfl (fB bw 2 bA f (by omega) rfl rfl rfl) ?_))
  | ((with_reducible refine aa (some 31) (.call {callee:=.builtin .copy,args:=#[.tmp 29,.tmp 30],argTypes:=#[28,28]}) ?_);go_must (refine wpl_cpP 0 f (N - f) (N - f) m ci ins hm rfl rfl (fun h0=>by unfold cutLoK;rw [if_neg (by omega)];simp [aZ]) rfl (SlV.below HI.out hm.below) HLI.out (by omega) (by unfold splice;simp only [List.length_append,List.length_take,List.length_drop,bE,HZ.out,HTF.out];omega) ?_);clear hm;intro w3 hm;replace hm:Mem w [] w3 [(g,splice (splice Z (0 * 2) (prs (l.take f))) (f * 2) (prs ins),44)]:=hm))
 have HB3:Hid (Below w.heap.size w w3):=hm.below
 refine au ?_
 refine ap (T:=fun W=>Mem w [] W [(g,splice (splice Z (0 * 2) (prs (l.take f))) (f * 2) (prs ins),44)]∨Mem w [] W [(g,prs R,44)]) (by kernel_rfl) hm ?_
 clear hm
 intro w4 hm
 refine aT 0 (v:=.slice (some ⟨g,0,none⟩) N N) rfl (by kernel_rfl) rfl (fun W _=>by go_simp) (Or.inl hm) ?_
 go_simp
 refine aT 1 (v:=.int .i64 ((f:Int)+(m:Int))) rfl (by kernel_rfl) rfl (fun W _=>by go_simp) (Or.inl hm) ?_
 go_simp
 refine aT 2 (v:=.slice (cutLoK (some ⟨g,0,none⟩) N (f+m) 2) (N - (f+m)) (N - (f+m))) rfl (by kernel_rfl) rfl (fun W _=>fB bw 2 bA (f+m) (by omega) rfl rfl rfl) (Or.inl hm) ?_
 go_simp
 refine aT 3 (v:=.slice p n c) rfl (by kernel_rfl) rfl (fun W _=>by go_simp) (Or.inl hm) ?_
 go_simp
 refine aT 4 (v:=.int .i64 (e:Int)) rfl (by kernel_rfl) rfl (fun W _=>by go_simp) (Or.inl hm) ?_
 go_simp
 refine aT 5 (v:=.slice (cutLoK p c e 2) (n - e) (c - e)) rfl (by kernel_rfl) rfl (fun W _=>fB bw 2 bA e (by omega) rfl rfl rfl) (Or.inl hm) ?_
 go_simp
 refine aO 6 (by kernel_rfl) rfl rfl ?_
 intro K hK
 refine wpl_cpP 0 (f+m) (N - (f+m)) (N - (f+m)) (n - e) (c - e) (l.drop e) hm rfl rfl (fun h0=>by unfold cutLoK;rw [if_neg (by omega)];simp [aZ]) rfl (SlP.lo (SlV.below HV.out hm.below) HLN.out e (by omega)) HDE.out (by omega) (by unfold splice;simp only [List.length_append,List.length_take,List.length_drop,bE,HZ.out,HTF.out,HLI.out];omega) ?_
 clear hm
 intro w5 hm
 have HRC:=rep_cells Z (l.take f) ins (l.drop e) N (by rw [HTF.out,HLI.out,HDE.out];omega) HZ.out
 rw [HTF.out,HLI.out] at HRC
 replace hm:Mem w [] w5 [(g,prs R,44)]:=by rw [←HR.out (),←HRC];exact hm
 clear HRC
 refine wpList_nil ?_
 refine hK _ _ (Or.inr hm) ?_
 clear hK K
 refine wpAnyH_done (by kernel_rfl) ?_ _
 simp only [endsIn]
 go_wp2_with fail
 have hfr:=hm.fresh _ (List.mem_cons_self ..)
 simp only [List.not_mem_nil,false_or] at hfr
 go_ret
 exact ⟨g,rfl,hfr,hm.get 0 rfl,hm.below⟩
open Go Go.RowKit Go.Maps
theorem je (p:Option Addr) (n c:Nat):Tryz.prog.built 84 [(0,.slice p n c)]=some (List.toArray [.slice p n c,.slice none 0 0,.slice none 0 0]):=by rfl
theorem built_rdr (gp q:Nat):Tryz.prog.built 78 [(0,.pointer (some ⟨gp,0,none⟩)),(1,.map (some q))]=some (List.toArray [.pointer (some ⟨gp,0,none⟩),.map (some q)]):=by rfl
theorem i0 (l ins:List Pr) (p pi:Option Addr) (n c m ci:Nat) (k:ByteArray) (hn:l.length=n) (hi:ins.length=m) (hnl:n≤1000) (hml:m≤1000) (hs:Srt l) (w:World) (hv:SlP w (.slice p n c) l) (hvi:SlP w (.slice pi m ci) ins) :
  Calls Tryz.prog 33 #[.agg (List.toArray [.slice p n c,.slice none 0 0,.slice none 0 0]),.string k,.slice pi m ci] w fun x w'=>∃g N,x=.returned (.agg (List.toArray [.slice (some ⟨g,0,none⟩) N N,.slice none 0 0,.slice none 0 0]))∧N=(lows l k++ins++highs l k).length∧w.heap.size≤g∧Row w' g (prs (lows l k++ins++highs l k)) 44∧Below w.heap.size w w':=by
 have HV:Hid (SlP w (.slice p n c) l):=hv
 have HI:Hid (SlP w (.slice pi m ci) ins):=hvi
 have HN:Hid (l.length=n):=hn
 have HLI:Hid (ins.length=m):=hi
 have HS:Hid (Srt l):=hs
 obtain ⟨P,hP⟩:∃P,P=posP l k:=⟨_,rfl⟩
 obtain ⟨hd,hhd⟩:∃x,x=hadP l k:=⟨_,rfl⟩
 have HE:Hid (∀_:Unit,posP l k=P∧hadP l k=hd):=fun _=>⟨hP.symm,hhd.symm⟩
 have hPn:P≤n:=by rw [hP,←hn];exact ly l k
 obtain ⟨R,hR⟩:∃R,R=lows l k++ins++highs l k:=⟨_,rfl⟩
 have HTD:Hid (l.take P=lows l k∧l.drop (P+if hd=true then 1 else 0)=highs l k):=by
  show _∧_
  rw [hP,hhd]
  exact ⟨iK hs,mY hs⟩
 have HPH:Hid (hd=true→P<n):=fun h=>by
  have h1:=lr (k:=k) hs
  rw [←hhd,h,←hP,hn] at h1
  have h2:=(Bool.and_eq_true _ _▸h1.symm:_∧_).1
  exact of_decide_eq_true h2
 have HRR:Hid (∀_:Unit,lows l k++ins++highs l k=R):=fun _=>hR.symm
 rw [←hR]
 have hm:=Mem.start w
 clear hv hvi hn hi hs hP hhd hR
 cases hd with
 | true =>
  have hlt:P<n:=HPH.out rfl
  obtain ⟨N,hN⟩:∃N,N=P+m+(n - (P+1)):=⟨_,rfl⟩
  have HNN:Hid (P+m+(n - (P+1))=N):=hN.symm
  have HTK:Hid (l.take P++ins++l.drop (P+1)=R):=by
   show _=_
   have h9:=HTD.out
   rw [←HRR.out (),h9.1,←h9.2]
   rfl
  have HRL:Hid (N=R.length):=by
   show _=_
   rw [←HTK.out,List.length_append,List.length_append,List.length_take,List.length_drop,HN.out,HLI.out,hN]
   omega
  clear hN HPH
  go_enter Tryz.func33,Tryz.ntmps33
  go_wp2_with (first
   | ((with_reducible refine aa (some 3) (.box 84 (.tmp 0)) ?_);refine ak [.slice p n c,.slice none 0 0,.slice none 0 0] rfl hm ?_;clear hm;intro w1 g1 hm)
   | ((with_reducible refine aa (some 6) (.alloc 84) ?_);go_must (refine af _ be hm ?_);clear hm;intro w2 g2 hm)
   | ((with_reducible refine aa (some 11) (.load 84 (.tmp 3)) ?_);obtain ⟨fs,hfs⟩:=aS;go_must (refine am 1 hm rfl rfl _ hfs rfl 3 aA rfl ?_);clear hfs fs)
   | (go_at_call 34;refine (fH l n c p k HN.out hnl HS.out _ (SlV.below HV.out hm.below)).mono ?_;rintro x w3 ⟨he,hb⟩;rw [(HE.out ()).1,(HE.out ()).2] at he;subst he;replace hm:=hm.call hb;clear hb)
   | ((with_reducible refine aa (some 21) (.load 28 (.tmp 20)) ?_);refine ai 1 0 (.slice p n c) hm rfl rfl bZ rfl ?_)
   | (go_at_call 61;refine (ke l ins p pi n c m ci P (P+1) N HN.out HLI.out (by omega) (by omega) HNN.out hnl hml _ (SlV.below HV.out hm.below) (SlV.below HI.out hm.below)).mono ?_;rintro x w4 ⟨gn,rfl,hgn,hrn,hb⟩;rw [HTK.out] at hrn;have HGN:Hid (w.heap.size≤gn):=Nat.le_trans hm.size hgn;replace hm:=hm.callNew hb hrn hgn;clear hb hrn hgn)
   | ((with_reducible refine aa (some 26) (.build 84 #[(0,.tmp 25)]) ?_);go_must (refine aB [.slice (some ⟨gn,0,none⟩) N N,.slice none 0 0,.slice none 0 0] _ rfl (je _ _ _) ?_))
   | ((with_reducible refine aa none (.store 84 (.tmp 6) (.tmp 26)) ?_);go_must (refine ag 1 [.slice (some ⟨gn,0,none⟩) N N,.slice none 0 0,.slice none 0 0] hm rfl rfl rfl 3 aA rfl rfl (by intro u hu;simp only [List.mem_cons,List.not_mem_nil,or_false] at hu;rcases hu with rfl|rfl|rfl<;>rfl) ?_);clear hm;intro w5 hm))
  obtain ⟨fs,hfs⟩:=aS
  exact ay 1 hm rfl Tryz.results33 rfl _ hfs rfl 3 aA rfl rfl ⟨gn,N,rfl,HRL.out,HGN.out,hm.get 0 rfl,hm.below⟩
 | false =>
  have hlt:P≤n:=hPn
  obtain ⟨N,hN⟩:∃N,N=P+m+(n - P):=⟨_,rfl⟩
  have HNN:Hid (P+m+(n - P)=N):=hN.symm
  have HTK:Hid (l.take P++ins++l.drop P=R):=by
   show _=_
   have h9:=HTD.out
   rw [←HRR.out (),h9.1,←h9.2]
   rfl
  have HRL:Hid (N=R.length):=by
   show _=_
   rw [←HTK.out,List.length_append,List.length_append,List.length_take,List.length_drop,HN.out,HLI.out,hN]
   omega
  clear hN HPH
  go_enter Tryz.func33,Tryz.ntmps33
  go_wp2_with (first
   | ((with_reducible refine aa (some 3) (.box 84 (.tmp 0)) ?_);refine ak [.slice p n c,.slice none 0 0,.slice none 0 0] rfl hm ?_;clear hm;intro w1 g1 hm)
   | ((with_reducible refine aa (some 6) (.alloc 84) ?_);go_must (refine af _ be hm ?_);clear hm;intro w2 g2 hm)
   | ((with_reducible refine aa (some 11) (.load 84 (.tmp 3)) ?_);obtain ⟨fs,hfs⟩:=aS;go_must (refine am 1 hm rfl rfl _ hfs rfl 3 aA rfl ?_);clear hfs fs)
   | (go_at_call 34;refine (fH l n c p k HN.out hnl HS.out _ (SlV.below HV.out hm.below)).mono ?_;rintro x w3 ⟨he,hb⟩;rw [(HE.out ()).1,(HE.out ()).2] at he;subst he;replace hm:=hm.call hb;clear hb)
   | ((with_reducible refine aa (some 21) (.load 28 (.tmp 20)) ?_);refine ai 1 0 (.slice p n c) hm rfl rfl bZ rfl ?_)
   | (go_at_call 61;refine (ke l ins p pi n c m ci P P N HN.out HLI.out (by omega) (by omega) HNN.out hnl hml _ (SlV.below HV.out hm.below) (SlV.below HI.out hm.below)).mono ?_;rintro x w4 ⟨gn,rfl,hgn,hrn,hb⟩;rw [HTK.out] at hrn;have HGN:Hid (w.heap.size≤gn):=Nat.le_trans hm.size hgn;replace hm:=hm.callNew hb hrn hgn;clear hb hrn hgn)
   | ((with_reducible refine aa (some 26) (.build 84 #[(0,.tmp 25)]) ?_);go_must (refine aB [.slice (some ⟨gn,0,none⟩) N N,.slice none 0 0,.slice none 0 0] _ rfl (je _ _ _) ?_))
   | ((with_reducible refine aa none (.store 84 (.tmp 6) (.tmp 26)) ?_);go_must (refine ag 1 [.slice (some ⟨gn,0,none⟩) N N,.slice none 0 0,.slice none 0 0] hm rfl rfl rfl 3 aA rfl rfl (by intro u hu;simp only [List.mem_cons,List.not_mem_nil,or_false] at hu;rcases hu with rfl|rfl|rfl<;>rfl) ?_);clear hm;intro w5 hm))
  obtain ⟨fs,hfs⟩:=aS
  exact ay 1 hm rfl Tryz.results33 rfl _ hfs rfl 3 aA rfl rfl ⟨gn,N,rfl,HRL.out,HGN.out,hm.get 0 rfl,hm.below⟩
theorem key_u32:Keyed Tryz.prog 25:=int_keyed un_u32
theorem un_seen:Tryz.prog.underlying 76=some (.map 25 103):=Tryz.underlying76
theorem zero_emp:∀w,(zeroValue 103).run Tryz.prog w=.ok (.agg (List.toArray ([]:List Value))) w:=(zero_of_info (show (Tryz.prog.info? 103).map (fun i=>(i.zero,i.size))=some (some (.agg (List.toArray ([]:List Value))),0) by kernel_rfl)).1
theorem sz_emp:(Tryz.prog.info? 103).map (·.size)=some 0:=by kernel_rfl
theorem key_mkU (i:Nat) (h:i<4294967296):keyOf Tryz.prog 25 (.int .u32 (i:Int))=some (.int .u32 (i:Int)):=keyOf_int_mk un_u32 (WalkArith.wf_u32 (by omega))
theorem seen_none {W:World} {m:Nat} (h:W.heap[m]?=some (.map #[] 0)):W.ownsMap Tryz.prog 25 rdV m 0 (.map []):=⟨#[],0,h,⟨by simp,MapKept.stamped_empty 0,by simp⟩,Nat.le_refl _,rfl⟩
theorem run_lookS {w:World} {q:Nat} (h:w.heap[q]?=some (.map #[] 0)) (i:Nat) (hi:i<4294967296) :
  (Instr.lookup 76 (.map (some q)) (.int .u32 (i:Int)) true).run Tryz.prog w=.ok (.tuple #[.agg (List.toArray ([]:List Value)),.bool false]) w:=by
 obtain ⟨v,ps,hr,hv⟩:=(seen_none h).look_ok key_u32 un_seen (zero_emp w) (show rdV (.agg (List.toArray ([]:List Value)))=some (.held (.agg (List.toArray ([]:List Value))),[]) from rfl) (key_mkU i hi)
 rw [hr]
 have h1:=eZ hv
 have h2:Maps.has (.map []:DataW Value) (.int .u32 (i:Int))=false:=by simp [Maps.has]
 rw [atKey_of_not_has h2] at h1
 simp only [DataW.held.injEq] at h1
 subst h1
 rw [h2]
theorem run_putS {w:World} {q:Nat} (h:w.heap[q]?=some (.map #[] 0)) (i:Nat) (hi:i<4294967296) :
  ∃w',(Instr.mapUpdate 76 (.map (some q)) (.int .u32 (i:Int)) (.agg (List.toArray ([]:List Value)))).run Tryz.prog w=.ok () w'∧Upd q w w':=by
 obtain ⟨w',hr,ho2,hg⟩:=(seen_none h).update key_u32 un_seen (by unfold maxLen;omega) (key_mkU i hi) (d:=.held (.agg (List.toArray ([]:List Value)))) (ps:=[]) (val:=.agg (List.toArray ([]:List Value))) rfl
 exact ⟨w',hr,⟨hg.os,hg.tape,hg.output,hg.size,fun k hk hne=>hg.block k hk (by simpa using hne)⟩⟩
open Go Go.RowKit Go.Maps
section
variable {P:Program} {ops:Array Oper} {rest:List Oper} {a:Act} {w w0:World} {Q:Exit→Act→World→Prop} {dst:Option Tmp} {typ:TypeId} {pos:String} {aft:Array Edge} {gd:Option (Nat×Bool)} {S:List Nat} {rows:List (Nat×List Value×TypeId)}
theorem ret_tct {fn:Func} {R:Ending→World→Prop} {s p u:Tmp} {ty:TypeId} (i:Nat) {g:Nat} {l:List Value} {t:TypeId} (v v2:Value) (hm:Mem w0 S w rows) (hi:rows[i]?=some (g,l,t))
  (hres:fn.results=#[.tmp s,.cell p ty,.tmp u]) (hs0:a.tmps.getD s undef=v2) (hp:a.tmps.getD p undef=.pointer (some ⟨g,0,none⟩)) (hv:a.tmps.getD u undef=v) (d:TypeDesc) (hu:P.underlying ty=some d) (hd:(match d with | .struct _ | .array _ _=>true|_=>false)=true)
  (n:Nat) (hs:(P.info? ty).map (·.size)=some n) (hn:l.length=n) (hd0:a.defers=[]) (hR:R (.returned (.tuple #[v2,.agg l.toArray,v])) w):bodyPost P fn R .ret a w:=by
 refine bodyPost_ret ?_ hd0 hR
 have hl:=run_loadVar_row (P:=P) w g t ty l.toArray (0,0) d (hm.get i hi) hu hd (by rw [hs];simp [hn])
 have hp':a.tmps[p]?.getD undef=.pointer (some ⟨g,0,none⟩):=by simpa using hp
 have hv':a.tmps[u]?.getD undef=v:=by simpa using hv
 have hs':a.tmps[s]?.getD undef=v2:=by simpa using hs0
 simp [results,hres,hp',hv',hs',asAddr,hl]
theorem exec_lookT {x y:Operand} {q:Nat} (i:Nat) (hi:i<4294967296) (h:w.heap[q]?=some (.map #[] 0)) (hx:a.eval x=.map (some q)) (hy:a.eval y=.int .u32 (i:Int)) :
  (execOp a.eval {dst:=dst,op:=.lookup 76 x y true,type:=typ,pos:=pos,after:=aft,guard:=gd}).run Tryz.prog w=.ok (.value (.tuple #[.agg (List.toArray ([]:List Value)),.bool false])) w:=by
 unfold execOp
 simp only [hx,hy,run_lookS h i hi,Sem.run_bind,Sem.run_pure,Result.andThen_ok]
theorem wpl_putS {x y z:Operand} {q:Nat} (i:Nat) (hi:i<4294967296) (h:w.heap[q]?=some (.map #[] 0)) (hx:a.eval x=.map (some q)) (hy:a.eval y=.int .u32 (i:Int)) (hz:a.eval z=.agg (List.toArray ([]:List Value)))
  (hh:∀w',Upd q w w'→wpList Tryz.prog ops Q rest a w') :
  wpList Tryz.prog ops Q ({dst:=none,op:=.mapUpdate 76 x y z,type:=typ,pos:=pos,after:=aft,guard:=none}::rest) a w:=by
 obtain ⟨w',hr,hu⟩:=run_putS h i hi
 refine wpList_plain rfl fun K hK=>?_
 have h9:=hK _ _ (hh w' hu)
 unfold Oper.wp execOp
 simp only [hx,hy,hz,hr,Sem.run_bind,Sem.run_pure,Result.andThen_ok]
 exact h9
end
theorem built_emp:Tryz.prog.built 103 []=some (List.toArray ([]:List Value)):=by rfl
theorem Mem.upds {w0 w:World} {S:List Nat} {rows:List (Nat×List Value×TypeId)} (hm:Mem w0 S w rows):UpdS S w0 w:=⟨hm.os,hm.tape,hm.output,hm.size,hm.block⟩
/-- Pairs stand as they did where a block without texts turned. -/
theorem SlP.turned {w w':World} {v:Value} {l:List Pr} {g:Nat} {L:List Value} {t:TypeId} (h:SlP w v l) (hr:Row w g L t) (hL:∀x∈L,∀s,x≠.string s) (hu:Upd g w w'):SlP w' v l:=by
 obtain ⟨p,c,he,hc,hl,hs⟩:=h
 refine ⟨p,c,he,hc,hl,fun h0=>?_⟩
 obtain ⟨b,o,hp,hsg⟩:=hs h0
 refine ⟨b,o,hp,?_⟩
 have hne:b≠g:=fun e=>by
  have h1:=(prs_at l 0 h0).1
  have h2:=hsg 0 _ h1
  rw [e,hr.cell] at h2
  exact hL _ (List.mem_of_getElem? h2) _ rfl
 intro j x hj
 have h3:=hsg j x hj
 rw [World.cell?_of_block (w:=w) (a:=⟨b,o+j,none⟩) (hu.block b (block_lt_of_cell h3) hne)]
 exact h3
theorem bN (p:Option Addr) (n c:Nat):∀x∈([.slice p n c,.slice none 0 0,.slice none 0 0]:List Value),∀s,x≠.string s:=by
 intro x hx s
 simp only [List.mem_cons,List.not_mem_nil,or_false] at hx
 rcases hx with rfl|rfl|rfl<;>exact fun h=>by cases h
theorem kind_leaf (l:List Pr):kindOf (leafB l)=1:=by
 unfold kindOf leafB
 rw [if_pos ⟨by simp,by simp⟩]
 rfl
theorem bT (gp:Nat) (w:World):Calls Tryz.prog 30 #[.pointer (some ⟨gp,0,none⟩)] w fun e w'=>∃q,e=.returned (.agg (List.toArray [.pointer (some ⟨gp,0,none⟩),.map (some q)]))∧w'.heap[q]?=some (.map #[] 0)∧w.heap.size≤q∧Below w.heap.size w w':=by
 have hm:=Mem.start w
 go_enter Tryz.func30,Tryz.ntmps30
 go_wp2_with (first
  | ((with_reducible refine aa (some 2) (.alloc 78) ?_);go_must (refine af _ jU hm ?_);clear hm;intro w1 g2 hm)
  | ((with_reducible refine aa (some 4) (.makeMap 76 none) ?_);refine wpl_mkmap hm ?_;clear hm;intro w2 q hq0 hqge hm;have HQ:Hid (w2.heap[q]?=some (.map #[] 0)∧w.heap.size≤q):=⟨hq0,hqge⟩;clear hq0 hqge)
  | ((with_reducible refine aa (some 5) (.build 78 #[(0,.tmp 3),(1,.tmp 4)]) ?_);go_must (refine aB [.pointer (some ⟨gp,0,none⟩),.map (some q)] _ rfl (built_rdr _ _) ?_))
  | ((with_reducible refine aa none (.store 78 (.tmp 2) (.tmp 5)) ?_);go_must (refine bn 0 [.pointer (some ⟨gp,0,none⟩),.map (some q)] hm rfl rfl rfl 2 dK rfl rfl (by intro u hu;simp only [List.mem_cons,List.not_mem_nil,or_false] at hu;rcases hu with rfl|rfl<;>rfl) ?_);have HR2:Hid (Row w2 g2 _ 78):=hm.get 0 rfl;clear hm;intro w3 hu hm;have HU:Hid (Upd g2 w2 w3):=hu;clear hu))
 have hq3:w3.heap[q]?=some (.map #[] 0):=by
  rw [HU.out.block q (Array.getElem?_eq_some_iff.1 HQ.out.1).1 (fun e=>ax HR2.out HQ.out.1 e.symm)]
  exact HQ.out.1
 obtain ⟨fs,hfs⟩:=fq
 exact ay 0 hm rfl Tryz.results30 rfl _ hfs rfl 2 dK rfl rfl ⟨q,rfl,hq3,HQ.out.2,hm.below⟩
theorem read_b {w0:World} {gp g mb:Nat} {kv:Value} {kP:List Int} {pg k:Nat} {U:Nat→Option (Option (List Int))} {L:Nat→Option (List Int)} {root:Int} {mt:ByteArray} (hpg:pg≤400) (i:Nat) (b:List Int) (hu:U i=some (some b)) (w:World) (h:PgS w0 w gp g mb kv kP pg k U L root mt) :
  Calls Tryz.prog 92 #[.pointer (some ⟨gp,0,none⟩),.int .u32 (i:Int)] w fun e w'=>∃v',e=.returned (.tuple #[v',.int .i64 0])∧SlOld w' v' b∧Bytes b∧i<pg∧Below w.heap.size w w':=by
 obtain ⟨ml,mu,P,d,h⟩:=h
 have h1:=h.u i
 rw [hu] at h1
 cases hz:P.used i with
 | none=>rw [hz] at h1;exact h1.elim
 | some s =>
  rw [hz] at h1
  have h2:Stands kP d pg i s b:=h1
  refine (pread_any gp g mb kv ml mu P d pg i s h.n hpg h2.lt h.off h.on.off h2.s0 hz w h.e.t h.e.q h.at_).mono ?_
  rintro e w' ⟨v',he,hv,hb⟩
  have ho:=okP_page kP (i:Int) (s:Int) b ⟨by omega,by have:=h2.s1;omega⟩ h2.bytes h2.len
  rw [h2.page,h.key] at he hv
  have e1:codeP kP (i:Int) (s:Int) (pageOf kP (i:Int) (s:Int) b)=0:=by
   unfold codeP
   rw [ho.1]
   rfl
  rw [e1] at he
  rw [ho.2] at hv
  exact ⟨v',he,hv,h2.bytes,h2.lt,hb⟩
theorem iQ {w0:World} {gp g mb:Nat} {kv:Value} {kP:List Int} {pg k:Nat} {U:Nat→Option (Option (List Int))} {L:Nat→Option (List Int)} {root:Int} {mt:ByteArray} (hpg:pg≤400) (q r:Nat) (l:List Pr) (hU:U r=some (some (leafB l))) (hr32:r<4294967296) (hlc:leafCode l=0) (w1 w:World) (hS:PgS w0 w1 gp g mb kv kP pg k U L root mt) (hb:Below w1.heap.size w1 w) (hq:w1.heap.size≤q) (hmap:w.heap[q]?=some (.map #[] 0)) :
  Calls Tryz.prog 55 #[.agg (List.toArray [.pointer (some ⟨gp,0,none⟩),.map (some q)]),.int .u32 (r:Int)] w fun e w'=>∃p c,e=.returned (.tuple #[.agg (List.toArray [.slice p l.length c,.slice none 0 0,.slice none 0 0]),.int .i64 0])∧SlP w' (.slice p l.length c) l∧UpdS [q] w w':=by
 have HS:Hid (PgS w0 w1 gp g mb kv kP pg k U L root mt):=hS
 have HB:Hid (Below w1.heap.size w1 w∧w1.heap.size≤q):=⟨hb,hq⟩
 have HM:Hid (w.heap[q]?=some (.map #[] 0)):=hmap
 have HQL:Hid (q<w.heap.size):=(Array.getElem?_eq_some_iff.1 hmap).1
 have HUU:Hid (U r=some (some (leafB l))):=hU
 have HLC:Hid (leafCode l=0):=hlc
 have hm:=Mem.start w
 clear hS hb hq hmap hU hlc
 go_enter Tryz.func55,Tryz.ntmps55
 go_wp2_with (first
  | ((with_reducible refine aa (some 2) (.box 78 (.tmp 0)) ?_);refine ak [.pointer (some ⟨gp,0,none⟩),.map (some q)] rfl hm ?_;clear hm;intro w2 g2 hm)
  | ((with_reducible refine aa (some 4) (.alloc 84) ?_);go_must (refine af _ be hm ?_);clear hm;intro w3 g4 hm)
  | ((with_reducible refine aa (some 19) (.load 76 (.tmp 18)) ?_);refine ai 1 1 (.map (some q)) hm rfl rfl ag_seen rfl ?_)
  | ((with_reducible refine aa (some 21) (.lookup 76 (.tmp 19) (.tmp 20) true) ?_);go_must (refine ae (.tuple #[.agg (List.toArray ([]:List Value)),.bool false]) rfl (exec_lookT r hr32 ((hm.block q HQL.out (by simp)).trans HM.out) rfl rfl) ?_))
  | ((with_reducible refine aa (some 6) (.alloc 103) ?_);go_must (refine af _ zero_emp hm ?_);clear hm;intro w4 g6 hm)
  | ((with_reducible refine aa none (.store 103 (.tmp 6) (.tmp 22)) ?_);go_must (refine ag 0 ([]:List Value) hm rfl rfl rfl 0 sz_emp rfl rfl (by intro u hu;cases hu) ?_);clear hm;intro w5 hm;replace hm:Mem w [] w5 [(g6,[],103),(g4,[.slice none 0 0,.slice none 0 0,.slice none 0 0],84),(g2,[.pointer (some ⟨gp,0,none⟩),.map (some q)],78)]:=hm)
  | ((with_reducible refine aa (some 27) (.load 76 (.tmp 26)) ?_);refine ai 2 1 (.map (some q)) hm rfl rfl ag_seen rfl ?_)
  | ((with_reducible refine aa (some 29) (.build 103 #[]) ?_);go_must (refine aB ([]:List Value) _ rfl built_emp ?_))
  | ((with_reducible refine aa none (.mapUpdate 76 (.tmp 27) (.tmp 28) (.tmp 29)) ?_);go_must (refine wpl_putS r hr32 ((hm.block q HQL.out (by simp)).trans HM.out) rfl rfl rfl ?_);intro w6 hu;replace hm:=(Mem.but (S:=[q]) hm).updO ((hm.block q HQL.out (by simp)).trans HM.out) (Or.inl (by simp)) hu;clear hu)
  | ((with_reducible refine aa (some 32) (.load 24 (.tmp 31)) ?_);refine ai 2 0 (.pointer (some ⟨gp,0,none⟩)) hm rfl rfl ag_pgp rfl ?_)
  | (go_at_call 92;refine (read_b hpg r (leafB l) HUU.out _ (PgS.below HS.out (dw HB.out.1 hm.upds (fun x hx=>by simp only [List.mem_cons,List.not_mem_nil,or_false] at hx;rw [hx];exact HB.out.2)))).mono ?_;rintro e w7 ⟨vb,rfl,hvb,hbb,hrp,hb7⟩;obtain ⟨pb,cb,hv9,hc9,hs9⟩:=hvb;subst hv9;have HVB:Hid (SlOld w7 (.slice pb (leafB l).length cb) (leafB l)∧Bytes (leafB l)):=⟨⟨pb,cb,rfl,hc9,hs9⟩,hbb⟩;replace hm:=hm.call hb7;clear hb7 hbb hc9 hs9)
  | (go_at_call 93;refine (gY (leafB l) _ _ HVB.out.1).mono ?_;rintro e w8 ⟨he,hw⟩;rw [kind_leaf] at he;subst he;replace hw:=hw.symm;subst hw)
  | (go_at_call 94;refine (readLeaf_any (leafB l) _ HVB.out.2 _ HVB.out.1).mono ?_;rintro e w9 ⟨vl,he,hvl,hb9⟩;rw [(rl_back HLC.out).1,if_pos rfl] at he;rw [(rl_back HLC.out).2] at hvl;obtain ⟨pl,cl,hv9,hc9⟩:=SlV.len hvl;subst hv9;subst he;have HVL:Hid (SlP w9 (.slice pl l.length cl) l):=hvl;replace hm:=hm.call hb9;clear hb9 hvl hc9)
  | ((with_reducible refine aa (some 50) (.build 84 #[(0,.tmp 49)]) ?_);go_must (refine aB [.slice pl l.length cl,.slice none 0 0,.slice none 0 0] _ rfl (je _ _ _) ?_))
  | ((with_reducible refine aa none (.store 84 (.tmp 4) (.tmp 50)) ?_);go_must (refine bn 1 [.slice pl l.length cl,.slice none 0 0,.slice none 0 0] hm rfl rfl rfl 3 aA rfl rfl (by intro u hu;simp only [List.mem_cons,List.not_mem_nil,or_false] at hu;rcases hu with rfl|rfl|rfl<;>rfl) ?_);have HR4:Hid (Row w9 g4 [.slice none 0 0,.slice none 0 0,.slice none 0 0] 84):=hm.get 1 rfl;clear hm;intro wa hu hm;have HVA:Hid (SlP wa (.slice pl l.length cl) l):=SlP.turned HVL.out HR4.out (bN none 0 0) hu;clear hu))
 obtain ⟨fs,hfs⟩:=aS
 exact ret_ct 1 _ hm rfl Tryz.results55 rfl rfl _ hfs rfl 3 aA rfl rfl ⟨pl,cl,rfl,HVA.out,hm.upds⟩
open Go Go.RowKit Go.Maps
theorem Mem.onlyQ {w0 w w':World} {rows:List (Nat×List Value×TypeId)} {q:Nat} (hm:Mem w0 [] w rows) (hu:UpdS [q] w w') (hq:q<w0.heap.size):Mem w0 [q] w' rows:=by
 refine ⟨hu.os.trans hm.os,hu.tape.trans hm.tape,hu.output.trans hm.output,Nat.le_trans hm.size hu.size,fun k hk hn=>(hu.block k (Nat.lt_of_lt_of_le hk hm.size) hn).trans (hm.block k hk (by simp)),fun r hr=>?_,hm.nodup,fun r hr=>(hm.fresh r hr).elim (fun e=>absurd e (by simp)) Or.inr⟩
 refine hu.row (hm.row r hr) (fun e=>?_)
 have h1:=(hm.fresh r hr).elim (fun e=>absurd e (by simp)) id
 simp only [List.mem_cons,List.not_mem_nil,or_false] at e
 omega
theorem dP {w0:World} {gp g mb:Nat} {kv:Value} {kP:List Int} {pg k:Nat} {U:Nat→Option (Option (List Int))} {L:Nat→Option (List Int)} {root:Int} {mt:ByteArray} (key:ByteArray) (hpg:pg≤400) (q r:Nat) (l:List Pr) (hU:U r=some (some (leafB l))) (hr32:r<4294967296) (hlc:leafCode l=0) (w1 w:World) (hS:PgS w0 w1 gp g mb kv kP pg k U L root mt) (hb:Below w1.heap.size w1 w) (hq:w1.heap.size≤q) (hmap:w.heap[q]?=some (.map #[] 0)) :
  Calls Tryz.prog 31 #[.agg (List.toArray [.pointer (some ⟨gp,0,none⟩),.map (some q)]),.int .u32 (r:Int),.string key] w fun e w'=>∃p c,e=.returned (.tuple #[.slice none 0 0,.agg (List.toArray [.slice p l.length c,.slice none 0 0,.slice none 0 0]),.int .i64 0])∧SlP w' (.slice p l.length c) l∧UpdS [q] w w':=by
 have HS:Hid (PgS w0 w1 gp g mb kv kP pg k U L root mt):=hS
 have HB:Hid (Below w1.heap.size w1 w∧w1.heap.size≤q):=⟨hb,hq⟩
 have HM:Hid (w.heap[q]?=some (.map #[] 0)):=hmap
 have HQL:Hid (q<w.heap.size):=(Array.getElem?_eq_some_iff.1 hmap).1
 have HUU:Hid (U r=some (some (leafB l))):=hU
 have HLC:Hid (leafCode l=0):=hlc
 have hm:=Mem.start w
 clear hS hb hq hmap hU hlc
 go_enter Tryz.func31,Tryz.ntmps31
 go_wp2_with (first
  | ((with_reducible refine aa (some 3) (.box 78 (.tmp 0)) ?_);refine ak [.pointer (some ⟨gp,0,none⟩),.map (some q)] rfl hm ?_;clear hm;intro w2 g3 hm)
  | ((with_reducible refine aa (some 7) (.alloc 84) ?_);go_must (refine af _ be hm ?_);clear hm;intro w3 g7 hm)
  | ((with_reducible refine aa (some 14) (.load 78 (.tmp 3)) ?_);obtain ⟨fs,hfs⟩:=fq;go_must (refine am 1 hm rfl rfl _ hfs rfl 2 dK rfl ?_);clear hfs fs)
  | (go_at_call 55;refine (iQ hpg q r l HUU.out hr32 HLC.out w1 _ HS.out (HB.out.1.trans (hm.below.mono HB.out.1.size)) HB.out.2 ((hm.block q HQL.out (by simp)).trans HM.out)).mono ?_;rintro e w4 ⟨pl,cl,rfl,hvl,hu⟩;have HVL:Hid (SlP w4 (.slice pl l.length cl) l):=hvl;replace hm:=Mem.onlyQ hm hu HQL.out;clear hu hvl)
  | ((with_reducible refine aa (some 10) (.alloc 84) ?_);go_must (refine az _ be hm ?_);clear hm;intro w5 g10 hb5 hm;replace HVL:Hid (SlP w5 (.slice pl l.length cl) l):=SlV.below HVL.out hb5;clear hb5)
  | ((with_reducible refine aa none (.store 84 (.tmp 10) (.tmp 17)) ?_);go_must (refine bn 0 [.slice pl l.length cl,.slice none 0 0,.slice none 0 0] hm rfl rfl rfl 3 aA rfl rfl (by intro u hu;simp only [List.mem_cons,List.not_mem_nil,or_false] at hu;rcases hu with rfl|rfl|rfl<;>rfl) ?_);have HRX:Hid (Row _ _ [.slice none 0 0,.slice none 0 0,.slice none 0 0] 84):=hm.get 0 rfl;clear hm;intro w6 hu hm;replace HVL:Hid (SlP w6 (.slice pl l.length cl) l):=SlP.turned HVL.out HRX.out (bN none 0 0) hu;clear hu HRX))
 replace hm:Mem w [q] w6 [(g10,[.slice pl l.length cl,.slice none 0 0,.slice none 0 0],84),(g7,[.slice none 0 0,.slice none 0 0,.slice none 0 0],84),(g3,[.pointer (some ⟨gp,0,none⟩),.map (some q)],78)]:=hm
 refine wp_loop_rounds 1 ?_
 rw [rounds_succ]
 go_wp2_with (first
  | ((with_reducible refine aM (some 22) (.load 84 (.tmp 10)) (some (2,true)) ?_);obtain ⟨fs,hfs⟩:=aS;go_must (refine ae (.agg (List.toArray [.slice pl l.length cl,.slice none 0 0,.slice none 0 0])) rfl (ao 0 [.slice pl l.length cl,.slice none 0 0,.slice none 0 0] (hm.get 0 rfl) rfl _ hfs rfl 3 aA (Nat.le_refl 3) rfl) ?_);clear hfs fs)
  | (go_at_call 56;refine (ea _ _ _ _).mono ?_;rintro e w7 ⟨rfl,hb⟩;replace hm:=hm.call hb;replace HVL:Hid (SlP w7 (.slice pl l.length cl) l):=SlV.below HVL.out hb;clear hb))
 refine au ?_
 refine cL (T:=fun W=>Mem w [q] W [(g10,[.slice pl l.length cl,.slice none 0 0,.slice none 0 0],84),(g7,[.slice none 0 0,.slice none 0 0,.slice none 0 0],84),(g3,[.pointer (some ⟨gp,0,none⟩),.map (some q)],78)]∨Mem w [q] W [(g10,[.slice pl l.length cl,.slice none 0 0,.slice none 0 0],84),(g7,[.slice pl l.length cl,.slice none 0 0,.slice none 0 0],84),(g3,[.pointer (some ⟨gp,0,none⟩),.map (some q)],78)]) (by kernel_rfl) hm ?_
 clear hm
 intro w8 hb8 hm
 replace HVL:Hid (SlP w8 (.slice pl l.length cl) l):=SlV.below HVL.out hb8
 clear hb8
 obtain ⟨fs,hfs⟩:=aS
 refine aT 0 (v:=.slice none 0 0) rfl (by kernel_rfl) rfl (fun W _=>by go_simp) (Or.inl hm) ?_
 go_simp
 refine aT 1 (v:=.agg (List.toArray [.slice pl l.length cl,.slice none 0 0,.slice none 0 0])) rfl (by kernel_rfl) rfl (fun W hW=>ao 0 [.slice pl l.length cl,.slice none 0 0,.slice none 0 0] (hW.elim (fun h=>h.get 0 rfl) (fun h=>h.get 0 rfl)) rfl _ hfs rfl 3 aA (Nat.le_refl 3) rfl) (Or.inl hm) ?_
 go_simp
 refine aT 2 (v:=.slice none 0 0) rfl (by kernel_rfl) rfl (fun W _=>by go_simp) (Or.inl hm) ?_
 go_simp
 refine aO 3 (by kernel_rfl) rfl rfl ?_
 intro K hK
 refine bn 1 [.slice pl l.length cl,.slice none 0 0,.slice none 0 0] hm rfl rfl rfl 3 aA rfl rfl (by intro u hu;simp only [List.mem_cons,List.not_mem_nil,or_false] at hu;rcases hu with rfl|rfl|rfl<;>rfl) ?_
 have HRX:Hid (Row _ _ [.slice none 0 0,.slice none 0 0,.slice none 0 0] 84):=hm.get 1 rfl
 clear hm
 intro w9 hu hm
 replace HVL:Hid (SlP w9 (.slice pl l.length cl) l):=SlP.turned HVL.out HRX.out (bN none 0 0) hu
 clear hu HRX
 refine wpList_nil ?_
 refine hK _ _ (Or.inr hm) ?_
 clear hK K
 refine aT 4 (v:=.int .i64 0) rfl (by kernel_rfl) rfl (fun W _=>by go_simp) (Or.inr hm) ?_
 go_simp
 refine wpAnyH_done (by kernel_rfl) ?_ _
 simp only [endsIn]
 go_wp2_with fail
 exact ret_tct 1 _ _ hm rfl Tryz.results31 rfl rfl rfl _ hfs rfl 3 aA rfl rfl ⟨pl,cl,rfl,HVL.out,hm.upds⟩
end Go.Proofs.YtmlbjfklaehjnaaGreatDoor
