import Derived.Deep.LoopGhost
import Derived.Test.YtcibhfcjbokdlaaGreatDoorQt10
import Derived.Test.YtcibhfcjbokdlaaGreatDoorQt00
set_option maxRecDepth 100000
set_option maxHeartbeats 4000000
namespace Go.Proofs.YtcibhfcjbokdlaaGreatDoor
open Go Go.RowKit Go.Maps
theorem built_term (k n:Int) (p:Option Addr) (m c:Nat):Tryz.prog.built 24 [(0,.int .i64 k),(1,.int .i64 n),(2,.slice p m c)]=some [Value.int .i64 k,.int .i64 n,.slice p m c].toArray:=by kernel_rfl
theorem WebN.sh5 {b0:Nat} {w:World} {g m bs L cs:Nat} {TM T:List Tm} {AL:List (Value×List Nat)} {va:Value} (h:WebN b0 w g m TM T AL (.slice (some ⟨bs,0,none⟩) L cs) va) {i:Nat} {t:Tm} (ht:T[i]?=some t) (j:Nat) (v:Value) (hv:(shT T t)[j]?=some v):w.cell? ⟨bs,i * 5+j,none⟩=some v:=by
 have hc:=h.os.cells (g:=bs) rfl (i * 5+j) v (by
  have key:∀(l:List Tm) (i:Nat),l[i]?=some t→(l.flatMap (shT T))[i * 5+j]?=some v:=by
   intro l
   induction l with
   | nil=>intro i hi;simp at hi
   | cons x l ih =>
    intro i hi
    rw [List.flatMap_cons]
    cases i with
    | zero =>
     simp only [List.getElem?_cons_zero,Option.some.injEq] at hi
     subst hi
     rw [Nat.zero_mul,Nat.zero_add,List.getElem?_append_left (List.getElem?_eq_some_iff.1 hv).1]
     exact hv
    | succ i =>
     rw [List.getElem?_append_right (by rw [ci];omega),ci,show (i+1) * 5+j - 5=i * 5+j by omega]
     exact ih i (by simpa using hi)
  exact key T i ht)
 rw [aQ,Nat.zero_add] at hc
 exact hc
section
variable {ops:Array Oper} {rest:List Oper} {a:Act} {w:World} {Q:Exit→Act→World→Prop} {dst:Option Tmp} {typ:TypeId} {pos:String} {aft:Array Edge} {gd:Option (Nat×Bool)}
theorem exec_ldSh {x:Operand} {b o:Nat} {l:List Value} (hl:l.length=5) (hx:a.eval x=.pointer (some ⟨b,o,none⟩)) (hc:∀j u,l[j]?=some u→w.cell? ⟨b,o+j,none⟩=some u) :
  (execOp a.eval {dst:=dst,op:=.load 65 x,type:=typ,pos:=pos,after:=aft,guard:=gd}).run Tryz.prog w=.ok (.value (.agg l.toArray)) w:=by
 obtain ⟨fs,hfs⟩:=un_shape
 unfold execOp
 simp only [hx,Instr.loadAt,Instr.sureAddr,Sem.run_bind,Sem.run_pure,Result.andThen_ok,cf w b o 5 65 _ (.struct fs) hc hfs rfl cC hl]
theorem wpl_makeN {x y:Operand} (n:Nat) {j k:Int} (hx:a.eval x=.int .i64 j) (hj:j=(n:Int)) (hy:a.eval y=.int .i64 k) (hk:k=(n:Int)) (hn:n≤10000) {base:Nat} (hb:base≤w.heap.size)
  (h:∀w' g cs,cs.length=n * 3→w'.ownsRow base 24 3 (.slice (some ⟨g,0,none⟩) n n) n cs→Below w.heap.size w w'→w.heap.size≤g→wpList Tryz.prog ops Q rest (a.put dst (.slice (some ⟨g,0,none⟩) n n)) w') :
  wpList Tryz.prog ops Q ({dst:=dst,op:=.makeSlice 22 x y,type:=typ,pos:=pos,after:=aft,guard:=none}::rest) a w:=by
 subst hj hk
 refine wpList_plain rfl fun K hK=>?_
 cases hq:Tryz.prog.info? 24 with
 | none=>have:=bI;simp [hq] at this
 | some q =>
  have hi:=bI
  simp only [hq,Option.map_some,Option.some.injEq,Prod.mk.injEq] at hi
  obtain ⟨h0,h1,h2⟩:=hi
  obtain ⟨w',hr,ho,hg⟩:=run_make_full (P:=Tryz.prog) (w:=w) base 22 24 q _ 3 aZ hq h0 h1 .i64 .i64 n (by rw [h2];omega) (by unfold maxLen;omega) hb
  have hh:=hK _ _ (h w' _ _ ho.1 ho (df hg) (Nat.le_refl _))
  unfold Oper.wp execOp
  simp only [hx,hy,hr,Sem.run_bind,Sem.run_pure,Result.andThen_ok]
  exact hh
/-- One element of an own slice is set. -/
theorem wpl_stAt {x y:Operand} {base n b cap i:Nat} {cs old rs:List Value} {t:Tm} {p:Option Addr} {mm c:Nat} (ho:w.ownsRow base 24 3 (.slice (some ⟨b,0,none⟩) n cap) n (cs++(old++rs))) (hcs:cs.length=i * 3) (hold:old.length=3) (hin:i<n) (hx:a.eval x=.pointer (some ⟨b,i * 3,none⟩)) (hy:a.eval y=.agg (tcs t (.slice p mm c)).toArray)
  (h:∀w',Upd b w w'→w'.ownsRow base 24 3 (.slice (some ⟨b,0,none⟩) n cap) n (cs++(tcs t (.slice p mm c)++rs))→wpList Tryz.prog ops Q rest a w') :
  wpList Tryz.prog ops Q ({dst:=none,op:=.store 24 x y,type:=typ,pos:=pos,after:=aft,guard:=none}::rest) a w:=by
 obtain ⟨hl,h2⟩:=ho
 rcases h2 with ⟨h3,_⟩|⟨g,cap',cur,hv,hb,hh,hn,hmx,hsz,htk⟩
 ·cases h3
 ·simp only [Value.slice.injEq,Option.some.injEq,Addr.mk.injEq] at hv
  obtain ⟨⟨rfl,_,_⟩,_,rfl⟩:=hv
  have hr:Row w b cur.toList 24:=by unfold Row;rw [hh]
  have hcl:cur.toList.length=cap * 3:=by rw [Array.length_toList];exact hsz
  have hlen:i * 3+3≤cur.toList.length:=by rw [hcl];omega
  obtain ⟨tl,htl⟩:∃tl,cur.toList=cs++(old++rs)++tl:=⟨cur.toList.drop (n * 3),by rw [←htk,List.take_append_drop]⟩
  have hsp:splice cur.toList (i * 3) (tcs t (.slice p mm c))=cs++(tcs t (.slice p mm c)++rs)++tl:=by
   unfold splice
   rw [htl,dr,List.append_assoc,←hcs,List.take_left,show cs.length+3=(cs++old).length by rw [List.length_append,hold],List.append_assoc,←List.append_assoc cs old,List.drop_left]
   simp [List.append_assoc]
  have hl2:(cs++(tcs t (.slice p mm c)++rs)).length=n * 3:=by
   rw [←hl]
   simp [hold,dr]
  refine wpList_plain rfl fun K hK=>?_
  have hh2:=hK _ _ (h _ (Upd.setRow b w (splice cur.toList (i * 3) (tcs t (.slice p mm c))).toArray) ⟨hl2,Or.inr ⟨b,cap,(splice cur.toList (i * 3) (tcs t (.slice p mm c))).toArray,rfl,hb,hr.setRow _,hn,hmx,by
    rw [List.size_toArray,hsp,←hcl,htl]
    simp [hold,dr],by
    show List.take _ (splice _ _ _)=_
    rw [hsp,←hl2,List.take_left]⟩⟩)
  unfold Oper.wp execOp
  simp only [hx,hy,Instr.storeAt,Instr.sureAddr,Sem.run_bind,Sem.run_pure,Result.andThen_ok,ep w b (i * 3) 24 24 cur.toList (tcs t (.slice p mm c)) hr (by rw [aj];rfl) (by rw [dr];exact hlen) (aY _ _ _ _)]
  exact hh2
end
structure Te (w0 w:World) (b n:Nat) (xs:List Tm) (i:Nat) (cs rs:List Value):Prop where
 below:Below w0.heap.size w0 w
 own:w.ownsRow w0.heap.size 24 3 (.slice (some ⟨b,0,none⟩) n n) n (cs++rs)
 len:cs.length=i * 3
 tc:TC (fun q=>w0.heap.size≤q∧q<w.heap.size∧q≠b) w (xs.take i) cs
theorem Te.keep {w0 w w':World} {b n i:Nat} {xs:List Tm} {cs rs:List Value} (h:Te w0 w b n xs i cs rs) (hb:Below w.heap.size w w'):Te w0 w' b n xs i cs rs :=
 ⟨bU h.below h.below.size hb,aK h.own hb,h.len,h.tc.keeps fun q hq=>⟨⟨hq.1,Nat.lt_of_lt_of_le hq.2.1 hb.size,hq.2.2⟩,fun o u hu=>by rw [hb.cell (p:=⟨q,o,none⟩) hq.2.1];exact hu⟩⟩
theorem Te.store {w0 w wc w':World} {b n i lo:Nat} {xs:List Tm} {x:Tm} {cs old rs:List Value} {s:Value} (h:Te w0 w b n xs i cs (old++rs)) (hx:xs[i]?=some x) (hs:SlT (FN lo w.heap.size) w s x.l) (hlo:b<lo) (hlo0:w0.heap.size≤lo) (hu:Upd b w w') (ho:w'.ownsRow w0.heap.size 24 3 (.slice (some ⟨b,0,none⟩) n n) n (cs++(tcs x s++rs))):Te w0 w' b n xs (i+1) (cs++tcs x s) rs:=by
 have _:=wc
 have hb0:w0.heap.size≤b:=(av h.own (b:=b) rfl).1
 refine ⟨below_upd h.below hu hb0 h.below.size,by rw [List.append_assoc];exact ho,by rw [List.length_append,h.len,dr];omega,?_⟩
 have htk:xs.take (i+1)=xs.take i++[x]:=by rw [List.take_add_one,hx];rfl
 rw [htk]
 have hk:Keeps (fun q=>w0.heap.size≤q∧q<w.heap.size∧q≠b) (fun q=>w0.heap.size≤q∧q<w'.heap.size∧q≠b) w w':=fun q hq=>⟨⟨hq.1,Nat.lt_of_lt_of_le hq.2.1 hu.size,hq.2.2⟩,fun o u h1=>by rw [hu.cell (p:=⟨q,o,none⟩) hq.2.1 hq.2.2];exact h1⟩
 exact (h.tc.keeps hk).snoc ((bH x s).2 (((hs.weak fun q hq=>⟨Nat.le_trans hlo0 hq.1,hq.2,fun he=>by have:=hq.1;omega⟩).keep hk)))
theorem Te.done {w0 w:World} {b n:Nat} {xs:List Tm} {cs rs:List Value} (h:Te w0 w b n xs n cs rs) (hn:n=xs.length):SlT (FN w0.heap.size w.heap.size) w (.slice (some ⟨b,0,none⟩) n n) xs:=by
 have hl:=h.own.1
 have hr:rs=[]:=List.eq_nil_of_length_eq_zero (by rw [List.length_append,h.len] at hl;omega)
 have h2:=h.own
 rw [hr,List.append_nil] at h2
 have h3:=h.tc
 rw [hn,List.take_length] at h3
 exact SlT.of_own h2 hn.symm h3 (fun _ hb=>⟨hb.1,hb.2.1⟩) (fun _ h4 h5=>⟨h4,h5⟩)
def Tow (base:Nat) (w:World) (v:Value) (xs:List Tm):Prop:=(xs=[]∧v=.slice none 0 0)∨∃b cs,v=.slice (some ⟨b,0,none⟩) xs.length xs.length∧w.ownsRow base 24 3 v xs.length cs∧TC (fun q=>base≤q∧q<w.heap.size∧q≠b) w xs cs
theorem Te.tow {w0 w:World} {b n:Nat} {xs:List Tm} {cs rs:List Value} (h:Te w0 w b n xs n cs rs) (hn:n=xs.length):Tow w0.heap.size w (.slice (some ⟨b,0,none⟩) n n) xs:=by
 have hl:=h.own.1
 have hr:rs=[]:=List.eq_nil_of_length_eq_zero (by rw [List.length_append,h.len] at hl;omega)
 have h2:=h.own
 rw [hr,List.append_nil] at h2
 have h3:=h.tc
 rw [hn,List.take_length] at h3
 rw [hn] at h2 ⊢
 exact Or.inr ⟨b,cs,rfl,h2,h3⟩
theorem kidsN {T:List Tm} (hT:Web T) {x:Tm} (hx:x∈T):NumsOf T (x.l.map (idxT T)) x.l:=by
 refine ⟨by simp,fun j q hj=>?_⟩
 rw [List.getElem?_map] at hj
 cases hy:x.l[j]? with
 | none=>rw [hy] at hj;cases hj
 | some y =>
  rw [hy] at hj
  simp only [Option.map_some,Option.some.injEq] at hj
  subst hj
  exact ⟨y,rfl,a7 hT.ok (hT.kids x hx y (List.mem_of_getElem? hy))⟩
theorem kids_sl {T:List Tm} (hT:Web T) {x:Tm} (hx:x∈T) {w:World} {g8 kn:Nat} (hk:kn=x.l.length) (hr:Row w g8 (shT T x) 65):SlN w (.slice (some ⟨g8,3,none⟩) kn 2) (x.l.map (idxT T)):=by
 have h2:=hT.len2 hx
 refine ⟨_,2,by rw [List.length_map,hk],by rw [List.length_map];exact h2,by rw [aL];omega,fun _=>⟨g8,3,rfl,fun j u hu=>?_⟩⟩
 have hjl:j<x.l.length:=by have:=(List.getElem?_eq_some_iff.1 hu).1;simpa [aL] using this
 obtain ⟨y,hy⟩:∃y,x.l[j]?=some y:=⟨_,List.getElem?_eq_getElem hjl⟩
 have e:(nums (x.l.map (idxT T)))[j]?=some (.int .i64 (idxT T y:Int)):=by simp [nums,hy]
 rw [e] at hu
 rw [←Option.some.inj hu,←shT_kid (T:=T) (by omega) hy]
 exact hr.cell (3+j)
theorem cnt_one:∀(l:List Tm),l.length≤(l.map cnt).sum:=by
 intro l
 induction l with
 | nil=>exact Nat.le_refl _
 | cons x l ih=>simp only [List.length_cons,List.map_cons,List.sum_cons];have:=eH x;omega
theorem cnt_mem {l:List Tm} {x:Tm} (hx:x∈l):cnt x≤(l.map cnt).sum:=by
 induction l with
 | nil=>cases hx
 | cons y l ih =>
  simp only [List.map_cons,List.sum_cons]
  rcases List.mem_cons.1 hx with rfl|h
  ·omega
  ·have:=ih h;omega
theorem ef (w:World) (pw:Value) (pn:Option Addr) (cn:Nat) :
  Calls Tryz.prog 34 #[pw,.slice pn 0 cn] w fun e w'=>e=.returned (.slice none 0 0)∧Below w.heap.size w w':=by
 have hm:=Mem.start w
 go_enter Tryz.func34,Tryz.ntmps34
 go_wp2_with fail
 go_ret
 exact ⟨rfl,hm.below⟩
theorem fb (T:List Tm) (hTw:Web T) (hTl:T.length≤10000) (b0 g m:Nat) (AL:List (Value×List Nat)) (vs va:Value) (N:Nat):∀(xs:List Tm) (ql:List Nat) (w:World) (pn:Option Addr) (n cn:Nat),(xs.map cnt).sum≤N→xs.length≤10000→n=xs.length→NumsOf T ql xs→WebN b0 w g m T T AL vs va→SlN w (.slice pn n cn) ql →
  Calls Tryz.prog 34 #[.pointer (some ⟨g,0,none⟩),.slice pn n cn] w fun e w'=>∃v',e=.returned v'∧SlT (FN w.heap.size w'.heap.size) w' v' xs∧Below w.heap.size w w'∧Tow w.heap.size w' v' xs:=by
 induction N with
 | zero =>
  intro xs ql w pn n cn hN hxl hn hq hweb hsl
  have h0:xs=[]:=List.eq_nil_of_length_eq_zero (by have:=cnt_one xs;omega)
  subst h0
  have hn0:n=0:=hn
  subst hn0
  refine (ef w _ pn cn).mono ?_
  rintro e w' ⟨rfl,hb⟩
  exact ⟨_,rfl,SlT.nil,hb,Or.inl ⟨rfl,rfl⟩⟩
 | succ N ih =>
 intro xs ql w pn n cn hN hxl hn hq hweb hsl
 by_cases h0:xs=[]
 ·subst h0
  have hn0:n=0:=hn
  subst hn0
  refine (ef w _ pn cn).mono ?_
  rintro e w' ⟨rfl,hb⟩
  exact ⟨_,rfl,SlT.nil,hb,Or.inl ⟨rfl,rfl⟩⟩
 have HIH:Hid (∀(xs:List Tm) (ql:List Nat) (w:World) (pn:Option Addr) (n cn:Nat),(xs.map cnt).sum≤N→xs.length≤10000→n=xs.length→NumsOf T ql xs→WebN b0 w g m T T AL vs va→SlN w (.slice pn n cn) ql→Calls Tryz.prog 34 #[.pointer (some ⟨g,0,none⟩),.slice pn n cn] w fun e w'=>∃v',e=.returned v'∧SlT (FN w.heap.size w'.heap.size) w' v' xs∧Below w.heap.size w w'∧Tow w.heap.size w' v' xs):=ih
 have hnp:0<n:=by rw [hn];exact List.length_pos_iff.2 h0
 have hne:¬(n:Int)=0:=by omega
 have hn4:n≤10000:=by omega
 have HT:Hid (Web T):=hTw
 have HQ:Hid (NumsOf T ql xs):=hq
 have HXN:Hid (∀_:Unit,n=xs.length):=fun _=>hn
 have HSUM:Hid ((xs.map cnt).sum≤N+1):=hN
 obtain ⟨pp,oo,hpp,hcl⟩:∃b o,pn=some ⟨b,o,none⟩∧∀(i q:Nat),ql[i]?=some q→w.cell? ⟨b,o+i,none⟩=some (.int .i64 (q:Int)):=by
  have e:n=ql.length:=by rw [hn,hq.1]
  have h:=hsl
  rw [e] at h
  obtain ⟨b,o,hp,hs⟩:=SlV.at h (by omega)
  exact ⟨b,o,hp,fun i q hi=>hs i _ (dk hi)⟩
 subst hpp
 have HCL:Hid (∀W,Below w.heap.size w W→∀(i q:Nat),ql[i]?=some q→W.cell? ⟨pp,oo+i,none⟩=some (.int .i64 (q:Int))):=fun W hW i q hi=>by have h:=hcl i q hi;rw [hW.cell (p:=⟨pp,_,none⟩) (block_lt_of_cell h)];exact h
 obtain ⟨L,hL⟩:∃L,T.length=L+1:=by
  obtain ⟨q,hq0⟩:∃q,ql[0]?=some q:=⟨_,List.getElem?_eq_getElem (by rw [hq.1,←hn];exact hnp)⟩
  obtain ⟨x,_,hx⟩:=hq.2 0 q hq0
  have:=(List.getElem?_eq_some_iff.1 hx).1
  exact ⟨T.length - 1,by omega⟩
 obtain ⟨bs,cs0,hvs⟩:∃b c,vs=.slice (some ⟨b,0,none⟩) (L+1) c:=by
  have h:=hweb.os
  rw [hL] at h
  exact cL h
 subst hvs
 have HWEB:Hid (WebN b0 w g m T T AL (.slice (some ⟨bs,0,none⟩) (L+1) cs0) va):=hweb
 have HTL:Hid (∀_:Unit,T.length=L+1):=fun _=>hL
 have hL4:L≤10000:=by omega
 clear ih hN hxl hn hq hweb hsl h0 hcl hL hTw hTl
 have hm:=Mem.start w
 go_enter Tryz.func34,Tryz.ntmps34
 go_wp2_with (first
  | ((with_reducible refine af (some 14) (.makeSlice 22 (.tmp 13) (.tmp 13)) ?_);go_must (refine wpl_makeN n rfl rfl rfl rfl hn4 (base:=w.heap.size) hm.size ?_);intro w1 ba cs1 hcs1 ho1 hb1 hg1;have HT0:Hid (Te w w1 ba n xs 0 [] cs1):=⟨bU hm.below (Nat.le_refl _) (hb1.mono hm.size),ho1,by simp,by show TC _ _ (xs.take 0) [];rw [List.take_zero];rfl⟩;clear hcs1 ho1 hb1 hg1 hm))
 go_loopw [17] (fun vi wr=>∃(i:Nat) (cs rs:List Value),vi=.int .i64 (i:Int)∧i≤n∧Hid (Te w wr ba n xs i cs rs)) (fun vi _=>n - (intOf vi).toNat)
 case atStart=>exact ⟨0,[],cs1,rfl,Nat.zero_le _,HT0.out⟩
 case round =>
  clear HT0
  obtain ⟨i,cs,rs,rfl,hi,HTE⟩:=hrel
  by_cases hlt:i<n
  ·have hii:(i:Int)<(n:Int):=by omega
   obtain ⟨q,hq⟩:∃q,ql[i]?=some q:=⟨_,List.getElem?_eq_getElem (by rw [HQ.out.1,←HXN.out ()];exact hlt)⟩
   obtain ⟨x,hx,hTx⟩:=HQ.out.2 i q hq
   have HXI:Hid (xs[i]?=some x):=hx
   have HX:Hid (x∈T):=List.mem_of_getElem? hTx
   have hqL:q<L+1:=by have h:=(List.getElem?_eq_some_iff.1 hTx).1;rw [HTL.out ()] at h;exact h
   obtain ⟨kn,hkn⟩:∃k,k=x.l.length:=⟨_,rfl⟩
   have HKN:Hid (∀_:Unit,kn=x.l.length):=fun _=>hkn
   have hkn2:kn≤2:=by rw [hkn];exact HT.out.len2 HX.out
   have HCI:Hid (wr.cell? ⟨pp,oo+i,none⟩=some (.int .i64 (q:Int))):=HCL.out wr HTE.out.below i q hq
   have HSH:Hid (∀j u,(shT T x)[j]?=some u→wr.cell? ⟨bs,q * 5+j,none⟩=some u):=(HWEB.out.below HTE.out.below).sh5 hTx
   have HBA:Hid (ba<wr.heap.size):=(av HTE.out.own (b:=ba) rfl).2
   have HB0:Hid (w.heap.size≤wr.heap.size):=HTE.out.below.size
   have HRS:Hid (∀W,Te w W ba n xs i cs rs→∃old rs2,rs=old++rs2∧old.length=3):=fun W hW=>by
    have h1:=hW.own.1
    rw [List.length_append,hW.len] at h1
    exact ⟨rs.take 3,rs.drop 3,(List.take_append_drop 3 rs).symm,by rw [List.length_take];omega⟩
   have HCALL:Hid (∀(W:World) (p:Option Addr) (c:Nat),Below w.heap.size w W→SlN W (.slice p kn c) (x.l.map (idxT T))→Calls Tryz.prog 34 #[.pointer (some ⟨g,0,none⟩),.slice p kn c] W fun e w'=>∃v',e=.returned v'∧SlT (FN W.heap.size w'.heap.size) w' v' x.l∧Below W.heap.size W w'∧Tow W.heap.size w' v' x.l):=fun W p c hW hs=>HIH.out x.l (x.l.map (idxT T)) W p kn c (by
     have h1:=cnt_mem (List.mem_of_getElem? HXI.out)
     have h2:=bQ x
     have h3:=HSUM.out
     omega) (by rw [←HKN.out ()];omega) (HKN.out ()) (kidsN HT.out HX.out) (HWEB.out.below hW) hs
   have hm:=Mem.start wr
   clear hq hx hTx hkn
   go_wp2_with (first
    | ((with_reducible refine af (some 20) (.indexAddr 41 (.tmp 15) (.tmp 17)) ?_);go_must (refine aa (.pointer (some ⟨pp,oo+i,none⟩)) rfl (a8 i rfl rfl rfl hlt) ?_))
    | ((with_reducible refine af (some 21) (.load 3 (.tmp 20)) ?_);go_must (refine aa (.int .i64 (q:Int)) rfl (ad (.int .i64 (q:Int)) HCI.out rfl ag) ?_))
    | ((with_reducible refine af (some 25) (.load 59 (.tmp 24)) ?_);go_must (refine aa (.slice (some ⟨bs,0,none⟩) (L+1) cs0) rfl (ad (.slice (some ⟨bs,0,none⟩) (L+1) cs0) ((HWEB.out.below HTE.out.below).row.cell 1) rfl bw) ?_))
    | ((with_reducible refine af (some 27) (.indexAddr 59 (.tmp 25) (.tmp 26)) ?_);go_must (refine aa (.pointer (some ⟨bs,q * 5,none⟩)) rfl (bS q rfl rfl rfl hqL) ?_))
    | ((with_reducible refine af (some 28) (.load 65 (.tmp 27)) ?_);go_must (refine aa (.agg (shT T x).toArray) rfl (exec_ldSh (ci T x) rfl HSH.out) ?_))
    | ((with_reducible refine af (some 8) (.alloc 65) ?_);go_must (refine ap _ eX hm ?_);clear hm;intro w5 g8 hm)
    | ((with_reducible refine af none (.store 65 (.tmp 8) (.tmp 28)) ?_);go_must (refine au 0 (shT T x) hm rfl rfl rfl 5 cC rfl rfl (shT_one _ _) ?_);clear hm;intro w6 hm))
   have HT6:Hid (Te w w6 ba n xs i cs rs):=HTE.out.keep hm.below
   have HB6:Hid (Below w.heap.size w w6):=HT6.out.below
   have HB06:Hid (wr.heap.size≤w6.heap.size):=hm.size
   have HR8:Hid (Row w6 g8 (shT T x) 65):=hm.get 0 rfl
   clear hm HTE
   have hm:=Mem.start w6
   refine aq ?_
   refine cU (T:=fun W=>Row W g8 (shT T x) 65) (T2:=fun _=>True) 14 (by kernel_rfl) hm ?_
   clear hm
   intro wc hm
   have HTc:Hid (Te w wc ba n xs i cs rs):=HT6.out.keep hm.below
   have HBC:Hid (Below w6.heap.size w6 wc):=hm.below
   have hT:Row wc g8 (shT T x) 65:=HR8.out.below' hm.below
   refine aA 0 (v:=.slice (some ⟨ba,0,none⟩) n n) rfl (by kernel_rfl) (by kernel_rfl) (by kernel_rfl) rfl rfl (fun W _=>by go_simp) hT ?_
   go_simp
   refine aA 1 (v:=.int .i64 (i:Int)) rfl (by kernel_rfl) (by kernel_rfl) (by kernel_rfl) rfl rfl (fun W _=>by go_simp) hT ?_
   go_simp
   refine aA 2 (v:=.pointer (some ⟨g8,0,none⟩)) rfl (by kernel_rfl) (by kernel_rfl) (by kernel_rfl) rfl rfl (fun W _=>by go_simp) hT ?_
   go_simp
   refine bi 3 (v:=.int .i64 x.k) rfl (by kernel_rfl) (by kernel_rfl) (by kernel_rfl) rfl rfl (by kernel_rfl) rfl (fun W hW=>ad _ (by have h:=hW.cell 0;exact h) rfl ag) hT ?_
   go_simp
   refine aA 4 (v:=.pointer (some ⟨g8,1,none⟩)) rfl (by kernel_rfl) (by kernel_rfl) (by kernel_rfl) rfl rfl (fun W _=>by go_simp) hT ?_
   go_simp
   refine bi 5 (v:=.int .i64 x.n) rfl (by kernel_rfl) (by kernel_rfl) (by kernel_rfl) rfl rfl (by kernel_rfl) rfl (fun W hW=>ad _ (by have h:=hW.cell 1;exact h) rfl ag) hT ?_
   go_simp
   refine aA 6 (v:=.pointer (some ⟨g,0,none⟩)) rfl (by kernel_rfl) (by kernel_rfl) (by kernel_rfl) rfl rfl (fun W _=>by go_simp) hT ?_
   go_simp
   refine aA 7 (v:=.pointer (some ⟨g8,3,none⟩)) rfl (by kernel_rfl) (by kernel_rfl) (by kernel_rfl) rfl rfl (fun W _=>by go_simp) hT ?_
   go_simp
   refine aA 8 (v:=.pointer (some ⟨g8,2,none⟩)) rfl (by kernel_rfl) (by kernel_rfl) (by kernel_rfl) rfl rfl (fun W _=>by go_simp) hT ?_
   go_simp
   refine bi 9 (v:=.int .i64 (kn:Int)) rfl (by kernel_rfl) (by kernel_rfl) (by kernel_rfl) rfl rfl (by kernel_rfl) rfl (fun W hW=>ad (.int .i64 (kn:Int)) (by have h:=hW.cell 2;rw [show (shT T x)[2]?=some (.int .i64 (x.l.length:Int)) from rfl,←HKN.out ()] at h;exact h) rfl ag) hT ?_
   go_simp
   refine aA 10 (v:=.slice (some ⟨g8,3,none⟩) kn 2) rfl (by kernel_rfl) (by kernel_rfl) (by kernel_rfl) rfl rfl (fun W _=>ec hkn2 rfl rfl rfl) hT ?_
   go_simp
   refine cS 11 (by kernel_rfl) rfl rfl rfl ?_
   intro K hK
   have HSN:Hid (SlN wc (.slice (some ⟨g8,3,none⟩) kn 2) (x.l.map (idxT T))):=kids_sl HT.out HX.out (HKN.out ()) hT
   go_wp2_with (go_at_call 34;go_must (refine (HCALL.out wc _ _ (bU HB6.out HB6.out.size HBC.out) HSN.out).mono ?_);rintro e w9 ⟨v9,he,hs9,hb9,_⟩;obtain ⟨p9,c9,hv9,_⟩:=hs9.len;subst hv9;subst he;have HS9:Hid (SlT (FN wc.heap.size w9.heap.size) w9 (.slice p9 x.l.length c9) x.l):=hs9;have hT9:Row w9 g8 (shT T x) 65:=hT.below' hb9;have HT9:Hid (Te w w9 ba n xs i cs rs):=HTc.out.keep hb9;have HB9:Hid (Below wc.heap.size wc w9):=hb9;clear hb9 hs9 hm hT)
   refine hK _ _ hT9 ?_
   clear hK K
   go_simp
   refine cS 12 (by kernel_rfl) rfl rfl rfl ?_
   intro K hK
   refine cJ [Value.int .i64 x.k,.int .i64 x.n,.slice p9 x.l.length c9] [(0,.int .i64 x.k),(1,.int .i64 x.n),(2,.slice p9 x.l.length c9)] rfl (built_term _ _ _ _ _) ?_
   refine wpList_nil ?_
   refine hK _ _ hT9 ?_
   clear hK K
   go_simp
   have hT:=hT9
   refine aA 13 (v:=.pointer (some ⟨ba,0+i * 3,none⟩)) rfl (by kernel_rfl) (by kernel_rfl) (by kernel_rfl) rfl rfl (fun W _=>ak i rfl rfl rfl hlt) hT ?_
   go_simp
   refine dz (by kernel_rfl) rfl rfl ?_
   intro K hK
   obtain ⟨old,rs2,hrs,hold⟩:=HRS.out w9 HT9.out
   subst hrs
   refine wpl_stAt (t:=x) (p:=p9) (mm:=x.l.length) (c:=c9) HT9.out.own HT9.out.len hold hlt rfl rfl ?_
   intro wa hua hoa
   have HTA:Hid (Te w wa ba n xs (i+1) (cs++tcs x (.slice p9 x.l.length c9)) rs2):=HT9.out.store (wc:=wc) HXI.out HS9.out (Nat.lt_of_lt_of_le HBA.out (Nat.le_trans HB06.out HBC.out.size)) (Nat.le_trans HB6.out.size HBC.out.size) hua hoa
   clear hua hoa hT hT9
   refine wpList_nil ?_
   refine hK _ _ trivial ?_
   clear hK K
   refine wpAnyH_done (by kernel_rfl) ?_ _
   simp only [endsIn]
   go_wp2_with fail
   go_roundw
   case rel=>exact ⟨i+1,_,rs2,by go_num,by omega,HTA.out⟩
   case measure=>simp [intOf];omega
  ·have hie:i=n:=by omega
   subst hie
   have hii:¬(i:Int)<(i:Int):=by omega
   go_wp2_with fail
   go_ret
   exact ⟨_,rfl,HTE.out.done (HXN.out ()),HTE.out.below,HTE.out.tow (HXN.out ())⟩
open Go Go.RowKit Go.Maps Go.Shelf
theorem World.ownsRow.base_le {w:World} {b1 b2 K n:Nat} {e:TypeId} {v:Value} {cs:List Value} (h:w.ownsRow b1 e K v n cs) (hb:b2≤b1):w.ownsRow b2 e K v n cs:=by
 obtain ⟨hl,h2⟩:=h
 refine ⟨hl,?_⟩
 rcases h2 with h2|⟨g,cap,cur,h3,h4,h5⟩
 ·exact Or.inl h2
 ·exact Or.inr ⟨g,cap,cur,h3,Nat.le_trans hb h4,h5⟩
theorem below_own {w0 w w':World} {n K:Nat} {e:TypeId} {v:Value} {cs:List Value} (hb:Below w0.heap.size w0 w) (ho:w.ownsRow w0.heap.size e K v n cs) (hg:w.grownBy w' v.ownBlock):Below w0.heap.size w0 w' :=
 ⟨hg.os.trans hb.os,hg.tape.trans hb.tape,hg.output.trans hb.output,Nat.le_trans hb.size hg.size,fun b hlt=>(hg.block b (Nat.lt_of_lt_of_le hlt hb.size) fun he=>by have:=(av ho he.symm).1;omega).trans (hb.block b hlt)⟩
theorem grow_ints (n:Nat) (hn:n≤100000) (w:World) :
  Calls Tryz.prog 60 #[.slice none 0 0,.int .i64 (n:Int)] w fun e w'=>∃v,e=.returned v∧w'.ownsRow w.heap.size 3 1 v 0 (nums [])∧Below w.heap.size w w':=by
 by_cases h0:0<n
 ·cases hq:Tryz.prog.info? 3 with
  | none=>have:=dp;rw [hq] at this;cases this
  | some i0 =>
   have hi:=dp
   simp only [hq,Option.map_some,Option.some.injEq,Prod.mk.injEq] at hi
   obtain ⟨hz,h1,h2⟩:=hi
   have hc:=Any8.slices_Grow_grow growI i0 (.int .i64 0) hq hz (by omega) none 0 0 n [] w (Nat.le_refl _) (by omega) (by rw [h2];omega) (by omega) (by simp) (fun _=>rfl) (fun a h=>by cases h)
   refine hc.mono ?_
   rintro e w' ⟨rfl,rfl⟩
   have hmax:=grownCap_le_maxLen w (0+n) 0 3 (by unfold maxLen;omega)
   refine ⟨_,rfl,World.ownsRow_made w.drew _ (grownCap w (0+n) 0 3) (Nat.le_refl _) hmax ?_,?_⟩
   ·have hcap:=grownCap_ge w (0+n) 0 3
    have hC:grownCap w (0+n) 0 (growI_ren.t 25)=grownCap w (0+n) 0 3:=rfl
    rw [Array.size_append,Array.size_append,size_zeroCells,size_zeroCells,hC]
    generalize grownCap w (0+n) 0 3=C at *
    show 0+(0+n - 0) * 1+(C - (0+n)) * 1=C * 1
    omega
   ·exact ⟨rfl,rfl,rfl,by simp,fun k hk=>Below.heap_alloc _ _ _ hk⟩
 ·have hn0:n=0:=by omega
  subst hn0
  have hm:=Mem.start w
  go_enter Tryz.func60,Tryz.ntmps60
  go_wp2_with fail
  go_ret
  exact ⟨_,rfl,World.ownsRow_nil _ _ _ _,hm.below⟩
theorem concat_ints (xl yl:List Nat) (b lx ly c1 c2:Nat) (p q:Option Addr) (hx:lx=xl.length) (hy:ly=yl.length) (hl:lx+ly≤100000) (w:World) (hr:Row w b [.slice p lx c1,.slice q ly c2] 41) (h1:SlN w (.slice p lx c1) xl) (h2:SlN w (.slice q ly c2) yl) :
  Calls Tryz.prog 50 #[.slice (some ⟨b,0,none⟩) 2 2] w fun e w'=>∃v,e=.returned v∧w'.ownsRow w.heap.size 3 1 v (xl++yl).length (nums (xl++yl))∧Below w.heap.size w w':=by
 have HX:Hid (lx=xl.length):=hx
 have HY:Hid (ly=yl.length):=hy
 have HC0:Hid (∀W,Below w.heap.size w W→W.cell? ⟨b,0,none⟩=some (.slice p lx c1)):=fun W hW=>by rw [(hr.below' hW).cell];rfl
 have HC1:Hid (∀W,Below w.heap.size w W→W.cell? ⟨b,1,none⟩=some (.slice q ly c2)):=fun W hW=>by rw [(hr.below' hW).cell];rfl
 have H1:Hid (SlN w (.slice p lx c1) xl):=h1
 have H2:Hid (SlN w (.slice q ly c2) yl):=h2
 obtain ⟨tt,htt⟩:∃t,t=lx+ly:=⟨_,rfl⟩
 have HTT:Hid (∀_:Unit,tt=lx+ly):=fun _=>htt
 have hlx:lx≤100000:=by omega
 have hly:ly≤100000:=by omega
 have htl:tt≤100000:=by omega
 have hw0:IntKind.i64.wrap (lx:Int)=(lx:Int):=bm _ (by omega) (by omega)
 have hw1:IntKind.i64.wrap ((lx:Int)+(ly:Int))=(tt:Int):=(bm _ (by omega) (by omega)).trans (by omega)
 have hn0:¬(lx:Int)<0:=by omega
 have hn1:¬(tt:Int)<0:=by omega
 have tk1:Nat:=0
 have hm:=Mem.start w
 clear hx hy hr h1 h2 htt
 go_enter Tryz.func50,Tryz.ntmps50
 go_wp2_with fail
 refine wp_loop_rounds 3 ?_
 iterate 3 (rw [rounds_succ];go_wp2_with (first
  | (first|((with_reducible refine af (some 14) (.load 41 (.tmp 13)) ?_);refine aa (.slice p lx c1) rfl (ad (.slice p lx c1) (HC0.out _ hm.below) rfl bC) ?_)|((with_reducible refine af (some 14) (.load 41 (.tmp 13)) ?_);refine aa (.slice q ly c2) rfl (ad (.slice q ly c2) (HC1.out _ hm.below) rfl bC) ?_))
  | (go_at_call 60;go_must (refine (grow_ints tt htl _).mono ?_);rintro e w2 ⟨v2,he,hown0,hb⟩;subst he;have HOWN2:Hid (w2.ownsRow w.heap.size 3 1 v2 0 (nums [])):=World.ownsRow.base_le hown0 hm.size;replace hm:=hm.call hb;have HB2:Hid (Below w.heap.size w w2):=hm.below;clear hb hown0)))
 refine wp_loop_rounds 3 ?_
 have HBN:=HB2
 rw [rounds_succ]
 go_wp2_with (first
  | ((with_reducible refine af (some 30) (.load 41 (.tmp 29)) ?_);go_must (refine aa (.slice p lx c1) rfl (ad (.slice p lx c1) (HC0.out _ HBN.out) rfl bC) ?_))
  | ((with_reducible refine af (some 33) (.call {callee:=.builtin .append,args:=#[.tmp 31,.tmp 32],argTypes:=#[41,41]}) ?_);go_must (refine cA rfl HOWN2.out (H1.out.below HBN.out) HX.out (by have h1:=HX.out;have h2:=HY.out;omega) HBN.out.size rfl rfl ?_);intro v5 w5 ho hg hl;have HB_w5:Hid (Below w.heap.size w w5):=below_own HBN.out HOWN2.out hg;have HO_w5:Hid (w5.ownsRow w.heap.size 3 1 v5 _ _):=ho;clear ho hg hl))
 clear HBN
 have HBN:=HB_w5
 rw [rounds_succ]
 go_wp2_with (first
  | ((with_reducible refine af (some 30) (.load 41 (.tmp 29)) ?_);go_must (refine aa (.slice q ly c2) rfl (ad (.slice q ly c2) (HC1.out _ HBN.out) rfl bC) ?_))
  | ((with_reducible refine af (some 33) (.call {callee:=.builtin .append,args:=#[.tmp 31,.tmp 32],argTypes:=#[41,41]}) ?_);go_must (refine cA rfl HO_w5.out (H2.out.below HBN.out) HY.out (by have h1:=HX.out;have h2:=HY.out;omega) HBN.out.size rfl rfl ?_);intro v6 w6 ho hg hl;have HB_w6:Hid (Below w.heap.size w w6):=below_own HBN.out HO_w5.out hg;have HO_w6:Hid (w6.ownsRow w.heap.size 3 1 v6 _ _):=ho;clear ho hg hl))
 rw [rounds_succ]
 go_wp2_with fail
 go_ret
 refine ⟨_,rfl,?_,HB_w6.out⟩
 have h:=HO_w6.out
 rw [List.nil_append,Nat.zero_add] at h
 rw [List.length_append]
 exact h
end Go.Proofs.YtcibhfcjbokdlaaGreatDoor
