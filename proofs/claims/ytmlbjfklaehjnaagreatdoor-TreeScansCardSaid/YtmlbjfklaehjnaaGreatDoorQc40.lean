import Derived.Test.YtmlbjfklaehjnaaGreatDoorQc38
set_option maxRecDepth 100000
set_option maxHeartbeats 4000000
namespace Go.Proofs.YtmlbjfklaehjnaaGreatDoor
open Go Go.RowKit Go.Maps
theorem exec_minI {a:Act} {w:World} {dst:Option Tmp} {typ:TypeId} {pos:String} {aft:Array Edge} {gd:Option (Nat×Bool)} {x y:Operand} {i j:Int} (c:Int) (hx:a.eval x=.int .i64 i) (hy:a.eval y=.int .i64 j) (hc:(if j<i then j else i)=c) :
  (execOp a.eval {dst:=dst,op:=.call {callee:=.builtin .min,args:=#[x,y],argTypes:=#[3,3]},type:=typ,pos:=pos,after:=aft,guard:=gd}).run Tryz.prog w=.ok (.value (.int .i64 c)) w:=by
 subst hc
 unfold execOp
 simp only [resolve,invoke,builtin,Sem.run_bind,Sem.run_pure,Result.andThen_ok,List.map_toArray,List.map_cons,List.map_nil,hx,hy]
 simp [Builtin.min_,Builtin.min2]
theorem leS_not (a b:ByteArray):leS a b = !less b a:=by
 unfold leS
 cases h:less b a with
 | true =>
  rw [fM h,Bool.false_or]
  cases h2:a.toList==b.toList with
  | false=>rfl
  | true =>
   have h3:=ba_ext (beq_iff_eq.1 h2)
   rw [h3,bh] at h
   cases h
 | false =>
  by_cases he:a=b
  ·rw [he];simp
  ·rw [jM h (fun e=>he e.symm)];rfl
theorem scan_lo {l:List Pr} {k:ByteArray} (hs:Srt l) (hk:k≠noStr) (h100:l.length≤100):∀j,j≤l.length→scanK l noStr k 100 j=l.take (min j (posP l k))
 | 0,_=>by rw [scanK,Nat.zero_min];rfl
 | j+1,hj=>by
  have hp:=eM (k:=k) hs j (by omega)
  have ha:ahS k (l.getD j (noStr,noStr)).1=decide (j<posP l k):=by unfold ahS;rw [decide_eq_false hk,Bool.false_or];exact hp
  have hd:decide (((min (min j (posP l k)) l.length:Nat):Int)<100)=true:=decide_eq_true (by omega)
  rw [scanK,scan_lo hs hk h100 j (by omega),leS_nil,ha,List.length_take,hd,Bool.and_true,Bool.true_and]
  by_cases h:j<posP l k
  ·rw [decide_eq_true h,if_pos rfl,Nat.min_eq_left (Nat.le_of_lt h),Nat.min_eq_left h,take_sn (by omega)]
  ·rw [decide_eq_false h,if_neg Bool.false_ne_true,Nat.min_eq_right (by omega),Nat.min_eq_right (by omega)]
theorem scan_hi {l:List Pr} {k:ByteArray} (hs:Srt l) (h100:l.length≤100):∀j,j≤l.length→scanK l k noStr 100 j=(l.take j).drop (posP l k)
 | 0,_=>by rw [scanK,List.take_zero,List.drop_nil]
 | j+1,hj=>by
  have hp:=eM (k:=k) hs j (by omega)
  have hl:leS k (l.getD j (noStr,noStr)).1 = !decide (j<posP l k):=by rw [leS_not,hp]
  have hd:decide ((((l.take j).drop (posP l k)).length:Int)<100)=true:=decide_eq_true (by rw [List.length_drop,List.length_take];omega)
  rw [scanK,scan_hi hs h100 j (by omega),hl,ahS_nil,hd,Bool.and_true,Bool.and_true]
  by_cases h:j<posP l k
  ·rw [decide_eq_true h,Bool.not_true,if_neg Bool.false_ne_true,List.drop_eq_nil_of_le (by rw [List.length_take];omega),List.drop_eq_nil_of_le (by rw [List.length_take];omega)]
  ·rw [decide_eq_false h,Bool.not_false,if_pos rfl,take_sn (by omega),List.drop_append_of_le_length (by rw [List.length_take];omega)]
theorem take_get {l:List Pr} {m j:Nat} (h:j<m):(l.take m).getD j (noStr,noStr)=l.getD j (noStr,noStr):=by
 rw [List.getD_eq_getElem?_getD,List.getD_eq_getElem?_getD,List.getElem?_take,if_pos h]
theorem drop_get {l:List Pr} {m:Nat}:(l.drop m).getD 0 (noStr,noStr)=l.getD m (noStr,noStr):=by
 rw [List.getD_eq_getElem?_getD,List.getD_eq_getElem?_getD,List.getElem?_drop,Nat.add_zero]
theorem scan_G {w0 w:World} {gp pg:Nat} {R:List (List Pr)} (h:Tr w0 w gp pg R) {r:Nat} {l:List Pr} (hl:R[r]?=some l) (fr to:ByteArray) (M:Int) (out:List Pr) (n:Nat) (ho:scanK l fr to M l.length=out) (hn:out.length=n) :
  Calls Tryz.prog 18 #[.pointer (some ⟨gp,0,none⟩),.int .u32 (r:Int),.string fr,.string to,.int .i64 M] w fun e w'=>∃p c,e=.returned (.tuple #[.slice p n c,.int .i64 0])∧w'.ownsRow w.heap.size 44 2 (.slice p n c) n (prs out)∧Below w.heap.size w w':=by
 refine (scan_T h hl fr to M).mono ?_
 rintro e w' ⟨v',he,ho2,hb⟩
 rw [ho,hn] at ho2
 obtain ⟨p,c,rfl⟩:=eI ho2
 exact ⟨p,c,he,ho2,hb⟩
section
variable {ops:Array Oper} {rest:List Oper} {a:Act} {w:World} {Q:Exit→Act→World→Prop} {dst:Option Tmp} {typ:TypeId} {pos:String} {aft:Array Edge} {gd:Option (Nat×Bool)}
theorem wpl_appP {s x:Operand} (hw:Region.wanted {dst:=dst,op:=.call {callee:=.builtin .append,args:=#[s,x],argTypes:=#[28,28]},type:=typ,pos:=pos,after:=aft,guard:=gd} (yielded ops a.tmps)=true)
  {base n m c N:Nat} {v:Value} {ps:Option Addr} {F ls:List Pr} (out:List Pr) (hown:w.ownsRow base 44 2 v n (prs F)) (hbase:base≤w.heap.size) (hs:a.eval s=v) (hx:a.eval x=.slice ps m c) (hv:SlP w (.slice ps m c) ls) (hml:ls.length=m) (hN:n+m=N) (h1k:N≤1000) (ho:F++ls=out)
  (h:∀p' c' w',w'.ownsRow base 44 2 (.slice p' N c') N (prs out)→w.grownBy w' v.ownBlock→wpList Tryz.prog ops Q rest (a.put dst (.slice p' N c')) w') :
  wpList Tryz.prog ops Q ({dst:=dst,op:=.call {callee:=.builtin .append,args:=#[s,x],argTypes:=#[28,28]},type:=typ,pos:=pos,after:=aft,guard:=gd}::rest) a w:=by
 subst ho hN
 have hi:=eC
 have key:∃v' w',(Builtin.append_ #[28,28] typ #[v,.slice ps m c]).run Tryz.prog w=.ok v' w'∧w'.ownsRow base 44 2 v' (n+m) (prs (F++ls))∧w.grownBy w' v.ownBlock:=by
  cases hq:Tryz.prog.info? 44 with
  | none=>simp [hq] at hi
  | some i =>
   simp only [hq,Option.map_some,Option.some.injEq,Prod.mk.injEq] at hi
   obtain ⟨hz1,h2,h3⟩:=hi
   rcases Nat.eq_zero_or_pos m with h0|h0
   ·subst h0
    have hl:=List.length_eq_zero_iff.1 hml
    subst hl
    refine ⟨v,w,?_,by rw [List.append_nil];exact hown,⟨rfl,rfl,rfl,Nat.le_refl _,fun _ _ _=>rfl⟩⟩
    have hld:∀a:Addr,(loadCells a 0).run Tryz.prog w=.ok #[] w:=fun a=>rfl
    rcases hown.2 with ⟨rfl,_⟩|⟨g,cap,cur,rfl,_,_,hn,_⟩
    ·cases ps<;>simp [Builtin.append_,run_underlying bw,sizeOf,typeInfo,hq,Builtin.lenOf,Builtin.firstCells,hld]
    ·cases ps<;>simp [Builtin.append_,run_underlying bw,sizeOf,typeInfo,hq,Builtin.lenOf,Builtin.firstCells,hld,hn,storeCells]
   ·obtain ⟨b,o,hp⟩:=SlP.at hv hml h0
    subst hp
    obtain ⟨p',c',he,hcc,hlen,hsg⟩:=hv
    cases he
    obtain ⟨b',o',hp',hseg⟩:=hsg (by omega)
    cases hp'
    obtain ⟨v',w',hrun,ho,hg,_,hb⟩:=run_append_own_at (P:=Tryz.prog) w base 28 typ 44 i (.agg [.string ByteArray.empty,.string ByteArray.empty].toArray) 2 32 bw hq hz1 h2 h3 rfl (by omega) v n (prs F) hown ⟨b,o,none⟩ ls.length c (prs ls) (by rw [bE]) (fun j u hu=>by rw [aZ];exact hseg j u hu) (prs_one ls) (by unfold maxLen;omega) (by omega) hbase
    exact ⟨v',w',hrun,by rw [cX];exact ho,hg⟩
 obtain ⟨v',w',hrun,ho,hg⟩:=key
 obtain ⟨p',c',rfl⟩:=eI ho
 refine wpList_step fun K hK=>?_
 rw [if_pos hw]
 have hh:=hK _ _ (h p' c' w' ho hg)
 unfold Oper.wp execOp
 simp only [resolve,invoke,builtin,Sem.run_bind,Sem.run_pure,Result.andThen_ok,List.map_toArray,List.map_cons,List.map_nil,hs,hx,hrun]
 exact hh
end
theorem mS {a:Act} {w:World} {dst:Option Tmp} {typ:TypeId} {pos:String} {aft:Array Edge} {gd:Option (Nat×Bool)} {x:Operand} (n m:Nat) (hm:n % 30=m) (hx:a.eval x=.int .u8 (n:Int)) :
  (execOp a.eval {dst:=dst,op:=.binOp .rem 5 x (.const (.int .u8 30)) 5,type:=typ,pos:=pos,after:=aft,guard:=gd}).run Tryz.prog w=.ok (.value (.int .u8 (m:Int))) w:=by
 have h1:Int.tmod (n:Int) 30=(m:Int):=by
  rw [←hm,show (30:Int)=((30:Nat):Int) from rfl,Int.ofNat_tmod]
 unfold execOp
 simp only [hx]
 simp [Act.eval,eqGuard,binOp,go_sem,h1]
 try omega
theorem exec_cv8i {a:Act} {w:World} {dst:Option Tmp} {typ:TypeId} {pos:String} {aft:Array Edge} {gd:Option (Nat×Bool)} {x:Operand} (m:Nat) (hm:m<256) (hx:a.eval x=.int .u8 (m:Int)) :
  (execOp a.eval {dst:=dst,op:=.convert 5 3 x,type:=typ,pos:=pos,after:=aft,guard:=gd}).run Tryz.prog w=.ok (.value (.int .i64 (m:Int))) w:=by
 have e:IntKind.i64.wrap (m:Int)=(m:Int):=by
  rw [wrapi _ (by omega) (by omega)]
 unfold execOp
 simp only [hx]
 simp [go_sem,e]
theorem SlP.cap {w:World} {p:Option Addr} {n c:Nat} {l:List Pr} (hn:l.length=n) (h:SlP w (.slice p n c) l):n≤c:=by
 obtain ⟨p',c',he,hc,hl,hs⟩:=h
 cases he
 omega
theorem exec_ixP0 {a:Act} {w:World} {dst:Option Tmp} {typ:TypeId} {pos:String} {aft:Array Edge} {gd:Option (Nat×Bool)} {x:Operand} {b o n cap:Nat} (hx:a.eval x=.slice (some ⟨b,o,none⟩) n cap) (h0:0<n) :
  (execOp a.eval {dst:=dst,op:=.indexAddr 28 x (.const (.int .i64 0)),type:=typ,pos:=pos,after:=aft,guard:=gd}).run Tryz.prog w=.ok (.value (.pointer (some ⟨b,o,none⟩))) w:=by
 have h:=aV (a:=a) (w:=w) (dst:=dst) (typ:=typ) (pos:=pos) (aft:=aft) (gd:=gd) (x:=x) (ix:=.const (.int .i64 0)) (b:=b) (o:=o) (n:=n) (cap:=cap) 0 hx rfl rfl h0
 rw [Nat.zero_mul,Nat.add_zero] at h
 exact h
def vv (_:ByteArray):ByteArray:={data:=#[118]}
theorem vv_le (n:Nat):(vv (nm n)).size≤4:=by show (1:Nat)≤4;omega
theorem nm_ne (n:Nat):nm n≠noStr:=by
 intro h
 have h1:=congrArg ByteArray.size h
 rw [d5] at h1
 exact absurd h1 (by decide)
theorem scans_many (p:Option Addr) (n c x y:Nat) (h:20<n) (w:World) (ht:Tab w) (hq:QTab w) (hw2:2≤w.heap.size) :
  Calls Tryz.prog 7 #[.slice p n c,.int .u16 (x:Int),.int .u8 (y:Int)] w fun e w'=>e=.returned (.bool true)∧Below w.heap.size w w':=by
 have h1:(20:Int)<(n:Int):=by omega
 have HT:Hid (Tab w):=ht
 have HQ:Hid (QTab w):=hq
 clear ht hq
 go_enter Tryz.func7,Tryz.ntmps7
 go_wp2_with (first
  | (go_at_call 9;refine (cP w HT.out HQ.out hw2).mono ?_;rintro e w1 ⟨rfl,hb⟩;have HB1:Hid (Below w.heap.size w w1):=hb;clear hb))
 go_ret
 exact ⟨rfl,HB1.out⟩
theorem scans_few (K:List Nat) (p:Option Addr) (n c x y:Nat) (hn:K.length=n) (h20:n≤20) (w:World) (hv:SlH w (.slice p n c) K) (ht:Tab w) (hq:QTab w) (hw2:2≤w.heap.size) :
  Calls Tryz.prog 7 #[.slice p n c,.int .u16 (x:Int),.int .u8 (y:Int)] w fun e w'=>e=.returned (.bool true)∧Below w.heap.size w w':=by
 have HT:Hid (Tab w):=ht
 have HQ:Hid (QTab w):=hq
 have HV:Hid (SlH w (.slice p n c) K):=hv
 have HN:Hid (K.length=n):=hn
 obtain ⟨g,hg⟩:∃g:Nat→Nat,g=fun i=>K.getD i 0:=⟨_,rfl⟩
 have HGI:Hid (∀i,K.getD i 0=g i):=fun i=>by rw [hg]
 obtain ⟨m,hm⟩:∃m,m=y % 30:=⟨_,rfl⟩
 have hm30:m<30:=by omega
 have HM:Hid (y % 30=m):=hm.symm
 obtain ⟨s,hs⟩:∃s,s=nm x:=⟨_,rfl⟩
 have HNX:Hid (∀_:Unit,nm x=s):=fun _=>hs.symm
 have HSN:Hid (s≠noStr):=by rw [hs];exact nm_ne x
 have h1:decide ((20:Int)<(n:Int))=false:=decide_eq_false (by omega)
 clear ht hq hv hn hg hm hs
 go_enter Tryz.func7,Tryz.ntmps7
 go_wp2_with (first
  | (go_at_call 9;refine (cP w HT.out HQ.out hw2).mono ?_;rintro e w1 ⟨rfl,hb⟩;have HB1:Hid (Below w.heap.size w w1):=hb;clear hb)
  | (go_at_call 10;refine (lx 390 (by omega) (by omega) _ (Tab.bel HT.out HB1.out) (QTab.bel HQ.out HB1.out) (Nat.le_trans hw2 HB1.out.size)).mono ?_;rintro e w2 ⟨gp,rfl,hs⟩;have H0:Hid (Tr w1 w2 gp 390 [[]]):=hs;clear hs))
 go_loopw [8,11] (fun vr vi wr=>∃(i a:Nat) (R:List (List Pr)),i≤n∧vi=.int .i64 (i:Int)∧vr=.int .u32 (a:Int)∧Hid (Tr w1 wr gp 390 R∧R[a]?=some (plF vv g i)∧R.length=1+i)) (fun _ vi _=>n - (RowKit.intOf vi).toNat)
 case atStart=>exact ⟨0,0,[[]],by omega,rfl,rfl,H0.out,rfl,rfl⟩
 case round =>
  clear H0
  obtain ⟨i,a,R,hi,rfl,rfl,HR⟩:=hrel
  by_cases hlt:i<n
  ·have hii:(i:Int)<(n:Int):=by omega
   obtain ⟨b,o,hp,hbw,hc⟩:=SlH.at HV.out HN.out (by omega)
   subst hp
   obtain ⟨x1,hx1⟩:∃x,x=g i:=⟨_,rfl⟩
   have HCL:Hid (∀W,Below w1.heap.size w1 W→W.cell? ⟨b,o+i,none⟩=some (.int .u16 (x1:Int))):=fun W hW=>by
    have hb9:Below w.heap.size w W:=HB1.out.trans (hW.mono HB1.out.size)
    rw [World.cell?_of_block (w:=w) (a:=⟨b,o+i,none⟩) (hb9.block b hbw),hc i hlt,HGI.out i,hx1]
   obtain ⟨s1,hs1⟩:∃s,s=nm x1:=⟨_,rfl⟩
   have HN1:Hid (∀_:Unit,nm x1=s1):=fun _=>hs1.symm
   have HF1:Hid (fitK s1=true):=by rw [hs1];exact nm_fit _
   have HP1:Hid (insP (plF vv g i) s1 {data:=#[118]}=plF vv g (i+1)):=by show _=_;rw [hs1,hx1];rfl
   have HG1:Hid (∀_:Unit,GL (plF vv g (i+1))):=fun _=>(hH vv g vv_le (i+1)).gl (by omega) (by omega)
   have HTR:Hid (Tr w1 wr gp 390 R):=HR.out.1
   have HRA:Hid (R[a]?=some (plF vv g i)):=HR.out.2.1
   obtain ⟨m1,hm1⟩:∃m,m=1+i:=⟨_,rfl⟩
   have HL1:Hid (R.length=m1):=by show _=_;rw [hm1];exact HR.out.2.2
   have hm390:m1<390:=by omega
   have HM1:Hid (m1=1+i):=hm1
   clear hx1 hs1 hc hm1 HR
   go_wp2_with (first
    | ((with_reducible refine aa (some 48) (.load 52 (.tmp 47)) ?_);go_must (refine ae (.int .u16 (x1:Int)) rfl (aj (.int .u16 (x1:Int)) (HCL.out _ HTR.out.bl) rfl fL) ?_))
    | (go_at_call 21;refine (ei x1 _).mono ?_;rintro e wn ⟨he,hb⟩;rw [HN1.out ()] at he;subst he;replace HTR:Hid (Tr w1 wn gp 390 R):=HTR.out.below hb;clear hb)
    | (go_at_call 11;refine (put_L HTR.out HRA.out m1 HL1.out s1 {data:=#[118]} HF1.out (by decide) (by rw [HP1.out];exact HG1.out ()) hm390).mono ?_;rintro e w5 ⟨rfl,hs,hf⟩;rw [HP1.out] at hs;have HR5:Hid (Tr w1 w5 gp 390 (R++[plF vv g (i+1)])):=hs;clear hs hf))
   go_roundw
   case rel=>exact ⟨i+1,m1,_,by omega,by go_num,rfl,HR5.out,jQ HL1.out,by rw [List.length_append,HL1.out,HM1.out];rfl⟩
   case measure=>simp [RowKit.intOf];omega
  ·have hin:i=n:=by omega
   subst hin
   have hii:¬(i:Int)<(i:Int):=by omega
   obtain ⟨l,hl⟩:∃l,l=plF vv g i:=⟨_,rfl⟩
   have HTR:Hid (Tr w1 wr gp 390 R):=HR.out.1
   have HRA:Hid (R[a]?=some l):=by show _=_;rw [hl];exact HR.out.2.1
   have HWL:Hid (Wl 11 i l):=by rw [hl];exact hH vv g vv_le i
   obtain ⟨N,hN⟩:∃N,N=l.length:=⟨_,rfl⟩
   have HNL:Hid (l.length=N):=hN.symm
   have hN20:N≤20:=by have h9:=HWL.out.2.2.2;omega
   obtain ⟨P,hP⟩:∃P,P=posP l s:=⟨_,rfl⟩
   have hPN:P≤N:=by rw [hP,hN];exact ly l s
   obtain ⟨B,hB⟩:∃B,B=N - P:=⟨_,rfl⟩
   obtain ⟨C,hC⟩:∃C,C=min N m:=⟨_,rfl⟩
   have hCN:C≤N:=by omega
   have HCM:Hid ((if (m:Int)<(N:Int) then (m:Int) else (N:Int))=(C:Int)):=by show _=_;split<;>omega
   obtain ⟨la,hla⟩:∃l',l'=l.take P:=⟨_,rfl⟩
   obtain ⟨lb,hlb⟩:∃l',l'=l.drop P:=⟨_,rfl⟩
   obtain ⟨lc,hlc⟩:∃l',l'=l.take C:=⟨_,rfl⟩
   have HS1:Hid (scanK l noStr noStr 100 l.length=l):=scan_full l 100 (by omega)
   have HS2:Hid (scanK l noStr s 100 l.length=la):=by show _=_;rw [scan_lo HWL.out.1 HSN.out (by omega) l.length (Nat.le_refl _),hla,hP,Nat.min_eq_right (ly l s)]
   have HS3:Hid (scanK l s noStr 100 l.length=lb):=by show _=_;rw [scan_hi HWL.out.1 (by omega) l.length (Nat.le_refl _),hlb,hP,List.take_length]
   have HS4:Hid (scanK l noStr noStr (m:Int) l.length=lc):=by show _=_;rw [scan_m l _ l.length (Nat.le_refl _),hlc,hC,hN];rfl
   have HS5:Hid (scanK l noStr noStr (-1) l.length=[]):=by show _=_;rw [scan_m l _ l.length (Nat.le_refl _)];show l.take (min l.length 0)=[];rw [Nat.min_zero];rfl
   have HLA:Hid (la.length=P):=by show _=_;rw [hla,List.length_take];omega
   have HLB:Hid (lb.length=B):=by show _=_;rw [hlb,List.length_drop];omega
   have HLC:Hid (lc.length=C):=by show _=_;rw [hlc,List.length_take];omega
   have HTC:Hid (l.take C=lc):=hlc.symm
   have HAB:Hid (la++lb=l):=by show _=_;rw [hla,hlb,List.take_append_drop]
   have HPB:Hid (P+B=N):=by show _=_;omega
   have HLE:Hid (∀j,j<P→less (la.getD j (noStr,noStr)).1 s=true):=fun j hj=>by
    rw [hla,take_get hj,eM HWL.out.1 j (by omega),←hP]
    exact decide_eq_true hj
   have HGE:Hid (0<B→less (lb.getD 0 (noStr,noStr)).1 s=false):=fun h0=>by
    rw [hlb,drop_get,eM HWL.out.1 P (by omega),←hP]
    exact decide_eq_false (by omega)
   have tk1:Nat:=0
   have tk2:Nat:=0
   have tk3:Nat:=0
   have tk4:Nat:=0
   clear HR hl hN hP hB hC hla hlb hlc
   go_wp2_with (first
    | (go_at_call 21;refine (ei x _).mono ?_;rintro e wn ⟨he,hb⟩;rw [HNX.out ()] at he;subst he;replace HTR:Hid (Tr w1 wn gp 390 R):=HTR.out.below hb;clear hb)
    | (go_at_call 18;clear tk1;refine (scan_G HTR.out HRA.out noStr noStr 100 l N HS1.out HNL.out).mono ?_;rintro e ws1 ⟨p1,c1,rfl,ho,hb⟩;have HO1:Hid (SlP ws1 (.slice p1 N c1) l):=i8 ho HNL.out;replace HTR:Hid (Tr w1 ws1 gp 390 R):=HTR.out.below hb;clear ho hb)
    | (go_at_call 18;clear tk2;refine (scan_G HTR.out HRA.out noStr s 100 la P HS2.out HLA.out).mono ?_;rintro e ws2 ⟨p2,c2,rfl,ho,hb⟩;replace HO1:Hid (SlP ws2 (.slice p1 N c1) l):=SlV.below HO1.out hb;have HO2:Hid (SlP ws2 (.slice p2 P c2) la):=i8 ho HLA.out;replace HTR:Hid (Tr w1 ws2 gp 390 R):=HTR.out.below hb;clear ho hb)
    | (go_at_call 18;clear tk3;refine (scan_G HTR.out HRA.out s noStr 100 lb B HS3.out HLB.out).mono ?_;rintro e ws3 ⟨p3,c3,rfl,ho,hb⟩;replace HO1:Hid (SlP ws3 (.slice p1 N c1) l):=SlV.below HO1.out hb;replace HO2:Hid (SlP ws3 (.slice p2 P c2) la):=SlV.below HO2.out hb;have HO3:Hid (SlP ws3 (.slice p3 B c3) lb):=i8 ho HLB.out;replace HTR:Hid (Tr w1 ws3 gp 390 R):=HTR.out.below hb;clear ho hb)
    | (go_at_call 18;clear tk4;refine (scan_G HTR.out HRA.out noStr noStr (m:Int) lc C HS4.out HLC.out).mono ?_;rintro e ws4 ⟨p4,c4,rfl,ho,hb⟩;replace HO1:Hid (SlP ws4 (.slice p1 N c1) l):=SlV.below HO1.out hb;replace HO2:Hid (SlP ws4 (.slice p2 P c2) la):=SlV.below HO2.out hb;replace HO3:Hid (SlP ws4 (.slice p3 B c3) lb):=SlV.below HO3.out hb;have HO4:Hid (SlP ws4 (.slice p4 C c4) lc):=i8 ho HLC.out;replace HTR:Hid (Tr w1 ws4 gp 390 R):=HTR.out.below hb;clear ho hb)
    | (go_at_call 18;refine (scan_G HTR.out HRA.out noStr noStr (-1) [] 0 HS5.out rfl).mono ?_;rintro e ws5 ⟨p5,c5,rfl,ho,hb⟩;replace HO1:Hid (SlP ws5 (.slice p1 N c1) l):=SlV.below HO1.out hb;replace HO2:Hid (SlP ws5 (.slice p2 P c2) la):=SlV.below HO2.out hb;replace HO3:Hid (SlP ws5 (.slice p3 B c3) lb):=SlV.below HO3.out hb;replace HO4:Hid (SlP ws5 (.slice p4 C c4) lc):=SlV.below HO4.out hb;have HO5:Hid (SlP ws5 (.slice p5 0 c5) []):=i8 ho rfl;replace HTR:Hid (Tr w1 ws5 gp 390 R):=HTR.out.below hb;clear ho hb)
    | ((with_reducible refine aa (some 81) (.binOp .rem 5 (.tmp 80) (.const (.int .u8 30)) 5) ?_);go_must (refine ae (.int .u8 (m:Int)) rfl (mS y m HM.out rfl) ?_))
    | ((with_reducible refine aa (some 82) (.convert 5 3 (.tmp 81)) ?_);go_must (refine ae (.int .i64 (m:Int)) rfl (exec_cv8i m (by omega) rfl) ?_))
    | ((with_reducible refine aM (some 117) (.call {callee:=.builtin .append,args:=#[.const (.slice none 0 0),.tmp 116],argTypes:=#[28,28]}) (some (23,false)) ?_);go_must (refine wpl_appP rfl (base:=ws5.heap.size) (N:=P) la (F:=[]) (World.ownsRow_nil _ _ _ _) (Nat.le_refl _) rfl rfl HO2.out HLA.out (Nat.zero_add P) (by omega) rfl ?_);intro pA cA wA hoA hgA;have HOA:Hid (wA.ownsRow ws5.heap.size 44 2 (.slice pA P cA) P (prs la)):=hoA;have HBA:Hid (Below ws5.heap.size ws5 wA):=fc (Below.refl _ _) (Nat.le_refl _) (World.ownsRow_nil ws5 ws5.heap.size 44 2) hgA;clear hoA hgA)
    | ((with_reducible refine aM (some 119) (.call {callee:=.builtin .append,args:=#[.tmp 117,.tmp 118],argTypes:=#[28,28]}) (some (23,false)) ?_);go_must (refine wpl_appP rfl (base:=ws5.heap.size) (N:=N) l (F:=la) HOA.out HBA.out.size rfl rfl (SlV.below HO3.out HBA.out) HLB.out HPB.out (by omega) HAB.out ?_);intro pB cB wB hoB hgB;have HOB:Hid (SlP wB (.slice pB N cB) l):=i8 hoB HNL.out;have HBB:Hid (Below ws5.heap.size ws5 wB):=fc HBA.out HBA.out.size HOA.out hgB;clear hoB hgB HOA HBA)
    | (go_at_call 19;refine (lF l N cB c1 pB p1 HNL.out (by omega) _ HOB.out (SlV.below HO1.out HBB.out)).mono ?_;rintro e wC ⟨rfl,hb⟩;replace HBB:Hid (Below ws5.heap.size ws5 wC):=HBB.out.trans (hb.mono HBB.out.size);clear hb HOB)
    | ((with_reducible refine aM (some 130) (.binOp .rem 5 (.tmp 129) (.const (.int .u8 30)) 5) (some (32,false)) ?_);go_must (refine ae (.int .u8 (m:Int)) rfl (mS y m HM.out rfl) ?_))
    | ((with_reducible refine aM (some 131) (.convert 5 3 (.tmp 130)) (some (32,false)) ?_);go_must (refine ae (.int .i64 (m:Int)) rfl (exec_cv8i m (by omega) rfl) ?_))
    | ((with_reducible refine aM (some 132) (.call {callee:=.builtin .min,args:=#[.tmp 128,.tmp 131],argTypes:=#[3,3]}) (some (32,false)) ?_);go_must (refine ae (.int .i64 (C:Int)) rfl (exec_minI (C:Int) rfl rfl HCM.out) ?_))
    | ((with_reducible refine aM (some 140) (.slice 28 (.tmp 137) none (some (.tmp 139)) none) (some (43,false)) ?_);go_must (refine ae (.slice (cutHi p1 c1) C c1) rfl (exec_sHiK bw 2 bA C (Nat.le_trans hCN (SlP.cap HNL.out HO1.out)) rfl rfl rfl) ?_))
    | (go_at_call 19;refine (lF lc C c4 c1 p4 (cutHi p1 c1) HLC.out (by omega) _ (SlV.below HO4.out HBB.out) (by rw [←HTC.out];exact SlP.hi (SlV.below HO1.out HBB.out) HNL.out C hCN)).mono ?_;rintro e wD ⟨rfl,hb⟩;replace HBB:Hid (Below ws5.heap.size ws5 wD):=HBB.out.trans (hb.mono HBB.out.size);clear hb))
   go_loopw [23] (fun vi wr=>∃j:Nat,j≤P∧vi=.int .i64 (j:Int)∧Hid (Below ws5.heap.size ws5 wr)) (fun vi _=>P - (RowKit.intOf vi).toNat)
   case atStart=>exact ⟨0,by omega,rfl,HBB.out⟩
   case round =>
    clear HBB
    obtain ⟨j,hj,rfl,HBB⟩:=hrel
    by_cases hlt:j<P
    ·have hji:(j:Int)<(P:Int):=by omega
     obtain ⟨b,o,hp⟩:=SlP.at HO2.out HLA.out (by omega)
     subst hp
     obtain ⟨ka,hka⟩:∃x,x=(la.getD j (noStr,noStr)).1:=⟨_,rfl⟩
     have HC:Hid (∀W,Below ws5.heap.size ws5 W→W.cell? ⟨b,o+j * 2,none⟩=some (.string ka)):=fun W hW=>by rw [hka];exact (SlP.cells HLA.out (SlV.below HO2.out hW) j hlt).1
     have HLS:Hid (less ka s=true):=by rw [hka];exact HLE.out j hlt
     clear hka
     go_wp2_with (first
      | ((with_reducible refine aa (some 152) (.indexAddr 28 (.tmp 150) (.tmp 151)) ?_);go_must (refine ae (.pointer (some ⟨b,o+j * 2,none⟩)) rfl (aV j rfl rfl rfl hlt) ?_))
      | ((with_reducible refine aa (some 154) (.load 9 (.tmp 153)) ?_);go_must (refine ae (.string ka) rfl (aj (.string ka) (HC.out _ HBB.out) rfl a8) ?_))
      | ((with_reducible refine aa (some 156) (.binOp .geq 9 (.tmp 154) (.tmp 155) 9) ?_);go_must (refine ae (.bool (!true)) rfl (iE ka s true rfl rfl HLS.out) ?_)))
     go_roundw
     case rel=>exact ⟨j+1,by omega,by go_num,HBB.out⟩
     case measure=>simp [RowKit.intOf];omega
    ·have hjP:j=P:=by omega
     subst hjP
     have hji:¬(j:Int)<(j:Int):=by omega
     have HEND:Hid (Below w.heap.size w wr):=HB1.out.trans ((HTR.out.bl.trans (HBB.out.mono HTR.out.bl.size)).mono HB1.out.size)
     rcases Nat.eq_zero_or_pos B with h0|h0
     ·subst h0
      go_wp2_with fail
      go_ret
      exact ⟨rfl,HEND.out⟩
     ·have h0i:((B:Int)==0)=false:=by rw [beq_eq_false_iff_ne];omega
      have h0d:decide ((B:Int)=0)=false:=decide_eq_false (by omega)
      have h0n:decide (B=0)=false:=decide_eq_false (by omega)
      have h0m:(B==0)=false:=by rw [beq_eq_false_iff_ne];omega
      obtain ⟨b,o,hp⟩:=SlP.at HO3.out HLB.out h0
      subst hp
      obtain ⟨kb,hkb⟩:∃x,x=(lb.getD 0 (noStr,noStr)).1:=⟨_,rfl⟩
      have HC:Hid (wr.cell? ⟨b,o,none⟩=some (.string kb)):=by
       have h9:=(SlP.cells HLB.out (SlV.below HO3.out HBB.out) 0 h0).1
       rw [←hkb,Nat.zero_mul,Nat.add_zero] at h9
       exact h9
      have HLS:Hid (less kb s=false):=by rw [hkb];exact HGE.out h0
      clear hkb
      go_wp2_with (first
       | ((with_reducible refine aM (some 162) (.indexAddr 28 (.tmp 161) (.const (.int .i64 0))) (some (3,false)) ?_);go_must (refine ae (.pointer (some ⟨b,o,none⟩)) rfl (exec_ixP0 rfl h0) ?_))
       | ((with_reducible refine aM (some 164) (.load 9 (.tmp 163)) (some (3,false)) ?_);go_must (refine ae (.string kb) rfl (aj (.string kb) HC.out rfl a8) ?_))
       | ((with_reducible refine aM (some 166) (.binOp .geq 9 (.tmp 164) (.tmp 165) 9) (some (3,false)) ?_);go_must (refine ae (.bool (!false)) rfl (iE kb s false rfl rfl HLS.out) ?_)))
      go_ret
      exact ⟨rfl,HEND.out⟩
theorem scans_any (K:List Nat) (p:Option Addr) (n c x y:Nat) (hn:K.length=n) (w:World) (hv:SlH w (.slice p n c) K) (ht:Tab w) (hq:QTab w) (hw2:2≤w.heap.size) :
  Calls Tryz.prog 7 #[.slice p n c,.int .u16 (x:Int),.int .u8 (y:Int)] w fun e w'=>e=.returned (.bool true)∧Below w.heap.size w w':=by
 rcases Nat.lt_or_ge 20 n with h1|h1
 ·exact scans_many p n c x y h1 w ht hq hw2
 ·exact scans_few K p n c x y hn h1 w hv ht hq hw2
end Go.Proofs.YtmlbjfklaehjnaaGreatDoor
