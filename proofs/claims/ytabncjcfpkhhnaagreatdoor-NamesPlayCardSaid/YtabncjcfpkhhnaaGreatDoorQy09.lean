import Derived.Test.YtabncjcfpkhhnaaGreatDoorQy08
set_option maxRecDepth 100000
set_option maxHeartbeats 4000000
namespace Go.Proofs.YtabncjcfpkhhnaaGreatDoor
open Go Go.RowKit Go.Maps
def delK (p:Value→Value→Prop) (key:Value):Value→Value→Prop:=fun k v=>k≠key∧p k v
section
variable {P:Program} {kT:TypeId} {w w':World} {m q:Nat} {p:Value→Value→Prop}
theorem KM.delRun (h:KM P kT w m q p) (K:Keyed P kT) {t e:TypeId} (ht:P.underlying t=some (.map kT e)) {key:Value} {kl:Lit} (hk:keyOf P kT key=some kl) (ty:TypeId) :
  ∃w',(Builtin.delete_ #[t,kT] ty #[.map (some m),key]).run P w=.ok (.tuple #[]) w'∧KM P kT w' m q (delK p key)∧Upd m w w':=by
 obtain ⟨D,ho,h1,h2⟩:=h
 obtain ⟨w',hr,ho2,hg⟩:=ho.drop K ht hk ty
 refine ⟨w',hr,⟨_,ho2,fun k kl' hk'=>?_,fun k kl' v z hk' hv=>?_⟩,⟨hg.grown.os,hg.grown.tape,hg.grown.output,hg.grown.size,fun k hk hne=>hg.grown.block k hk (by simpa using hne)⟩⟩
 ·by_cases he:kl'=kl
  ·subst he
   have e2:k=key:=K.inj hk' hk
   rw [has_del_same]
   constructor
   ·intro h;cases h
   ·rintro ⟨v,hv⟩;exact absurd e2 hv.1
  ·have e2:k≠key:=fun e=>he (by subst e;exact Option.some.inj (hk'.symm.trans hk))
   rw [has_del_other he,h1 k kl' hk']
   constructor
   ·rintro ⟨v,hv⟩;exact ⟨v,e2,hv⟩
   ·rintro ⟨v,hv⟩;exact ⟨v,hv.2⟩
 ·by_cases he:kl'=kl
  ·subst he
   exact absurd (K.inj hk' hk) hv.1
  ·rw [atKey_del_other he]
   exact h2 k kl' v z hk' hv.2
end
section
variable {P:Program} {kT:TypeId} {ops:Array Oper} {rest:List Oper} {a:Act} {w w0 w':World} {Q:Exit→Act→World→Prop} {dst:Option Tmp} {typ:TypeId} {pos:String} {aft:Array Edge} {gd:Option (Nat×Bool)} {m q:Nat} {p:Value→Value→Prop}
theorem wpl_kmDel {x k:Operand} {t e:TypeId} {key:Value} {kl:Lit} (st:KM P kT w m q p) (K:Keyed P kT) (ht:P.underlying t=some (.map kT e)) (hkey:keyOf P kT key=some kl) (hx:a.eval x=.map (some m)) (hk:a.eval k=key)
  (hh:∀w',KM P kT w' m q (delK p key)→Upd m w w'→wpList P ops Q rest (a.put dst (.tuple #[])) w') :
  wpList P ops Q ({dst:=dst,op:=.call {callee:=.builtin .delete,args:=#[x,k],argTypes:=#[t,kT]},type:=typ,pos:=pos,after:=aft,guard:=none}::rest) a w:=by
 obtain ⟨w',hr,hs,hu⟩:=st.delRun K ht hkey typ
 refine wpList_plain rfl fun K hK=>?_
 have h9:=hK _ _ (hh w' hs hu)
 unfold Oper.wp execOp
 simp only [resolve,invoke,builtin,Sem.run_bind,Sem.run_pure,Result.andThen_ok,List.map_toArray,List.map_cons,List.map_nil,hx,hk,hr]
 exact h9
end
theorem nmK_add {p:Nms} {x:Sp} (hp:NmOk p) (hx:PlOk x.1) (hn:hasN p x.1=false) (k v:Value):putK (NmK p) (.agg (pvv x.1).toArray) (.agg (spw x).toArray) k v↔NmK (addN p x) k v:=by
 constructor
 ·rintro (⟨rfl,rfl⟩|⟨_,y,hy,rfl,rfl⟩)
  ·exact ⟨x,ct.2 (Or.inl rfl),rfl,rfl⟩
  ·exact ⟨y,ct.2 (Or.inr hy),rfl,rfl⟩
 ·rintro ⟨y,hy,rfl,rfl⟩
  rcases ct.1 hy with rfl|hy
  ·exact Or.inl ⟨rfl,rfl⟩
  ·refine Or.inr ⟨fun e=>?_,y,hy,rfl,rfl⟩
   have:=aL.2 ⟨y,hy,co (hp.ok y hy) hx e⟩
   rw [hn] at this;cases this
def lessN (p U:Nms) (k:Nat):Nms:=p.filter fun x => !(U.take k).any fun y=>decide (y.1=x.1)
theorem nmK_less {p U:Nms} (hp:NmOk p) {k:Nat} {x:Sp} (hx:U[k]?=some x) (hxp:x∈p) (key v:Value):delK (NmK (lessN p U k)) (.agg (pvv x.1).toArray) key v↔NmK (lessN p U (k+1)) key v:=by
 have e:∀y:Sp,((U.take (k+1)).any fun z=>decide (z.1=y.1))=(((U.take k).any fun z=>decide (z.1=y.1))||decide (x.1=y.1)):=fun y=>by
  rw [List.take_add_one,hx]
  simp
 constructor
 ·rintro ⟨h1,y,hy,rfl,rfl⟩
  obtain ⟨y1,y2⟩:=List.mem_filter.1 hy
  refine ⟨y,List.mem_filter.2 ⟨y1,?_⟩,rfl,rfl⟩
  rw [e y]
  have h2:¬x.1=y.1:=fun h=>h1 (by rw [h])
  rw [Bool.not_eq_true'] at y2 ⊢
  rw [y2,decide_eq_false h2];rfl
 ·rintro ⟨y,hy,rfl,rfl⟩
  obtain ⟨y1,y2⟩:=List.mem_filter.1 hy
  rw [e y,Bool.not_eq_true',Bool.or_eq_false_iff] at y2
  refine ⟨fun h=>?_,y,List.mem_filter.2 ⟨y1,by rw [y2.1];rfl⟩,rfl,rfl⟩
  have h3:=co (hp.ok y y1) (hp.ok x hxp) h
  exact (of_decide_eq_false y2.2) h3.symm
theorem less_zero (p U:Nms):lessN p U 0=p:=by
 unfold lessN
 rw [List.filter_eq_self]
 intro x _
 simp
theorem less_all {p:Nms} (ks:List ByteArray) {k:Nat} (hk:(undN p ks).length≤k):lessN p (undN p ks) k=delN p ks:=by
 unfold lessN delN
 rw [List.take_of_length_le hk]
 refine List.filter_congr fun x hx=>?_
 congr 1
 rw [Bool.eq_iff_iff,List.any_eq_true]
 constructor
 ·rintro ⟨y,hy,e⟩
  obtain ⟨y1,y2⟩:=List.mem_filter.1 hy
  rw [←of_decide_eq_true e];exact y2
 ·intro h
  exact ⟨x,List.mem_filter.2 ⟨hx,h⟩,by simp⟩
theorem limOk_held (b e:Int):(decide (b=heldI b)&&decide (e=heldI e))=limOk b e:=by
 have h:∀x:Int,decide (x=heldI x)=decide (0≤x∧x≤1000000):=fun x=>by
  rw [Bool.eq_iff_iff,decide_eq_true_iff,decide_eq_true_iff]
  unfold heldI
  constructor
  ·intro h;omega
  ·intro h;omega
 unfold limOk
 rw [h,h]
theorem cM {w:World} {B N:Nat} {v:Value} {l:List ByteArray} (h:w.ownsRow B 9 1 v N (strs l)) (hN:N=l.length):StN B w v l:=by
 have hl:=World.ownsRow.lt h
 have hc:=@World.ownsRow.cells _ _ _ _ _ _ _ h
 rcases h.2 with ⟨hv,h0⟩|⟨g,cap,cur,hv,_⟩
 ·subst hv
  have hl0:l=[]:=List.length_eq_zero_iff.1 (by omega)
  subst hl0
  exact ⟨none,0,rfl,fun h=>absurd h (by simp)⟩
 ·subst hv
  refine ⟨some ⟨g,0,none⟩,cap,by rw [hN],fun _=>⟨g,rfl,(hl g rfl).1,(hl g rfl).2,fun i x hx=>?_⟩⟩
  have h2:=hc (g:=g) rfl i (.string x) (by unfold strs;rw [List.getElem?_map,hx];rfl)
  rw [aZ,Nat.zero_add] at h2
  exact h2
theorem StN.lower {B B':Nat} {w:World} {v:Value} {l:List ByteArray} (h:StN B w v l) (hb:B'≤B):StN B' w v l:=by
 obtain ⟨p,cap,hv,hc⟩:=h
 refine ⟨p,cap,hv,fun h0=>?_⟩
 obtain ⟨b,h1,h2,h3⟩:=hc h0
 exact ⟨b,h1,by omega,h3⟩
theorem dK {w:World} {m n c:Nat} {es:Array MapEntry} (h:w.heap[m]?=some (.map es c)):w.cell? ⟨m,n,none⟩=none:=by
 simp [World.cell?,h]
open Go Go.RowKit Go.Maps
theorem bi (ks:List ByteArray) (b e:Int):Tryz.prog.built 40 [(0,.string (tx ks)),(1,.int .i64 b),(2,.int .i64 e)]=some (spc ks b e).toArray:=by kernel_rfl
theorem add_n {w:World} {nb m c:Nat} {p:Nms} (h:NmAt w nb m c p) (hcc:c≤80000) (s:ByteArray) (hs:s.size≤1000) (hM:MaxL w) (b e:Int) (e0:Int) (he0:e0=addE p s b e) :
  Calls Tryz.prog 10 #[.pointer (some ⟨nb,0,none⟩),.string s,.int .i64 b,.int .i64 e] w fun e_ w'=>e_=.returned (.int .i64 e0)∧NmAt w' nb m (c+1) (if e0=0 then addN p (segsB s,b,e,0,0,0,0) else p)∧Upd m w w':=by
 have hm:=Mem.start w
 have HM:Hid (MaxL w):=hM
 have HR:Hid (NmAt w nb m c p):=h
 have HOK:Hid (NmOk p):=h.ok
 obtain ⟨ks,hks⟩:∃ks,ks=segsB s:=⟨_,rfl⟩
 have hk:PlOk ks:=by rw [hks];exact aS s
 have HKS:Hid (∀_:Unit,PlOk ks):=fun _=>hk
 obtain ⟨b0,hb0⟩:∃x,x=isP (bs s):=⟨_,rfl⟩
 obtain ⟨b1,hb1⟩:∃x,x=hasN p ks:=⟨_,rfl⟩
 obtain ⟨b2,hb2⟩:∃x,x=hasN p ks.dropLast:=⟨_,rfl⟩
 obtain ⟨lm,hlm⟩:∃x,x=limOk b e:=⟨_,rfl⟩
 obtain ⟨y0,hy0⟩:∃y,y=tx ks.dropLast:=⟨_,rfl⟩
 obtain ⟨N,hN⟩:∃n,n=(kidsN p y0).length:=⟨_,rfl⟩
 obtain ⟨hb,hhb⟩:∃x,x=heldI b:=⟨_,rfl⟩
 obtain ⟨he,hhe⟩:∃x,x=heldI e:=⟨_,rfl⟩
 have HLM:Hid (∀_:Unit,lm=(decide (tx ks=tx ks)&&(decide (b=hb)&&decide (e=he)))):=fun _=>by rw [hhb,hhe,limOk_held,hlm];simp
 have HHD:Hid (∀W,Calls Tryz.prog 24 #[.agg (spc ks b e).toArray] W fun e_ w'=>e_=.returned (.agg (spc ks hb he).toArray)∧Below W.heap.size W w'):=fun W=>by rw [hhb,hhe];exact held_n ks b e W
 have HPL:Hid (∀W,MaxL W→Calls Tryz.prog 26 #[.string s] W fun e w'=>e=.returned (.tuple #[.agg (pvv ks).toArray,.bool b0])∧Below W.heap.size W w'):=fun W hW=>by rw [hks,hb0];exact cD s W hs hW
 have HH1:Hid (∀W,Below w.heap.size w W→Calls Tryz.prog 28 #[.pointer (some ⟨nb,0,none⟩),.agg (pvv ks).toArray] W fun e w'=>e=.returned (.bool b1)∧Below W.heap.size W w'):=fun W hW=>has_n hk b1 hb1 W (HR.out.below hW)
 have HH2:Hid (∀W,Below w.heap.size w W→Calls Tryz.prog 28 #[.pointer (some ⟨nb,0,none⟩),.agg (pvv ks.dropLast).toArray] W fun e w'=>e=.returned (.bool b2)∧Below W.heap.size W w'):=fun W hW=>has_n hk.drop b2 hb2 W (HR.out.below hW)
 have HY0:Hid ((pvv ks)[0]?=some (.string y0)):=by rw [hy0];rfl
 have HKD:Hid (∀W,Below w.heap.size w W→Calls Tryz.prog 19 #[.pointer (some ⟨nb,0,none⟩),.string y0] W fun e w'=>∃p9 cap9,e=.returned (.slice p9 N cap9)∧Below W.heap.size W w'):=fun W hW=>by
  refine (kids_n (HR.out.below hW) (by omega) y0).mono ?_
  rintro e w' ⟨v,rfl,⟨p9,cap9,hv,_⟩,hb⟩
  exact ⟨p9,cap9,by rw [hv,hN],hb⟩
 have HE0:Hid (∀_:Unit,e0=if b0=false then 110 else if ks=[] then 110 else if lm=false then 12 else if b1=true then 101 else if b2=false then 100 else if 2≤N then 102 else 0):=fun _=>by
  rw [he0,hb0,hb1,hb2,hlm,hN,hy0,hks];rfl
 have HHN:Hid (∀_:Unit,b1=false→hasN p ks=false):=fun _ h=>by rw [←hb1];exact h
 rw [←hks]
 clear h hs hM hks hk hb0 hb1 hb2 hlm hy0 hN hhb hhe he0
 cases b0 with
 | false =>
  have e1:e0=110:=by rw [HE0.out ()];rfl
  subst e1
  rw [if_neg (by omega)]
  clear HE0
  go_enter Tryz.func10,Tryz.ntmps10
  go_wp2_with (first
   | (go_at_call 26;refine (HPL.out _ (HM.out.below hm.below)).mono ?_;rintro e w' ⟨he,hb⟩;subst he;replace hm:=hm.call hb;clear hb)
   | ((with_reducible refine aa (some 9) (.alloc 63) ?_);refine ae _ aB hm ?_;clear hm;intro w1 g9 hm)
   | ((with_reducible refine aa none (.store 63 (.tmp 9) (.tmp 15)) ?_);refine ag 0 (pvv ks) hm rfl rfl rfl 2 al rfl rfl (ax _) ?_;clear hm;intro w2 hm)
   | ((with_reducible refine aa (some 17) (.load 63 (.tmp 9)) ?_);refine ap 0 hm rfl rfl _ ar rfl 2 al (by rfl) ?_)
   | (go_at_call 27;refine (bC (HKS.out ()) _ (HM.out.below hm.below)).mono ?_;rintro e w' ⟨he,hb⟩;subst he;replace hm:=hm.call hb;clear hb)
   | ((with_reducible refine aa (some 21) (.build 40 #[(0,.tmp 18),(1,.tmp 19),(2,.tmp 20)]) ?_);refine az (spc ks b e) [(0,.string (tx ks)),(1,.int .i64 b),(2,.int .i64 e)] rfl (bi ks b e) ?_)
   | ((with_reducible refine aa (some 11) (.alloc 40) ?_);refine ae _ aU hm ?_;clear hm;intro w3 g11 hm)
   | ((with_reducible refine aa none (.store 40 (.tmp 11) (.tmp 21)) ?_);refine ag 0 (spc ks b e) hm rfl rfl rfl 5 an rfl rfl (aY _ _ _) ?_;clear hm;intro w4 hm))
  refine aj ?_
  refine af (T:=fun W=>Mem w [] W [(g11,spc ks b e,40),(g9,pvv ks,63)]) (by kernel_rfl) hm ?_
  intro wc hbw hmw
  clear hm
  have hm:=hmw
  clear hbw hmw
  refine aT 0 (v:=.bool false) rfl (by kernel_rfl) rfl (fun W _=>by go_simp) hm ?_
  go_simp
  refine aT 1 (v:=.bool true) rfl (by kernel_rfl) rfl (fun W _=>by go_simp) hm ?_
  go_simp
  refine aT 2 (v:=.bool true) rfl (by kernel_rfl) rfl (fun W _=>by go_simp) hm ?_
  go_simp
  refine ah 3 rfl (by kernel_rfl) (by kernel_rfl) (by kernel_rfl) rfl hm ?_
  go_simp
  refine ah 4 rfl (by kernel_rfl) (by kernel_rfl) (by kernel_rfl) rfl hm ?_
  go_simp
  refine ah 5 rfl (by kernel_rfl) (by kernel_rfl) (by kernel_rfl) rfl hm ?_
  go_simp
  refine aT 6 (v:=.bool true) rfl (by kernel_rfl) rfl (fun W _=>by go_simp) hm ?_
  go_simp
  refine aT 7 (v:=.bool true) rfl (by kernel_rfl) rfl (fun W _=>by go_simp) hm ?_
  go_simp
  refine wpAnyH_done (by kernel_rfl) ?_ _
  simp only [endsIn]
  go_wp2_with fail
  go_ret
  exact ⟨rfl,(HR.out.below hm.below).mono (Nat.le_succ _),Upd.of_below hm.below⟩
 | true =>
  by_cases hr:ks=[]
  ·have HRT:Hid (∀_:Unit,true=decide (ks=[])):=fun _=>by rw [decide_eq_true hr]
   have e1:e0=110:=by rw [HE0.out (),if_neg (by simp),if_pos hr]
   subst e1
   rw [if_neg (by omega)]
   clear HE0 hr
   go_enter Tryz.func10,Tryz.ntmps10
   go_wp2_with (first
    | (go_at_call 26;refine (HPL.out _ (HM.out.below hm.below)).mono ?_;rintro e w' ⟨he,hb⟩;subst he;replace hm:=hm.call hb;clear hb)
    | ((with_reducible refine aa (some 9) (.alloc 63) ?_);refine ae _ aB hm ?_;clear hm;intro w1 g9 hm)
    | ((with_reducible refine aa none (.store 63 (.tmp 9) (.tmp 15)) ?_);refine ag 0 (pvv ks) hm rfl rfl rfl 2 al rfl rfl (ax _) ?_;clear hm;intro w2 hm)
    | ((with_reducible refine aa (some 17) (.load 63 (.tmp 9)) ?_);refine ap 0 hm rfl rfl _ ar rfl 2 al (by rfl) ?_)
    | (go_at_call 27;refine (bC (HKS.out ()) _ (HM.out.below hm.below)).mono ?_;rintro e w' ⟨he,hb⟩;subst he;replace hm:=hm.call hb;clear hb)
    | ((with_reducible refine aa (some 21) (.build 40 #[(0,.tmp 18),(1,.tmp 19),(2,.tmp 20)]) ?_);refine az (spc ks b e) [(0,.string (tx ks)),(1,.int .i64 b),(2,.int .i64 e)] rfl (bi ks b e) ?_)
    | ((with_reducible refine aa (some 11) (.alloc 40) ?_);refine ae _ aU hm ?_;clear hm;intro w3 g11 hm)
    | ((with_reducible refine aa none (.store 40 (.tmp 11) (.tmp 21)) ?_);refine ag 0 (spc ks b e) hm rfl rfl rfl 5 an rfl rfl (aY _ _ _) ?_;clear hm;intro w4 hm))
   refine aj ?_
   refine af (T:=fun W=>Mem w [] W [(g11,spc ks b e,40),(g9,pvv ks,63)]) (by kernel_rfl) hm ?_
   intro wc hbw hmw
   clear hm
   have hm:=hmw
   clear hbw hmw
   refine aT 0 (v:=.bool true) rfl (by kernel_rfl) rfl (fun W _=>by go_simp) hm ?_
   go_simp
   refine aT 1 (v:=.bool false) rfl (by kernel_rfl) rfl (fun W _=>by go_simp) hm ?_
   go_simp
   refine aT 2 (v:=.bool false) rfl (by kernel_rfl) rfl (fun W _=>by go_simp) hm ?_
   go_simp
   refine aG 3 (v:=.agg (pvv ks).toArray) rfl (by kernel_rfl) rfl (fun W hW=>ai 0 (pvv ks) (Mem.get hW 1 rfl) rfl _ ar rfl 2 al (Nat.le_refl 2) rfl) hm ?_
   go_simp
   refine aO 4 (by kernel_rfl) rfl rfl ?_
   intro K hK
   go_wp2_with (go_at_call 25;refine (bg _).mono ?_;rintro e w' ⟨he,hb⟩;subst he;replace hm:=hm.call hb;clear hb)
   refine hK _ _ hm ?_
   clear hK K
   go_simp
   refine aG 5 (v:=.bool true) rfl (by kernel_rfl) rfl (fun W _=>bo (HKS.out ()) PlOk.nil true (HRT.out ()) rfl rfl) hm ?_
   go_simp
   refine aT 6 (v:=.bool true) rfl (by kernel_rfl) rfl (fun W _=>by go_simp) hm ?_
   go_simp
   refine aT 7 (v:=.bool true) rfl (by kernel_rfl) rfl (fun W _=>by go_simp) hm ?_
   go_simp
   refine wpAnyH_done (by kernel_rfl) ?_ _
   simp only [endsIn]
   go_wp2_with fail
   go_ret
   exact ⟨rfl,(HR.out.below hm.below).mono (Nat.le_succ _),Upd.of_below hm.below⟩
  ·have HRT:Hid (∀_:Unit,false=decide (ks=[])):=fun _=>by rw [decide_eq_false hr]
   have HE1:Hid (∀_:Unit,e0=if lm=false then 12 else if b1=true then 101 else if b2=false then 100 else if 2≤N then 102 else 0):=fun _=>by rw [HE0.out (),if_neg (by simp),if_neg hr]
   clear HE0 hr
   cases lm with
   | false =>
    have e1:e0=12:=by rw [HE1.out ()];rfl
    subst e1
    rw [if_neg (by omega)]
    clear HE1
    go_enter Tryz.func10,Tryz.ntmps10
    go_wp2_with (first
     | (go_at_call 26;refine (HPL.out _ (HM.out.below hm.below)).mono ?_;rintro e w' ⟨he,hb⟩;subst he;replace hm:=hm.call hb;clear hb)
     | ((with_reducible refine aa (some 9) (.alloc 63) ?_);refine ae _ aB hm ?_;clear hm;intro w1 g9 hm)
     | ((with_reducible refine aa none (.store 63 (.tmp 9) (.tmp 15)) ?_);refine ag 0 (pvv ks) hm rfl rfl rfl 2 al rfl rfl (ax _) ?_;clear hm;intro w2 hm)
     | ((with_reducible refine aa (some 17) (.load 63 (.tmp 9)) ?_);refine ap 0 hm rfl rfl _ ar rfl 2 al (by rfl) ?_)
     | (go_at_call 27;refine (bC (HKS.out ()) _ (HM.out.below hm.below)).mono ?_;rintro e w' ⟨he,hb⟩;subst he;replace hm:=hm.call hb;clear hb)
     | ((with_reducible refine aa (some 21) (.build 40 #[(0,.tmp 18),(1,.tmp 19),(2,.tmp 20)]) ?_);refine az (spc ks b e) [(0,.string (tx ks)),(1,.int .i64 b),(2,.int .i64 e)] rfl (bi ks b e) ?_)
     | ((with_reducible refine aa (some 11) (.alloc 40) ?_);refine ae _ aU hm ?_;clear hm;intro w3 g11 hm)
     | ((with_reducible refine aa none (.store 40 (.tmp 11) (.tmp 21)) ?_);refine ag 0 (spc ks b e) hm rfl rfl rfl 5 an rfl rfl (aY _ _ _) ?_;clear hm;intro w4 hm))
    refine aj ?_
    refine af (T:=fun W=>Mem w [] W [(g11,spc ks b e,40),(g9,pvv ks,63)]) (by kernel_rfl) hm ?_
    intro wc hbw hmw
    clear hm
    have hm:=hmw
    clear hbw hmw
    refine aT 0 (v:=.bool true) rfl (by kernel_rfl) rfl (fun W _=>by go_simp) hm ?_
    go_simp
    refine aT 1 (v:=.bool false) rfl (by kernel_rfl) rfl (fun W _=>by go_simp) hm ?_
    go_simp
    refine aT 2 (v:=.bool false) rfl (by kernel_rfl) rfl (fun W _=>by go_simp) hm ?_
    go_simp
    refine aG 3 (v:=.agg (pvv ks).toArray) rfl (by kernel_rfl) rfl (fun W hW=>ai 0 (pvv ks) (Mem.get hW 1 rfl) rfl _ ar rfl 2 al (Nat.le_refl 2) rfl) hm ?_
    go_simp
    refine aO 4 (by kernel_rfl) rfl rfl ?_
    intro K hK
    go_wp2_with (go_at_call 25;refine (bg _).mono ?_;rintro e w' ⟨he,hb⟩;subst he;replace hm:=hm.call hb;clear hb)
    refine hK _ _ hm ?_
    clear hK K
    go_simp
    refine aG 5 (v:=.bool false) rfl (by kernel_rfl) rfl (fun W _=>bo (HKS.out ()) PlOk.nil false (HRT.out ()) rfl rfl) hm ?_
    go_simp
    refine aT 6 (v:=.bool false) rfl (by kernel_rfl) rfl (fun W _=>by go_simp) hm ?_
    go_simp
    refine aT 7 (v:=.bool false) rfl (by kernel_rfl) rfl (fun W _=>by go_simp) hm ?_
    go_simp
    refine wpAnyH_done (by kernel_rfl) ?_ _
    simp only [endsIn]
    go_wp2_with fail
    refine aj ?_
    refine af (T:=fun W=>Mem w [] W [(g11,spc ks b e,40),(g9,pvv ks,63)]) (by kernel_rfl) hm ?_
    intro wc hbw hmw
    clear hm
    have hm:=hmw
    clear hbw hmw
    refine aT 0 (v:=.agg (spc ks b e).toArray) rfl (by kernel_rfl) rfl (fun W hW=>ai 0 (spc ks b e) (Mem.get hW 0 rfl) rfl _ aX rfl 5 an (Nat.le_refl 5) rfl) hm ?_
    go_simp
    refine aT 1 (v:=.agg (spc ks b e).toArray) rfl (by kernel_rfl) rfl (fun W hW=>ai 0 (spc ks b e) (Mem.get hW 0 rfl) rfl _ aX rfl 5 an (Nat.le_refl 5) rfl) hm ?_
    go_simp
    refine aO 2 (by kernel_rfl) rfl rfl ?_
    intro K hK
    go_wp2_with (go_at_call 24;refine (HHD.out _).mono ?_;rintro e_ w' ⟨he_,hb_⟩;subst he_;replace hm:=hm.call hb_;clear hb_)
    refine hK _ _ hm ?_
    clear hK K
    go_simp
    refine aT 3 (v:=.bool (!false)) rfl (by kernel_rfl) rfl (fun W _=>bU ks ks b e hb he false (by simpa using HLM.out ()) rfl rfl) hm ?_
    go_simp
    refine aT 4 (v:=.bool (!false)) rfl (by kernel_rfl) rfl (fun W _=>by go_simp) hm ?_
    go_simp
    refine wpAnyH_done (by kernel_rfl) ?_ _
    simp only [endsIn]
    go_wp2_with fail
    go_ret
    exact ⟨rfl,(HR.out.below hm.below).mono (Nat.le_succ _),Upd.of_below hm.below⟩
   | true =>
    have tk2:Nat:=0
    cases b1 with
    | true =>
     have e1:e0=101:=by rw [HE1.out ()];rfl
     subst e1
     rw [if_neg (by omega)]
     clear HE1
     go_enter Tryz.func10,Tryz.ntmps10
     go_wp2_with (first
      | (go_at_call 26;refine (HPL.out _ (HM.out.below hm.below)).mono ?_;rintro e w' ⟨he,hb⟩;subst he;replace hm:=hm.call hb;clear hb)
      | ((with_reducible refine aa (some 9) (.alloc 63) ?_);refine ae _ aB hm ?_;clear hm;intro w1 g9 hm)
      | ((with_reducible refine aa none (.store 63 (.tmp 9) (.tmp 15)) ?_);refine ag 0 (pvv ks) hm rfl rfl rfl 2 al rfl rfl (ax _) ?_;clear hm;intro w2 hm)
      | ((with_reducible refine aa (some 17) (.load 63 (.tmp 9)) ?_);refine ap 0 hm rfl rfl _ ar rfl 2 al (by rfl) ?_)
      | (go_at_call 27;refine (bC (HKS.out ()) _ (HM.out.below hm.below)).mono ?_;rintro e w' ⟨he,hb⟩;subst he;replace hm:=hm.call hb;clear hb)
      | ((with_reducible refine aa (some 21) (.build 40 #[(0,.tmp 18),(1,.tmp 19),(2,.tmp 20)]) ?_);refine az (spc ks b e) [(0,.string (tx ks)),(1,.int .i64 b),(2,.int .i64 e)] rfl (bi ks b e) ?_)
      | ((with_reducible refine aa (some 11) (.alloc 40) ?_);refine ae _ aU hm ?_;clear hm;intro w3 g11 hm)
      | ((with_reducible refine aa none (.store 40 (.tmp 11) (.tmp 21)) ?_);refine ag 0 (spc ks b e) hm rfl rfl rfl 5 an rfl rfl (aY _ _ _) ?_;clear hm;intro w4 hm))
     refine aj ?_
     refine af (T:=fun W=>Mem w [] W [(g11,spc ks b e,40),(g9,pvv ks,63)]) (by kernel_rfl) hm ?_
     intro wc hbw hmw
     clear hm
     have hm:=hmw
     clear hbw hmw
     refine aT 0 (v:=.bool true) rfl (by kernel_rfl) rfl (fun W _=>by go_simp) hm ?_
     go_simp
     refine aT 1 (v:=.bool false) rfl (by kernel_rfl) rfl (fun W _=>by go_simp) hm ?_
     go_simp
     refine aT 2 (v:=.bool false) rfl (by kernel_rfl) rfl (fun W _=>by go_simp) hm ?_
     go_simp
     refine aG 3 (v:=.agg (pvv ks).toArray) rfl (by kernel_rfl) rfl (fun W hW=>ai 0 (pvv ks) (Mem.get hW 1 rfl) rfl _ ar rfl 2 al (Nat.le_refl 2) rfl) hm ?_
     go_simp
     refine aO 4 (by kernel_rfl) rfl rfl ?_
     intro K hK
     go_wp2_with (go_at_call 25;refine (bg _).mono ?_;rintro e w' ⟨he,hb⟩;subst he;replace hm:=hm.call hb;clear hb)
     refine hK _ _ hm ?_
     clear hK K
     go_simp
     refine aG 5 (v:=.bool false) rfl (by kernel_rfl) rfl (fun W _=>bo (HKS.out ()) PlOk.nil false (HRT.out ()) rfl rfl) hm ?_
     go_simp
     refine aT 6 (v:=.bool false) rfl (by kernel_rfl) rfl (fun W _=>by go_simp) hm ?_
     go_simp
     refine aT 7 (v:=.bool false) rfl (by kernel_rfl) rfl (fun W _=>by go_simp) hm ?_
     go_simp
     refine wpAnyH_done (by kernel_rfl) ?_ _
     simp only [endsIn]
     go_wp2_with fail
     refine aj ?_
     refine af (T:=fun W=>Mem w [] W [(g11,spc ks b e,40),(g9,pvv ks,63)]) (by kernel_rfl) hm ?_
     intro wc hbw hmw
     clear hm
     have hm:=hmw
     clear hbw hmw
     refine aT 0 (v:=.agg (spc ks b e).toArray) rfl (by kernel_rfl) rfl (fun W hW=>ai 0 (spc ks b e) (Mem.get hW 0 rfl) rfl _ aX rfl 5 an (Nat.le_refl 5) rfl) hm ?_
     go_simp
     refine aT 1 (v:=.agg (spc ks b e).toArray) rfl (by kernel_rfl) rfl (fun W hW=>ai 0 (spc ks b e) (Mem.get hW 0 rfl) rfl _ aX rfl 5 an (Nat.le_refl 5) rfl) hm ?_
     go_simp
     refine aO 2 (by kernel_rfl) rfl rfl ?_
     intro K hK
     go_wp2_with (go_at_call 24;refine (HHD.out _).mono ?_;rintro e_ w' ⟨he_,hb_⟩;subst he_;replace hm:=hm.call hb_;clear hb_)
     refine hK _ _ hm ?_
     clear hK K
     go_simp
     refine aT 3 (v:=.bool (!true)) rfl (by kernel_rfl) rfl (fun W _=>bU ks ks b e hb he true (by simpa using HLM.out ()) rfl rfl) hm ?_
     go_simp
     refine aT 4 (v:=.bool (!true)) rfl (by kernel_rfl) rfl (fun W _=>by go_simp) hm ?_
     go_simp
     refine wpAnyH_done (by kernel_rfl) ?_ _
     simp only [endsIn]
     go_wp2_with (first
      | (clear tk2;go_at_call 28;refine (HH1.out _ hm.below).mono ?_;rintro e_ w' ⟨he_,hb_⟩;subst he_;replace hm:=hm.call hb_;clear hb_)
      | ((with_reducible refine aa (some 37) (.load 63 (.tmp 9)) ?_);refine ap 1 hm rfl rfl _ ar rfl 2 al (by rfl) ?_)
      | ((with_reducible refine aa (some 41) (.load 63 (.tmp 9)) ?_);refine ap 1 hm rfl rfl _ ar rfl 2 al (by rfl) ?_)
      | (go_at_call 29;refine (dI (HKS.out ()) _ (HM.out.below hm.below)).mono ?_;rintro e w' ⟨he,hb⟩;subst he;replace hm:=hm.call hb;clear hb)
      | (go_at_call 28;refine (HH2.out _ hm.below).mono ?_;rintro e_ w' ⟨he_,hb_⟩;subst he_;replace hm:=hm.call hb_;clear hb_)
      | ((with_reducible refine aa (some 48) (.load 9 (.tmp 47)) ?_);refine bM 1 0 (.string y0) hm rfl rfl ak HY0.out ?_)
      | (go_at_call 19;refine (HKD.out _ hm.below).mono ?_;rintro e_ w' ⟨p9,cap9,he_,hb_⟩;subst he_;replace hm:=hm.call hb_;clear hb_))
     go_ret
     exact ⟨rfl,(HR.out.below hm.below).mono (Nat.le_succ _),Upd.of_below hm.below⟩
    | false =>
     cases b2 with
     | false =>
      have e1:e0=100:=by rw [HE1.out ()];rfl
      subst e1
      rw [if_neg (by omega)]
      clear HE1
      go_enter Tryz.func10,Tryz.ntmps10
      go_wp2_with (first
       | (go_at_call 26;refine (HPL.out _ (HM.out.below hm.below)).mono ?_;rintro e w' ⟨he,hb⟩;subst he;replace hm:=hm.call hb;clear hb)
       | ((with_reducible refine aa (some 9) (.alloc 63) ?_);refine ae _ aB hm ?_;clear hm;intro w1 g9 hm)
       | ((with_reducible refine aa none (.store 63 (.tmp 9) (.tmp 15)) ?_);refine ag 0 (pvv ks) hm rfl rfl rfl 2 al rfl rfl (ax _) ?_;clear hm;intro w2 hm)
       | ((with_reducible refine aa (some 17) (.load 63 (.tmp 9)) ?_);refine ap 0 hm rfl rfl _ ar rfl 2 al (by rfl) ?_)
       | (go_at_call 27;refine (bC (HKS.out ()) _ (HM.out.below hm.below)).mono ?_;rintro e w' ⟨he,hb⟩;subst he;replace hm:=hm.call hb;clear hb)
       | ((with_reducible refine aa (some 21) (.build 40 #[(0,.tmp 18),(1,.tmp 19),(2,.tmp 20)]) ?_);refine az (spc ks b e) [(0,.string (tx ks)),(1,.int .i64 b),(2,.int .i64 e)] rfl (bi ks b e) ?_)
       | ((with_reducible refine aa (some 11) (.alloc 40) ?_);refine ae _ aU hm ?_;clear hm;intro w3 g11 hm)
       | ((with_reducible refine aa none (.store 40 (.tmp 11) (.tmp 21)) ?_);refine ag 0 (spc ks b e) hm rfl rfl rfl 5 an rfl rfl (aY _ _ _) ?_;clear hm;intro w4 hm))
      refine aj ?_
      refine af (T:=fun W=>Mem w [] W [(g11,spc ks b e,40),(g9,pvv ks,63)]) (by kernel_rfl) hm ?_
      intro wc hbw hmw
      clear hm
      have hm:=hmw
      clear hbw hmw
      refine aT 0 (v:=.bool true) rfl (by kernel_rfl) rfl (fun W _=>by go_simp) hm ?_
      go_simp
      refine aT 1 (v:=.bool false) rfl (by kernel_rfl) rfl (fun W _=>by go_simp) hm ?_
      go_simp
      refine aT 2 (v:=.bool false) rfl (by kernel_rfl) rfl (fun W _=>by go_simp) hm ?_
      go_simp
      refine aG 3 (v:=.agg (pvv ks).toArray) rfl (by kernel_rfl) rfl (fun W hW=>ai 0 (pvv ks) (Mem.get hW 1 rfl) rfl _ ar rfl 2 al (Nat.le_refl 2) rfl) hm ?_
      go_simp
      refine aO 4 (by kernel_rfl) rfl rfl ?_
      intro K hK
      go_wp2_with (go_at_call 25;refine (bg _).mono ?_;rintro e w' ⟨he,hb⟩;subst he;replace hm:=hm.call hb;clear hb)
      refine hK _ _ hm ?_
      clear hK K
      go_simp
      refine aG 5 (v:=.bool false) rfl (by kernel_rfl) rfl (fun W _=>bo (HKS.out ()) PlOk.nil false (HRT.out ()) rfl rfl) hm ?_
      go_simp
      refine aT 6 (v:=.bool false) rfl (by kernel_rfl) rfl (fun W _=>by go_simp) hm ?_
      go_simp
      refine aT 7 (v:=.bool false) rfl (by kernel_rfl) rfl (fun W _=>by go_simp) hm ?_
      go_simp
      refine wpAnyH_done (by kernel_rfl) ?_ _
      simp only [endsIn]
      go_wp2_with fail
      refine aj ?_
      refine af (T:=fun W=>Mem w [] W [(g11,spc ks b e,40),(g9,pvv ks,63)]) (by kernel_rfl) hm ?_
      intro wc hbw hmw
      clear hm
      have hm:=hmw
      clear hbw hmw
      refine aT 0 (v:=.agg (spc ks b e).toArray) rfl (by kernel_rfl) rfl (fun W hW=>ai 0 (spc ks b e) (Mem.get hW 0 rfl) rfl _ aX rfl 5 an (Nat.le_refl 5) rfl) hm ?_
      go_simp
      refine aT 1 (v:=.agg (spc ks b e).toArray) rfl (by kernel_rfl) rfl (fun W hW=>ai 0 (spc ks b e) (Mem.get hW 0 rfl) rfl _ aX rfl 5 an (Nat.le_refl 5) rfl) hm ?_
      go_simp
      refine aO 2 (by kernel_rfl) rfl rfl ?_
      intro K hK
      go_wp2_with (go_at_call 24;refine (HHD.out _).mono ?_;rintro e_ w' ⟨he_,hb_⟩;subst he_;replace hm:=hm.call hb_;clear hb_)
      refine hK _ _ hm ?_
      clear hK K
      go_simp
      refine aT 3 (v:=.bool (!true)) rfl (by kernel_rfl) rfl (fun W _=>bU ks ks b e hb he true (by simpa using HLM.out ()) rfl rfl) hm ?_
      go_simp
      refine aT 4 (v:=.bool (!true)) rfl (by kernel_rfl) rfl (fun W _=>by go_simp) hm ?_
      go_simp
      refine wpAnyH_done (by kernel_rfl) ?_ _
      simp only [endsIn]
      go_wp2_with (first
       | (clear tk2;go_at_call 28;refine (HH1.out _ hm.below).mono ?_;rintro e_ w' ⟨he_,hb_⟩;subst he_;replace hm:=hm.call hb_;clear hb_)
       | ((with_reducible refine aa (some 37) (.load 63 (.tmp 9)) ?_);refine ap 1 hm rfl rfl _ ar rfl 2 al (by rfl) ?_)
       | ((with_reducible refine aa (some 41) (.load 63 (.tmp 9)) ?_);refine ap 1 hm rfl rfl _ ar rfl 2 al (by rfl) ?_)
       | (go_at_call 29;refine (dI (HKS.out ()) _ (HM.out.below hm.below)).mono ?_;rintro e w' ⟨he,hb⟩;subst he;replace hm:=hm.call hb;clear hb)
       | (go_at_call 28;refine (HH2.out _ hm.below).mono ?_;rintro e_ w' ⟨he_,hb_⟩;subst he_;replace hm:=hm.call hb_;clear hb_)
       | ((with_reducible refine aa (some 48) (.load 9 (.tmp 47)) ?_);refine bM 1 0 (.string y0) hm rfl rfl ak HY0.out ?_)
       | (go_at_call 19;refine (HKD.out _ hm.below).mono ?_;rintro e_ w' ⟨p9,cap9,he_,hb_⟩;subst he_;replace hm:=hm.call hb_;clear hb_))
      go_ret
      exact ⟨rfl,(HR.out.below hm.below).mono (Nat.le_succ _),Upd.of_below hm.below⟩
     | true =>
      by_cases h2:2≤N
      ·have e1:e0=102:=by rw [HE1.out (),if_neg (by simp),if_neg (by simp),if_neg (by simp),if_pos h2]
       subst e1
       rw [if_neg (by omega)]
       have h2i:(2:Int)≤(N:Int):=by omega
       clear HE1 h2
       go_enter Tryz.func10,Tryz.ntmps10
       go_wp2_with (first
        | (go_at_call 26;refine (HPL.out _ (HM.out.below hm.below)).mono ?_;rintro e w' ⟨he,hb⟩;subst he;replace hm:=hm.call hb;clear hb)
        | ((with_reducible refine aa (some 9) (.alloc 63) ?_);refine ae _ aB hm ?_;clear hm;intro w1 g9 hm)
        | ((with_reducible refine aa none (.store 63 (.tmp 9) (.tmp 15)) ?_);refine ag 0 (pvv ks) hm rfl rfl rfl 2 al rfl rfl (ax _) ?_;clear hm;intro w2 hm)
        | ((with_reducible refine aa (some 17) (.load 63 (.tmp 9)) ?_);refine ap 0 hm rfl rfl _ ar rfl 2 al (by rfl) ?_)
        | (go_at_call 27;refine (bC (HKS.out ()) _ (HM.out.below hm.below)).mono ?_;rintro e w' ⟨he,hb⟩;subst he;replace hm:=hm.call hb;clear hb)
        | ((with_reducible refine aa (some 21) (.build 40 #[(0,.tmp 18),(1,.tmp 19),(2,.tmp 20)]) ?_);refine az (spc ks b e) [(0,.string (tx ks)),(1,.int .i64 b),(2,.int .i64 e)] rfl (bi ks b e) ?_)
        | ((with_reducible refine aa (some 11) (.alloc 40) ?_);refine ae _ aU hm ?_;clear hm;intro w3 g11 hm)
        | ((with_reducible refine aa none (.store 40 (.tmp 11) (.tmp 21)) ?_);refine ag 0 (spc ks b e) hm rfl rfl rfl 5 an rfl rfl (aY _ _ _) ?_;clear hm;intro w4 hm))
       refine aj ?_
       refine af (T:=fun W=>Mem w [] W [(g11,spc ks b e,40),(g9,pvv ks,63)]) (by kernel_rfl) hm ?_
       intro wc hbw hmw
       clear hm
       have hm:=hmw
       clear hbw hmw
       refine aT 0 (v:=.bool true) rfl (by kernel_rfl) rfl (fun W _=>by go_simp) hm ?_
       go_simp
       refine aT 1 (v:=.bool false) rfl (by kernel_rfl) rfl (fun W _=>by go_simp) hm ?_
       go_simp
       refine aT 2 (v:=.bool false) rfl (by kernel_rfl) rfl (fun W _=>by go_simp) hm ?_
       go_simp
       refine aG 3 (v:=.agg (pvv ks).toArray) rfl (by kernel_rfl) rfl (fun W hW=>ai 0 (pvv ks) (Mem.get hW 1 rfl) rfl _ ar rfl 2 al (Nat.le_refl 2) rfl) hm ?_
       go_simp
       refine aO 4 (by kernel_rfl) rfl rfl ?_
       intro K hK
       go_wp2_with (go_at_call 25;refine (bg _).mono ?_;rintro e w' ⟨he,hb⟩;subst he;replace hm:=hm.call hb;clear hb)
       refine hK _ _ hm ?_
       clear hK K
       go_simp
       refine aG 5 (v:=.bool false) rfl (by kernel_rfl) rfl (fun W _=>bo (HKS.out ()) PlOk.nil false (HRT.out ()) rfl rfl) hm ?_
       go_simp
       refine aT 6 (v:=.bool false) rfl (by kernel_rfl) rfl (fun W _=>by go_simp) hm ?_
       go_simp
       refine aT 7 (v:=.bool false) rfl (by kernel_rfl) rfl (fun W _=>by go_simp) hm ?_
       go_simp
       refine wpAnyH_done (by kernel_rfl) ?_ _
       simp only [endsIn]
       go_wp2_with fail
       refine aj ?_
       refine af (T:=fun W=>Mem w [] W [(g11,spc ks b e,40),(g9,pvv ks,63)]) (by kernel_rfl) hm ?_
       intro wc hbw hmw
       clear hm
       have hm:=hmw
       clear hbw hmw
       refine aT 0 (v:=.agg (spc ks b e).toArray) rfl (by kernel_rfl) rfl (fun W hW=>ai 0 (spc ks b e) (Mem.get hW 0 rfl) rfl _ aX rfl 5 an (Nat.le_refl 5) rfl) hm ?_
       go_simp
       refine aT 1 (v:=.agg (spc ks b e).toArray) rfl (by kernel_rfl) rfl (fun W hW=>ai 0 (spc ks b e) (Mem.get hW 0 rfl) rfl _ aX rfl 5 an (Nat.le_refl 5) rfl) hm ?_
       go_simp
       refine aO 2 (by kernel_rfl) rfl rfl ?_
       intro K hK
       go_wp2_with (go_at_call 24;refine (HHD.out _).mono ?_;rintro e_ w' ⟨he_,hb_⟩;subst he_;replace hm:=hm.call hb_;clear hb_)
       refine hK _ _ hm ?_
       clear hK K
       go_simp
       refine aT 3 (v:=.bool (!true)) rfl (by kernel_rfl) rfl (fun W _=>bU ks ks b e hb he true (by simpa using HLM.out ()) rfl rfl) hm ?_
       go_simp
       refine aT 4 (v:=.bool (!true)) rfl (by kernel_rfl) rfl (fun W _=>by go_simp) hm ?_
       go_simp
       refine wpAnyH_done (by kernel_rfl) ?_ _
       simp only [endsIn]
       go_wp2_with (first
        | (clear tk2;go_at_call 28;refine (HH1.out _ hm.below).mono ?_;rintro e_ w' ⟨he_,hb_⟩;subst he_;replace hm:=hm.call hb_;clear hb_)
        | ((with_reducible refine aa (some 37) (.load 63 (.tmp 9)) ?_);refine ap 1 hm rfl rfl _ ar rfl 2 al (by rfl) ?_)
        | ((with_reducible refine aa (some 41) (.load 63 (.tmp 9)) ?_);refine ap 1 hm rfl rfl _ ar rfl 2 al (by rfl) ?_)
        | (go_at_call 29;refine (dI (HKS.out ()) _ (HM.out.below hm.below)).mono ?_;rintro e w' ⟨he,hb⟩;subst he;replace hm:=hm.call hb;clear hb)
        | (go_at_call 28;refine (HH2.out _ hm.below).mono ?_;rintro e_ w' ⟨he_,hb_⟩;subst he_;replace hm:=hm.call hb_;clear hb_)
        | ((with_reducible refine aa (some 48) (.load 9 (.tmp 47)) ?_);refine bM 1 0 (.string y0) hm rfl rfl ak HY0.out ?_)
        | (go_at_call 19;refine (HKD.out _ hm.below).mono ?_;rintro e_ w' ⟨p9,cap9,he_,hb_⟩;subst he_;replace hm:=hm.call hb_;clear hb_))
       go_ret
       exact ⟨rfl,(HR.out.below hm.below).mono (Nat.le_succ _),Upd.of_below hm.below⟩
      ·have e1:e0=0:=by rw [HE1.out (),if_neg (by simp),if_neg (by simp),if_neg (by simp),if_neg h2]
       subst e1
       rw [if_pos rfl]
       have h2i:¬(2:Int)≤(N:Int):=by omega
       replace HHN:Hid (∀_:Unit,hasN p ks=false):=fun _=>HHN.out () rfl
       clear HE1 h2
       go_enter Tryz.func10,Tryz.ntmps10
       go_wp2_with (first
        | (go_at_call 26;refine (HPL.out _ (HM.out.below hm.below)).mono ?_;rintro e w' ⟨he,hb⟩;subst he;replace hm:=hm.call hb;clear hb)
        | ((with_reducible refine aa (some 9) (.alloc 63) ?_);refine ae _ aB hm ?_;clear hm;intro w1 g9 hm)
        | ((with_reducible refine aa none (.store 63 (.tmp 9) (.tmp 15)) ?_);refine ag 0 (pvv ks) hm rfl rfl rfl 2 al rfl rfl (ax _) ?_;clear hm;intro w2 hm)
        | ((with_reducible refine aa (some 17) (.load 63 (.tmp 9)) ?_);refine ap 0 hm rfl rfl _ ar rfl 2 al (by rfl) ?_)
        | (go_at_call 27;refine (bC (HKS.out ()) _ (HM.out.below hm.below)).mono ?_;rintro e w' ⟨he,hb⟩;subst he;replace hm:=hm.call hb;clear hb)
        | ((with_reducible refine aa (some 21) (.build 40 #[(0,.tmp 18),(1,.tmp 19),(2,.tmp 20)]) ?_);refine az (spc ks b e) [(0,.string (tx ks)),(1,.int .i64 b),(2,.int .i64 e)] rfl (bi ks b e) ?_)
        | ((with_reducible refine aa (some 11) (.alloc 40) ?_);refine ae _ aU hm ?_;clear hm;intro w3 g11 hm)
        | ((with_reducible refine aa none (.store 40 (.tmp 11) (.tmp 21)) ?_);refine ag 0 (spc ks b e) hm rfl rfl rfl 5 an rfl rfl (aY _ _ _) ?_;clear hm;intro w4 hm))
       refine aj ?_
       refine af (T:=fun W=>Mem w [] W [(g11,spc ks b e,40),(g9,pvv ks,63)]) (by kernel_rfl) hm ?_
       intro wc hbw hmw
       clear hm
       have hm:=hmw
       clear hbw hmw
       refine aT 0 (v:=.bool true) rfl (by kernel_rfl) rfl (fun W _=>by go_simp) hm ?_
       go_simp
       refine aT 1 (v:=.bool false) rfl (by kernel_rfl) rfl (fun W _=>by go_simp) hm ?_
       go_simp
       refine aT 2 (v:=.bool false) rfl (by kernel_rfl) rfl (fun W _=>by go_simp) hm ?_
       go_simp
       refine aG 3 (v:=.agg (pvv ks).toArray) rfl (by kernel_rfl) rfl (fun W hW=>ai 0 (pvv ks) (Mem.get hW 1 rfl) rfl _ ar rfl 2 al (Nat.le_refl 2) rfl) hm ?_
       go_simp
       refine aO 4 (by kernel_rfl) rfl rfl ?_
       intro K hK
       go_wp2_with (go_at_call 25;refine (bg _).mono ?_;rintro e w' ⟨he,hb⟩;subst he;replace hm:=hm.call hb;clear hb)
       refine hK _ _ hm ?_
       clear hK K
       go_simp
       refine aG 5 (v:=.bool false) rfl (by kernel_rfl) rfl (fun W _=>bo (HKS.out ()) PlOk.nil false (HRT.out ()) rfl rfl) hm ?_
       go_simp
       refine aT 6 (v:=.bool false) rfl (by kernel_rfl) rfl (fun W _=>by go_simp) hm ?_
       go_simp
       refine aT 7 (v:=.bool false) rfl (by kernel_rfl) rfl (fun W _=>by go_simp) hm ?_
       go_simp
       refine wpAnyH_done (by kernel_rfl) ?_ _
       simp only [endsIn]
       go_wp2_with fail
       refine aj ?_
       refine af (T:=fun W=>Mem w [] W [(g11,spc ks b e,40),(g9,pvv ks,63)]) (by kernel_rfl) hm ?_
       intro wc hbw hmw
       clear hm
       have hm:=hmw
       clear hbw hmw
       refine aT 0 (v:=.agg (spc ks b e).toArray) rfl (by kernel_rfl) rfl (fun W hW=>ai 0 (spc ks b e) (Mem.get hW 0 rfl) rfl _ aX rfl 5 an (Nat.le_refl 5) rfl) hm ?_
       go_simp
       refine aT 1 (v:=.agg (spc ks b e).toArray) rfl (by kernel_rfl) rfl (fun W hW=>ai 0 (spc ks b e) (Mem.get hW 0 rfl) rfl _ aX rfl 5 an (Nat.le_refl 5) rfl) hm ?_
       go_simp
       refine aO 2 (by kernel_rfl) rfl rfl ?_
       intro K hK
       go_wp2_with (go_at_call 24;refine (HHD.out _).mono ?_;rintro e_ w' ⟨he_,hb_⟩;subst he_;replace hm:=hm.call hb_;clear hb_)
       refine hK _ _ hm ?_
       clear hK K
       go_simp
       refine aT 3 (v:=.bool (!true)) rfl (by kernel_rfl) rfl (fun W _=>bU ks ks b e hb he true (by simpa using HLM.out ()) rfl rfl) hm ?_
       go_simp
       refine aT 4 (v:=.bool (!true)) rfl (by kernel_rfl) rfl (fun W _=>by go_simp) hm ?_
       go_simp
       refine wpAnyH_done (by kernel_rfl) ?_ _
       simp only [endsIn]
       go_wp2_with (first
        | (clear tk2;go_at_call 28;refine (HH1.out _ hm.below).mono ?_;rintro e_ w' ⟨he_,hb_⟩;subst he_;replace hm:=hm.call hb_;clear hb_)
        | ((with_reducible refine aa (some 37) (.load 63 (.tmp 9)) ?_);refine ap 1 hm rfl rfl _ ar rfl 2 al (by rfl) ?_)
        | ((with_reducible refine aa (some 41) (.load 63 (.tmp 9)) ?_);refine ap 1 hm rfl rfl _ ar rfl 2 al (by rfl) ?_)
        | (go_at_call 29;refine (dI (HKS.out ()) _ (HM.out.below hm.below)).mono ?_;rintro e w' ⟨he,hb⟩;subst he;replace hm:=hm.call hb;clear hb)
        | (go_at_call 28;refine (HH2.out _ hm.below).mono ?_;rintro e_ w' ⟨he_,hb_⟩;subst he_;replace hm:=hm.call hb_;clear hb_)
        | ((with_reducible refine aa (some 48) (.load 9 (.tmp 47)) ?_);refine bM 1 0 (.string y0) hm rfl rfl ak HY0.out ?_)
        | (go_at_call 19;refine (HKD.out _ hm.below).mono ?_;rintro e_ w' ⟨p9,cap9,he_,hb_⟩;subst he_;replace hm:=hm.call hb_;clear hb_))
       refine aj ?_
       refine af (T:=fun W=>Row W nb [.map (some m)] 69∧Row W g9 (pvv ks) 63∧Row W g11 (spc ks b e) 40) (by kernel_rfl) hm ?_
       intro wc hbw hmw
       clear hm hbw
       have hm:=hmw
       clear hmw
       have HC9:=HR.out.below hm.below
       have HT:Hid (Row wc nb [.map (some m)] 69∧Row wc g9 (pvv ks) 63∧Row wc g11 (spc ks b e) 40):=⟨HC9.row,hm.get 1 rfl,hm.get 0 rfl⟩
       obtain ⟨q9,hq9,km9⟩:=HC9.map
       obtain ⟨es9,c9,hmap9⟩:=km9.isMap
       have hne1:nb≠m:=aJ HT.out.1 hmap9
       have hne2:g9≠m:=aJ HT.out.2.1 hmap9
       have hne3:g11≠m:=aJ HT.out.2.2 hmap9
       have HQ9:Hid (q9≤c):=hq9
       have HKM9:Hid (KM Tryz.prog 63 wc m q9 (NmK p)):=km9
       obtain ⟨kl9,hkl9⟩:=cZ (HKS.out ())
       have HKL9:Hid (keyOf Tryz.prog 63 (.agg (pvv ks).toArray)=some kl9):=hkl9
       clear HC9 hq9 km9 hmap9 hkl9
       refine aT 0 (v:=.pointer (some ⟨nb,0,none⟩)) rfl (by kernel_rfl) rfl (fun W _=>by go_simp) HT.out ?_
       go_simp
       refine aT 1 (v:=.pointer (some ⟨nb,0,none⟩)) rfl (by kernel_rfl) rfl (fun W _=>by go_simp) HT.out ?_
       go_simp
       refine aT 2 (v:=.pointer (some ⟨nb,0,none⟩)) rfl (by kernel_rfl) rfl (fun W _=>by go_simp) HT.out ?_
       go_simp
       refine aT 3 (v:=.map (some m)) rfl (by kernel_rfl) rfl (fun W hW=>ad 0 (.map (some m)) hW.1 rfl ag_nm rfl) HT.out ?_
       go_simp
       refine aT 4 (v:=.agg (pvv ks).toArray) rfl (by kernel_rfl) rfl (fun W hW=>ai 0 (pvv ks) hW.2.1 rfl _ ar rfl 2 al (Nat.le_refl 2) rfl) HT.out ?_
       go_simp
       refine aT 5 (v:=.agg (spc ks b e).toArray) rfl (by kernel_rfl) rfl (fun W hW=>ai 0 (spc ks b e) hW.2.2 rfl _ aX rfl 5 an (Nat.le_refl 5) rfl) HT.out ?_
       go_simp
       refine aT 6 (v:=.agg (spwz ks b e).toArray) rfl (by kernel_rfl) rfl (fun W _=>cm _ [(0,.agg (spc ks b e).toArray)] (by go_simp) (built_sw ks b e)) HT.out ?_
       go_simp
       refine aO 7 (by kernel_rfl) rfl rfl ?_
       intro K hK
       refine wpl_kmPut HKM9.out bc ch (by have:=HQ9.out;omega) HKL9.out rfl rfl rfl ?_
       intro w9 km8 hu9
       have HKM8:Hid (KM Tryz.prog 63 w9 m (q9+1) (putK (NmK p) (.agg (pvv ks).toArray) (.agg (spwz ks b e).toArray))):=km8
       have HU9:Hid (Upd m wc w9):=hu9
       have HT9:Hid (Row w9 nb [.map (some m)] 69∧Row w9 g9 (pvv ks) 63∧Row w9 g11 (spc ks b e) 40):=⟨hu9.row HT.out.1 hne1,hu9.row HT.out.2.1 hne2,hu9.row HT.out.2.2 hne3⟩
       clear km8 hu9
       refine wpList_nil ?_
       refine hK _ _ HT9.out ?_
       clear hK K
       go_simp
       refine wpAnyH_done (by kernel_rfl) ?_ _
       simp only [endsIn]
       go_wp2_with fail
       go_ret
       exact ⟨rfl,⟨HT9.out.1,⟨q9+1,by have:=HQ9.out;omega,HKM8.out.same (nmK_add (x:=(ks,b,e,0,0,0,0)) HOK.out (HKS.out ()) (HHN.out ()))⟩,HOK.out.add (x:=(ks,b,e,0,0,0,0)) (HKS.out ()) (HHN.out ())⟩,(Upd.of_below hm.below).trans HU9.out⟩
end Go.Proofs.YtabncjcfpkhhnaaGreatDoor
